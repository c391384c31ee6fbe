import Derived.Test.YtocnfoeaikiecaaGreatDoorQqI
import Derived.Test.YtocnfoeaikiecaaGreatDoorMdC
set_option linter.unusedVariables false
namespace Go.Proofs.YtocnfoeaikiecaaGreatDoor
open Go.RowKit Lists Ents Go.Lib
theorem sA {α : Type} {l : List α} {i : Nat} {a : α} : l.toArray.setIfInBounds i a = (l.set i a).toArray := by simp
theorem sZ {α : Type} {l : List α} {a b : α} : (a :: l).set 0 b = b :: l := rfl
theorem sS {α : Type} {l : List α} {a b : α} {n : Nat} : (a :: l).set (n + 1) b = a :: l.set n b := rfl
theorem wpT {P : Program} {md : Region.Mode} {ops : Array Oper} {Q : Exit → Act → World → Prop} {S : World → Prop} {i : Nat} {oi : Oper} {v : Value} {fuel : Nat} {listed : Array Bool} {a : Act} {w : World} (hi : ops[i]? = some oi)
 (hb : (Region.noSelect ops && Region.free md ops listed i && (Region.ready md ops listed).contains i) = true)
 (hQ : ∀ c a w, Q (.panic c) (a.put oi.dst v) w → Q (.panic c) a w) (hy : YieldsIf P ops S oi v a) (hS : S w)
 (h : wpAnyH P md ops Q S fuel (listed.setIfInBounds i true) (a.put oi.dst v) w) : wpAnyH P md ops Q S (fuel + 1) listed a w := by
 simp only [Bool.and_eq_true] at hb
 exact wpAnyH_take hi hb.1.1 hb.1.2 hb.2 hQ hy hS h
theorem bQt {P : Program} {f : FuncId} {fn : Func} {c : Code} (hf : P.funcs[f]? = some fn) (hname : (fn.name == "runtime.NumGoroutine") = false) (hb : fn.body = some c) (args : Array Value) (w : World) : (callFunc f args).run P w = .ok (.enter f args) w := by
 have h1 : fn.name ≠ "runtime.NumGoroutine" := by simpa using hname
 simp [callFunc, hf, h1, hb]
theorem aJe {P : Program} {ops : Array Oper} {o : Oper} {a : Act} {w : World} {K : Act → World → Prop} {Q : Exit → Act → World → Prop} {F : Prop} (hg : o.guard = none) (f : FuncId) (xs : Array Operand) (ts : Array TypeId)
 (ho : o.op = .call { callee := .value (.func f), args := xs, argTypes := ts }) (vs : Array Value) (hx : xs.map a.eval = vs) (he : ∀ args w, (callFunc f args).run P w = .ok (.enter f args) w) {post : Ending → World → Prop} (hc : Calls P f vs w post)
 (h1 : ∀ v w', post (.returned v) w' → K (a.put o.dst v) w') (h2 : ∀ c w', ¬ post (.panicked c) w') (h3 : ∀ w', ¬ post .outgrown w') :
 if Region.wanted o (yielded ops a.tmps) = true then Oper.wp P o a w K Q else F := by
 have hw : Region.wanted o (yielded ops a.tmps) = true := by simp [Region.wanted, hg]
 rw [if_pos hw]
 unfold Oper.wp execOp
 simp [ho, resolve, invoke, hx, Act.eval, he, Deferred.ofValue]
 rw [Oper.upon_enter]
 refine hc.mono ?_
 intro e w' hp
 cases e with
 | returned v => exact h1 v w' hp
 | panicked c => exact absurd hp (h2 c w')
 | outgrown => exact absurd hp (h3 w')
section
variable {B g : Nat} {w W wr W4 W5 : World} {S S1 S2 S4 : Sx} {dv av ov tv pv uv uv1 uv2 uv4 : Value}
theorem Qr.via (h : Qr B w W g S dv av ov tv pv uv) (h4 : Qr B w W4 g S4 dv av ov tv pv uv4) (hV : ∃ u s c, S4 = { S with usg := u, sp := s, cd := c }) (hk : Kp W W4 [g]) {bs : List Nat} (hk5 : Kp W4 W5 bs) (hbs : ∀ b ∈ bs, W.heap.size ≤ b ∧ ∃ cs t, W4.heap[b]? = some (.cells cs t (0, 0)) ∧ t ≠ 9 ∧ t ≠ 96) : Qr B w W5 g S4 dv av ov tv pv uv4 ∧ Kp W W5 [g] := by
 obtain ⟨us, sp, cd, rfl⟩ := hV
 have hgb : g ∉ bs := fun hm => by
  obtain ⟨_, cs, t, hc, _, ht⟩ := hbs g hm
  exact aQ5 hc h4.box ht rfl
 have hold : ∀ k, k < W.heap.size → k ∉ bs := fun k hlt hm => by have := (hbs k hm).1; omega
 refine ⟨h.re ((hk5.block g h4.lt hgb).trans h4.box) (fun k c t hc hkg _ => ?_) ⟨hk5.os.trans h4.bel.os, hk5.tape.trans h4.bel.tape, hk5.output.trans h4.bel.output, Nat.le_trans h4.bel.size hk5.size, fun i hi => ?_⟩ (aQ4 h4.usg (fun k hkk => ?_)), hk.trans hk5 (fun c hc hlt => absurd hc (hold c hlt))⟩
 · have hlt := (gLt hc)
   rw [hk5.block k (Nat.lt_of_lt_of_le hlt hk.size) (hold k hlt)]
   exact hk.block k hlt (by simpa using hkg)
 · have hz := h.sz
   have hs := hk.size
   rw [hk5.block i (by omega) (hold i (by omega))]
   exact h4.bel.block i hi
 · refine hk5.block k (h4.usg.lt k hkk).2 (fun hm => ?_)
   obtain ⟨cs, hc⟩ := aQ3 h4.usg hkk
   obtain ⟨_, cs', t, hc', ht, _⟩ := hbs k hm
   exact aQ5 hc' hc ht rfl
structure Sl (B : Nat) (w W wr : World) (g : Nat) (S S1 : Sx) (dv av ov tv pv uv1 : Value) (kd : Int) (nm tx : ByteArray) (ta : Value) (lv : Value) (acc : List (ByteArray × ByteArray)) : Prop where
 qr : Qr B w wr g S1 dv av ov tv pv uv1
 vs : VS S S1
 kp : Kp W wr [g]
 tok : wr.heap[W.heap.size]? = some (.cells #[.int .i64 kd, .string nm, .string tx, ta] 99)
 ev : wr.heap[W.heap.size + 1]? = some (.cells #[.int .i64 1, .string nm, .string ⟨#[]⟩, lv] 37)
 row : wr.ownsRow W.heap.size 54 2 lv acc.length (aQc acc)
 nms : ∀ a ∈ acc, a.1.size ≤ 4000
variable {kd : Int} {nm tx : ByteArray} {ta lv lv' : Value} {acc : List (ByteArray × ByteArray)}
theorem Sl.cells (h : Sl B w W wr g S S1 dv av ov tv pv uv1 kd nm tx ta lv acc) : wr.cell? ⟨W.heap.size, 1, none⟩ = some (.string nm) ∧ wr.cell? ⟨W.heap.size, 3, none⟩ = some ta ∧ wr.cell? ⟨W.heap.size + 1, 3, none⟩ = some lv ∧ wr.frozen? ⟨W.heap.size + 1, 3, none⟩ = false := by
 have h1 := h.tok
 have h2 := h.ev
 simp [World.cell?, World.frozen?, h1, h2]
theorem Sl.on (h : Sl B w W wr g S S1 dv av ov tv pv uv1 kd nm tx ta lv acc) {W' : World} (hb : Below wr.heap.size wr W') : Sl B w W W' g S S1 dv av ov tv pv uv1 kd nm tx ta lv acc :=
 ⟨h.qr.keep hb, h.vs, h.kp.on hb, (hb.block _ (gLt h.tok)).trans h.tok, (hb.block _ (gLt h.ev)).trans h.ev, aQ4 h.row (fun k hk => hb.block k (h.row.lt k hk).2), h.nms⟩
theorem Sl.go (h : Sl B w W wr g S S1 dv av ov tv pv uv1 kd nm tx ta lv acc) {w2 : World} (hq : Qr B w w2 g S2 dv av ov tv pv uv2) (hv : VS S1 S2) (hk : Kp wr w2 [g]) : Sl B w W w2 g S S2 dv av ov tv pv uv2 kd nm tx ta lv acc := by
 have hbx : ∀ {k : Nat} {cs : Array Value} {t : TypeId}, wr.heap[k]? = some (.cells cs t) → t ≠ 96 → w2.heap[k]? = wr.heap[k]? := fun hc ht => hk.block _ (gLt hc) (by simpa using aQ5 hc h.qr.box ht)
 exact ⟨hq, h.vs.trans hv, h.kp.trans hk (fun c hc _ => hc), (hbx h.tok (by decide)).trans h.tok, (hbx h.ev (by decide)).trans h.ev, aQ4 h.row (fun k hkk => by
  obtain ⟨cs, hc⟩ := aQ3 h.row hkk
  exact hbx hc (by decide)), h.nms⟩
theorem Sl.app (hW : Qr B w W g S dv av ov tv pv uv) (h : Sl B w W wr g S S1 dv av ov tv pv uv1 kd nm tx ta lv acc) {o : Obj} {w4 : World} {X v : ByteArray} (hX : X.size ≤ 4000) (hg : (wr.alloc o).grownBy w4 lv.ownBlock) (ho : w4.ownsRow W.heap.size 54 2 lv' (acc.length + 1) (aQc acc ++ [.string X, .string v])) :
 Sl B w W (w4.setCell ⟨W.heap.size + 1, 3, none⟩ lv') g S S1 dv av ov tv pv uv1 kd nm tx ta lv' (acc ++ [(X, v)]) ∧ w4.cell? ⟨W.heap.size + 1, 3, none⟩ = some lv ∧ w4.frozen? ⟨W.heap.size + 1, 3, none⟩ = false ∧ w4.cell? ⟨W.heap.size, 1, none⟩ = some (.string nm) ∧ w4.cell? ⟨W.heap.size, 3, none⟩ = some ta ∧ (∀ k, k < W.heap.size → k ≠ g → w4.heap[k]? = W.heap[k]?) := by
 have hk4 : Kp wr w4 lv.ownBlock.toList := (Kp.below ((Below.refl _ _).alloc (Nat.le_refl _) o) _).trans (aXe hg) (fun c hc _ => hc)
 have hlvt : ∀ {k : Nat}, k ∈ lv.ownBlock.toList → ∃ cs, wr.heap[k]? = some (.cells cs 54 (0, 0)) := fun hm => aQ3 h.row (Option.mem_toList.1 hm)
 have hbx : ∀ {k : Nat} {cs : Array Value} {t : TypeId}, wr.heap[k]? = some (.cells cs t) → t ≠ 54 → w4.heap[k]? = wr.heap[k]? := fun hc ht => hk4.block _ (gLt hc) (fun hm => by
  obtain ⟨cs', hc'⟩ := hlvt hm
  exact aQ5 hc hc' ht rfl)
 have hev4 := (hbx h.ev (by decide)).trans h.ev
 have htk4 := (hbx h.tok (by decide)).trans h.tok
 have hk5 : Kp wr (w4.setCell ⟨W.heap.size + 1, 3, none⟩ lv') ((W.heap.size + 1) :: lv.ownBlock.toList) := by
  refine Kp.set (bs := (W.heap.size + 1) :: lv.ownBlock.toList) ⟨hk4.os, hk4.tape, hk4.output, hk4.size, fun k hk hn => hk4.block k hk (fun hm => hn (List.mem_cons_of_mem _ hm))⟩ (Or.inr List.mem_cons_self) 3 lv'
 obtain ⟨q5, p5⟩ := hW.via h.qr h.vs.like h.kp hk5 (fun b hb => by
  rcases List.mem_cons.1 hb with rfl | hb
  · exact ⟨by omega, _, _, h.ev, by decide, by decide⟩
  · obtain ⟨cs, hc⟩ := hlvt hb
    exact ⟨(h.row.lt b (Option.mem_toList.1 hb)).1, cs, _, hc, by decide, by decide⟩)
 have hne : ∀ {k : Nat}, k ≠ W.heap.size + 1 → (w4.setCell ⟨W.heap.size + 1, 3, none⟩ lv').heap[k]? = w4.heap[k]? := fun hk => Below.heap_setCell w4 ⟨W.heap.size + 1, 3, none⟩ lv' _ hk
 refine ⟨⟨q5, h.vs, p5, (hne (by omega)).trans ((hbx h.tok (by decide)).trans h.tok), heap_setCell_same w4 _ 3 _ _ lv' hev4, ?_, fun a ha => ?_⟩, by simp [World.cell?, hev4], by simp [World.frozen?, hev4], by simp [World.cell?, htk4], by simp [World.cell?, htk4], fun k hk hkg => (hk4.block k (Nat.lt_of_lt_of_le hk h.kp.size) (fun hm => by have := (h.row.lt k (Option.mem_toList.1 hm)).1; omega)).trans (h.kp.block k hk (by simpa using hkg))⟩
 · rw [List.length_append, aVj]
   exact aQ4 ho (fun k hk => hne (by
    obtain ⟨cs, hc⟩ := aQ3 ho hk
    exact aQ5 hc hev4 (by decide)))
 · rcases List.mem_append.1 ha with ha | ha
   · exact h.nms a ha
   · rw [List.mem_singleton] at ha; subst ha; exact hX
theorem Sl.far (h : Sl B w W wr g S S1 dv av ov tv pv uv1 kd nm tx ta lv acc) {o : Obj} {w4 : World} (hg : (wr.alloc o).grownBy w4 lv.ownBlock) {k : Nat} {cs : Array Value} {t : TypeId} (hc : wr.heap[k]? = some (.cells cs t)) (ht : t ≠ 54) : w4.heap[k]? = some (.cells cs t) := by
 have hk4 : Kp wr w4 lv.ownBlock.toList := (Kp.below ((Below.refl _ _).alloc (Nat.le_refl _) o) _).trans (aXe hg) (fun c hc _ => hc)
 rw [hk4.block k (gLt hc) (fun hm => by
  obtain ⟨cs', hc'⟩ := aQ3 h.row (Option.mem_toList.1 hm)
  exact aQ5 hc hc' ht rfl)]
 exact hc
theorem Sl.stay (h : Sl B w W wr g S S1 dv av ov tv pv uv1 kd nm tx ta lv acc) {w2 : World} (hk : Kp wr.drew w2 [g]) {k : Nat} {cs : Array Value} {t : TypeId} (hc : wr.heap[k]? = some (.cells cs t)) (ht : t ≠ 96) : w2.heap[k]? = some (.cells cs t) := by
 rw [hk.block k (gLt hc) (by simpa using aQ5 hc h.qr.box ht)]
 exact hc
end
theorem bV9 {W : World} {b : Nat} {a c d e f : Value} {t : TypeId} (h : W.heap[b]? = some (.cells #[a, c, d, e, f] t)) : W.cell? ⟨b, 1, none⟩ = some c ∧ W.cell? ⟨b, 4, none⟩ = some f := by simp [World.cell?, h]
theorem dQn {W : World} {B : Nat} {t : TypeId} {a : Option Addr} {c : Nat} {l : List At5} (h : W.ownsRow B t 5 (.slice a l.length c) l.length (aJ8 l)) : aWl W a l := by
 obtain ⟨a', c', hf, hA⟩ := bWy h
 injection hf with hf1 _ _
 subst hf1
 exact hA
theorem bJa {w w6 : World} {t : TypeId} {v : Value} {n c : Nat} (hg : ((w.alloc (.cells #[] t)).alloc (.cells #[v] t)).grownBy w6 (Value.slice (some ⟨w.heap.size, 0, none⟩) n c).ownBlock) : ∀ j u, [v][j]? = some u → w6.cell? ((⟨w.heap.size + 1, 0, none⟩ : Addr).add j) = some u := by
 intro j u hj
 match j, hj with
 | 0, hj =>
  simp at hj; subst hj
  have hb := hg.block (w.heap.size + 1) (by simp) (by simp [Value.ownBlock])
  have hn := heap_alloc_new (w.alloc (.cells #[] t)) (.cells #[v] t)
  have hs : (w.alloc (.cells #[] t)).heap.size = w.heap.size + 1 := by simp
  rw [hs] at hn
  rw [hn] at hb
  simp [Addr.add, World.cell?, hb]
 | j + 1, hj => simp at hj
theorem bJ9 {w w6 : World} {t : TypeId} {v : Value} {n c : Nat} (hg : ((w.alloc (.cells #[v] t)).alloc (.cells #[] t)).grownBy w6 (Value.slice (some ⟨w.heap.size + 1, 0, none⟩) n c).ownBlock) : ∀ j u, [v][j]? = some u → w6.cell? ((⟨w.heap.size, 0, none⟩ : Addr).add j) = some u := by
 intro j u hj
 match j, hj with
 | 0, hj =>
  simp at hj; subst hj
  have hb := hg.block w.heap.size (by simp; omega) (by simp [Value.ownBlock])
  have hn := heap_alloc_new w (.cells #[v] t)
  rw [heap_alloc_old _ _ (by simp), hn] at hb
  simp [Addr.add, World.cell?, hb]
 | j + 1, hj => simp at hj
theorem aXo {w : World} {o : Obj} {b k : Nat} {v : Value} (h : w.cell? ⟨b, k, none⟩ = some v) : (w.alloc o).cell? ⟨b, k, none⟩ = some v := aQ2 (heap_alloc_old _ _ (aQk h)) h
end Go.Proofs.YtocnfoeaikiecaaGreatDoor
