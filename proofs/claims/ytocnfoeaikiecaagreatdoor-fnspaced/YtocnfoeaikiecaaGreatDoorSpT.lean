import Derived.Test.YtocnfoeaikiecaaGreatDoorSpR
import Derived.Deep.RegionLaw
import Derived.Deep.DeepCutAuto
set_option maxRecDepth 100000
set_option maxHeartbeats 8000000
set_option linter.unusedVariables false
namespace Go.Proofs.YtocnfoeaikiecaaGreatDoor
open Go.RowKit Tryz
theorem aJ1 {P : Program} {ops : Array Oper} {o : Oper} {a : Act} {w : World} {K : Act → World → Prop} {Q : Exit → Act → World → Prop} {F : Prop} (hg : o.guard = none) (x y : Operand) (t : TypeId)
 (ho : o.op = .call { callee := .builtin .append, args := #[x, y], argTypes := #[t, t] })
 (base : Nat) (e : TypeId) (i : TypeInfo) (z : Value) (size bytes : Nat) (ht : P.underlying t = some (.slice e)) (hi : P.info? e = some i) (hz : i.zero = some z)
 (hsize : i.size = size) (hby : i.bytes = bytes) (hzs : z.cells.size = size) (hsz : 0 < size)
 (v : Value) (n : Nat) (xs : List Value) (hs : a.eval x = v) (hown : w.ownsRow base e size v n xs)
 (ad : Addr) (m c : Nat) (news : List Value) (hx : a.eval y = .slice (some ad) m c) (hl : news.length = m * size) (hnews : ∀ j u, news[j]? = some u → w.cell? (ad.add j) = some u) (h1 : ∀ u ∈ news, u.oneCell' = true)
 (h63 : n + m ≤ maxLen) (hbytes : ((n + m) + (n + m) / 4 + 192) * bytes ≤ 281474976710656) (hbase : base ≤ w.heap.size)
 (h : ∀ v' w', w'.ownsRow base e size v' (n + m) (xs ++ news) → w.grownBy w' v.ownBlock → K (a.put o.dst v') w') :
 if Region.wanted o (yielded ops a.tmps) = true then Oper.wp P o a w K Q else F := by
 have hw : Region.wanted o (yielded ops a.tmps) = true := by simp [Region.wanted, hg]
 rw [if_pos hw]
 exact wp_append_own_wide w x y t ho base e i z size bytes ht hi hz hsize hby hzs hsz v n xs hs hown ad m c news hx hl hnews h1 h63 hbytes hbase fun v' w' h2 h3 _ => h v' w' h2 h3
theorem bVo (w : World) (a b c e f : Value) (t : TypeId) (n : Nat) (hn : n = w.heap.size) : ∀ j u, [a, b, c, e, f][j]? = some u → (w.alloc (.cells #[a, b, c, e, f] t)).cell? ((⟨n, 0, none⟩ : Addr).add j) = some u := by
 subst hn
 intro j u hj
 match j, hj with
 | 0, hj => simp at hj; subst hj; simp [Addr.add]
 | 1, hj => simp at hj; subst hj; simp [Addr.add]
 | 2, hj => simp at hj; subst hj; simp [Addr.add]
 | 3, hj => simp at hj; subst hj; simp [Addr.add]
 | 4, hj => simp at hj; subst hj; simp [Addr.add]
 | (j + 5), hj => simp at hj
open Go.RowKit Strs2 Lists Plain9 PlainS PlainR PlainN Ents
def zAgg : Value := .agg zNdC
structure Ks (B : Nat) (W W' : World) : Prop where
 os : W'.os = W.os
 tape : W'.tape = W.tape
 output : W'.output = W.output
 size : W.heap.size ≤ W'.heap.size
 block : ∀ k, k < W.heap.size → (k < B ∨ ∃ cs t f, W.heap[k]? = some (.cells cs t f) ∧ t ≠ 58 ∧ t ≠ 79) → W'.heap[k]? = W.heap[k]?
theorem Ks.below {B : Nat} {W W' : World} (h : Below W.heap.size W W') : Ks B W W' := ⟨h.os, h.tape, h.output, h.size, fun k hk _ => h.block k hk⟩
theorem Ks.trans {B : Nat} {W W' W'' : World} (h : Ks B W W') (h' : Ks B W' W'') : Ks B W W'' :=
 ⟨h'.os.trans h.os, h'.tape.trans h.tape, h'.output.trans h.output, Nat.le_trans h.size h'.size, fun k hk hc => (h'.block k (Nat.lt_of_lt_of_le hk h.size) (by rw [h.block k hk hc]; exact hc)).trans (h.block k hk hc)⟩
theorem Ks.kp {B : Nat} {W W' : World} {bs : List Nat} (h : Kp W W' bs) (ht : ∀ b ∈ bs, B ≤ b ∧ ∃ cs t f, W.heap[b]? = some (.cells cs t f) ∧ (t = 58 ∨ t = 79)) : Ks B W W' :=
 ⟨h.os, h.tape, h.output, h.size, fun k hk hc => h.block k hk (fun hm => by
  obtain ⟨h1, cs, t, f, h2, h3⟩ := ht k hm
  rcases hc with hc | ⟨cs', t', f', h4, h5, h6⟩
  · omega
  · rw [h2] at h4
    cases h4
    rcases h3 with h3 | h3
    · exact h5 h3
    · exact h6 h3)⟩
theorem Ks.onK {B : Nat} {w W W' : World} {bs : List Nat} (h : Ks B w W) (hk : Kp W W' bs) (hb : ∀ b ∈ bs, w.heap.size ≤ b) : Ks B w W' :=
 ⟨hk.os.trans h.os, hk.tape.trans h.tape, hk.output.trans h.output, Nat.le_trans h.size hk.size, fun k hlt hc => (hk.block k (Nat.lt_of_lt_of_le hlt h.size) (fun hm => by have := hb k hm; omega)).trans (h.block k hlt hc)⟩
theorem Ks.setN {B : Nat} {w W : World} {b : Nat} (h : Ks B w W) (hb : w.heap.size ≤ b) (j : Nat) (u : Value) : Ks B w (W.setCell ⟨b, j, none⟩ u) :=
 h.onK (Kp.set (Kp.refl W [b]) (Or.inr List.mem_cons_self) j u) (fun c hc => by rw [List.mem_singleton] at hc; omega)
theorem Ks.setS {B : Nat} {w W : World} {b : Nat} {cs : Array Value} {t : TypeId} {f : Nat × Nat} (h : Ks B w W) (hb : B ≤ b) (hc : W.heap[b]? = some (.cells cs t f)) (ht : t = 58 ∨ t = 79) (j : Nat) (u : Value) : Ks B w (W.setCell ⟨b, j, none⟩ u) :=
 h.trans (Ks.kp (Kp.set (Kp.refl W [b]) (Or.inr List.mem_cons_self) j u) (fun c hm => by rw [List.mem_singleton] at hm; subst hm; exact ⟨hb, cs, t, f, hc, ht⟩))
def bX8 (w : World) (B sb : Nat) (st : List Scp) (ov : Value) (e : Ev) (en : Ending) (w' : World) : Prop :=
 match aZo (st.map (·.2)) e with
 | .error c => en = .returned (.tuple #[zAgg, .int .i64 c]) ∧ Ks B w w'
 | .ok n => ∃ dv av ov' mbs', en = .returned (.tuple #[.agg (aQb n dv av), .int .i64 0]) ∧ w'.ownsRow w.heap.size 54 2 dv n.decls.length (aQc n.decls) ∧ w'.ownsRow w.heap.size 30 4 av n.attrs.length (aQg n.attrs) ∧ ScAt w' B sb (st ++ [(n.name, n.decls)]) ov' mbs' ∧ Ks B w w'
theorem aWh {W : World} {B : Nat} {t : TypeId} {v : Value} {l : List (ByteArray × ByteArray)} (h : W.ownsRow B t 2 v l.length (aQc l)) : ∃ ao ac, v = .slice ao l.length ac ∧ aZ2 W ao l := by
 rcases h.2 with ⟨h0, hn⟩ | ⟨g, cap, cur, hv, _⟩
 · exact ⟨none, 0, by rw [h0, hn], 0, 0, fun h => by omega, fun i hi => by omega⟩
 · subst hv
   refine ⟨_, _, rfl, g, 0, fun _ => rfl, fun j hj => ?_⟩
   have h1 := h.cellAt (j * 2) (by omega)
   have h2 := h.cellAt (j * 2 + 1) (by omega)
   obtain ⟨a1, a2⟩ := aKa l j hj
   rw [Nat.zero_add]
   exact ⟨by rw [h1, Nat.mul_comm]; exact a1, by rw [h2, Nat.mul_comm]; exact a2⟩
theorem aXw {w : World} {base base' : Nat} {e : TypeId} {size : Nat} {v : Value} {n : Nat} {xs : List Value} (h : w.ownsRow base e size v n xs) (hb : base' ≤ base) : w.ownsRow base' e size v n xs := by
 obtain ⟨h1, h2⟩ := h
 refine ⟨h1, ?_⟩
 rcases h2 with h2 | ⟨g, cap, cur, hv, hbb, rest⟩
 · exact .inl h2
 · exact .inr ⟨g, cap, cur, hv, by omega, rest⟩
theorem bZs {nm : ByteArray} (h : nm.size ≤ 1048576) : (aQu nm).1.size ≤ 1048576 ∧ (aQu nm).2.1.size ≤ 1048576 := by
 have hx : ∀ (i j : Nat), (nm.extract i j).size ≤ 1048576 := by
  intro i j
  have : (nm.extract i j).size ≤ nm.size := by
   show (nm.extract i j).data.size ≤ _
   simp only [ByteArray.data_extract, Array.size_extract]
   show min j nm.size - i ≤ nm.size
   omega
  omega
 unfold aQu
 split
 · exact ⟨by decide, by decide⟩
 split
 · unfold aQo
   split
   · exact ⟨by decide, by decide⟩
   · split
     · exact ⟨show (0 : Nat) ≤ 1048576 by decide, h⟩
     · exact ⟨hx _ _, hx _ _⟩
 · exact ⟨by decide, by decide⟩
theorem cVl {l : List (ByteArray × ByteArray)} (h : ∀ a ∈ l, a.1.size ≤ 1048576) : ∀ d ∈ aJm l, d.1.size ≤ 1048576 := by
 intro d hd
 unfold aJm at hd
 obtain ⟨a, ha, hp⟩ := List.mem_filterMap.1 hd
 have hs := bZs (h a ha)
 unfold bQf at hp
 split at hp
 · cases hp; exact hs.2
 · split at hp
   · cases hp; exact (show (0 : Nat) ≤ 1048576 by decide)
   · cases hp
theorem cX5 {l : List (ByteArray × ByteArray)} (h : ∀ a ∈ l, a.1.size ≤ 1048576) : ∀ d ∈ aZt l, d.pre.size ≤ 1048576 := by
 intro d hd
 unfold aZt at hd
 obtain ⟨a, ha, hp⟩ := List.mem_filterMap.1 hd
 have hs := bZs (h a ha)
 unfold bQf at hp
 split at hp
 · cases hp
 · split at hp
   · cases hp
   · cases hp; exact hs.1
theorem dJ6 {w w0 : World} {b0 base : Nat} {e e0 : TypeId} {size size0 : Nat} {v : Value} {n n0 : Nat} {xs xs0 : List Value} (h : w.ownsRow base e size v n xs) (h0 : w0.ownsRow b0 e0 size0 v n0 xs0) : w.ownsRow b0 e size v n xs := by
 obtain ⟨h1, h2⟩ := h
 refine ⟨h1, ?_⟩
 rcases h2 with h2 | ⟨g, cap, cur, hv, hbb, rest⟩
 · exact .inl h2
 · exact .inr ⟨g, cap, cur, hv, (h0.lt g (by rw [hv]; rfl)).1, rest⟩
structure StF (w W : World) (B sb nb rb : Nat) (st : List Scp) (ov : Value) (mbs : List Nat) (n : Nd) (dv av : Value) : Prop where
 sc : ScAt W B sb st ov mbs
 nd : aYm W w.heap.size nb n dv av
 res : W.heap[rb]? = some (.cells zNdC 34)
 kp : Ks B w W
 nr : nb ≠ rb
 n0 : w.heap.size ≤ nb
 r0 : w.heap.size ≤ rb
theorem StF.below {w W W' : World} {B sb nb rb : Nat} {st : List Scp} {ov : Value} {mbs : List Nat} {n : Nd} {dv av : Value} (h : StF w W B sb nb rb st ov mbs n dv av) (hb : Below W.heap.size W W') : StF w W' B sb nb rb st ov mbs n dv av :=
 ⟨h.sc.below hb, bQ1 h.nd hb, (hb.block _ (gLt h.res)).trans h.res, h.kp.trans (Ks.below hb), h.nr, h.n0, h.r0⟩
theorem cY3 : (prog.info? 79).map (fun i => (i.zero, i.size, i.bytes)) = some (some (.agg #[.string ⟨#[]⟩, .string ⟨#[]⟩, .string ⟨#[]⟩, .string ⟨#[]⟩, .map none]), 5, 72) := by kernel_rfl
theorem bXb {P : Program} {ops : Array Oper} {o : Oper} {a : Act} {w : World} {K : Act → World → Prop} {Q : Exit → Act → World → Prop} {F : Prop} (hg : o.guard = none) (f : FuncId) (xs : Array Operand) (ts : Array TypeId)
 (ho : o.op = .call { callee := .value (.func f), args := xs, argTypes := ts }) (vs : Array Value) (hx : xs.map a.eval = vs) (he : ∀ args w, (callFunc f args).run P w = .ok (.enter f args) w) {post : Ending → World → Prop} (hc : Calls P f vs w post)
 (h1 : ∀ v w', post (.returned v) w' → K (a.put o.dst v) w') (h2 : ∀ c w', post (.panicked c) w' → Q (.panic c) a w') (h3 : ∀ w', ¬ post .outgrown w') :
 if Region.wanted o (yielded ops a.tmps) = true then Oper.wp P o a w K Q else F := by
 have hw : Region.wanted o (yielded ops a.tmps) = true := by simp [Region.wanted, hg]
 rw [if_pos hw]
 unfold Oper.wp execOp
 simp [ho, resolve, invoke, hx, Act.eval, he, Deferred.ofValue]
 rw [Oper.upon_enter]
 refine hc.mono ?_
 intro e w' hp
 cases e with
 | returned v => exact h1 v w' hp
 | panicked c => exact h2 c w' hp
 | outgrown => exact absurd hp (h3 w')
theorem cJq {P : Program} {f : FuncId} {fn : Func} {c : Code} (hf : P.funcs[f]? = some fn) (hname : (fn.name == "runtime.NumGoroutine") = false) (hb : fn.body = some c) (args : Array Value) (w : World) : (callFunc f args).run P w = .ok (.enter f args) w := by
 have h1 : fn.name ≠ "runtime.NumGoroutine" := by simpa using hname
 simp [callFunc, hf, h1, hb]
theorem StF.drew {w W : World} {B sb nb rb : Nat} {st : List Scp} {ov : Value} {mbs : List Nat} {n : Nd} {dv av : Value} (h : StF w W B sb nb rb st ov mbs n dv av) : StF w W.drew B sb nb rb st ov mbs n dv av := h.below ((Below.refl _ _).drew)
theorem StF.push {w W wa : World} {B sb nb rb : Nat} {st : List Scp} {ov : Value} {mbs : List Nat} {n : Nd} {dv av : Value} {mb : Nat} {dl : List (ByteArray × ByteArray)} (h : StF w W B sb nb rb st ov mbs n dv av) (hm : aKv W mb dl) (o : Obj) {v' : Value}
 (ho : wa.ownsRow B 79 5 v' (st.length + 1) (aXv (st.zip mbs) ++ [.string ⟨#[]⟩, .string ⟨#[]⟩, .string ⟨#[]⟩, .string ⟨#[]⟩, .map (some mb)])) (hg : (W.alloc o).grownBy wa ov.ownBlock) :
 StF w (wa.setCell ⟨sb, 0, none⟩ v') B sb nb rb (st ++ [(zNm, dl)]) v' (mbs ++ [mb]) n dv av ∧ wa.cell? ⟨sb, 0, none⟩ = some ov ∧ wa.frozen? ⟨sb, 0, none⟩ = false := by
 have h1 := h.below ((Below.refl _ _).alloc (Nat.le_refl _) o)
 have hm1 : aKv (W.alloc o) mb dl := hm.keep (heap_alloc_old W o hm.lt)
 have hk := aXe hg
 have hty : ∀ b ∈ ov.ownBlock.toList, ∃ cs, (W.alloc o).heap[b]? = some (.cells cs 79 (0, 0)) := fun b hb => aQ3 h1.sc.row (by rw [Option.mem_toList] at hb; exact hb)
 have hoff : ∀ {k : Nat} {c : Array Value} {s : TypeId} {f : Nat × Nat}, (W.alloc o).heap[k]? = some (.cells c s f) → s ≠ 79 → wa.heap[k]? = (W.alloc o).heap[k]? := fun hc hs => hk.block _ (gLt hc) (fun hm => by
  obtain ⟨cs, h2⟩ := hty _ hm
  exact aQ5 hc h2 hs rfl)
 have hmoff : ∀ {k : Nat} {l : List (ByteArray × ByteArray)}, aKv (W.alloc o) k l → wa.heap[k]? = (W.alloc o).heap[k]? := fun hd => hk.block _ hd.lt (fun hmem => by
  obtain ⟨cs, h2⟩ := hty _ hmem
  exact bJi h2 hd rfl)
 have hbox : wa.heap[sb]? = some (.cells #[ov] 58) := (hoff h1.sc.box (by decide)).trans h1.sc.box
 have hset : ∀ k, k ≠ sb → (wa.setCell ⟨sb, 0, none⟩ v').heap[k]? = wa.heap[k]? := fun k hk => Below.heap_setCell wa ⟨sb, 0, none⟩ v' k hk
 have hms : ∀ {k : Nat} {l : List (ByteArray × ByteArray)}, aKv (W.alloc o) k l → aKv (wa.setCell ⟨sb, 0, none⟩ v') k l := fun {k l} hd => hd.keep ((hset k (fun e => bJi h1.sc.box hd e.symm)).trans (hmoff hd))
 have hrows : ∀ {e : TypeId} {size : Nat} {v : Value} {m : Nat} {xs : List Value}, (W.alloc o).ownsRow w.heap.size e size v m xs → e ≠ 79 → e ≠ 58 → (wa.setCell ⟨sb, 0, none⟩ v').ownsRow w.heap.size e size v m xs := fun hr hs hs2 => aQ4 hr (fun k hkk => by
  obtain ⟨cs, hc⟩ := aQ3 hr hkk
  rw [hset k (aQ5 hc h1.sc.box hs2), hoff hc hs])
 refine ⟨⟨⟨?_, ?_, ?_, ?_, h.sc.bb⟩, ⟨?_, hrows h1.nd.decls (by decide) (by decide), hrows h1.nd.attrs (by decide) (by decide)⟩, ?_, ?_, h.nr, h.n0, h.r0⟩, (aV5 hbox).1, (aV5 hbox).2⟩
 · rw [heap_setCell_same wa sb 0 _ _ _ hbox]; rfl
 · rw [List.length_append, List.length_append, h.sc.len]; rfl
 · have e1 : (st ++ [(zNm, dl)]).zip (mbs ++ [mb]) = st.zip mbs ++ [((zNm, dl), mb)] := by rw [List.zip_append h.sc.len.symm]; rfl
   rw [e1, bZy, List.length_append]
   exact aQ4 ho (fun k hkk => hset k (by
    obtain ⟨cs, hc⟩ := aQ3 ho hkk
    exact aQ5 hc hbox (by decide)))
 · intro j hj hmj
   by_cases hjs : j < st.length
   · have hjm : j < mbs.length := by rw [h.sc.len]; exact hjs
     rw [List.getElem_append_left hjs, List.getElem_append_left hjm]
     exact hms (h1.sc.maps j hjs hjm)
   · have hje : j = st.length := by rw [List.length_append] at hj; simp at hj; omega
     subst hje
     have e1 : (st ++ [(zNm, dl)])[st.length]'hj = (zNm, dl) := by simp
     have e2 : (mbs ++ [mb])[st.length]'hmj = mb := by
      rw [List.getElem_append_right (by rw [h.sc.len]; exact Nat.le_refl _)]
      simp [h.sc.len]
     rw [e1, e2]
     exact hms hm1
 · rw [hset nb (aQ5 h1.nd.box h1.sc.box (by decide)), hoff h1.nd.box (by decide)]; exact h1.nd.box
 · rw [hset rb (aQ5 h1.res h1.sc.box (by decide)), hoff h1.res (by decide)]; exact h1.res
 · refine (h1.kp.trans (Ks.kp hk (fun b hb => ?_))).setS h1.sc.bb hbox (Or.inl rfl) _ _
   obtain ⟨cs, h2⟩ := hty b hb
   rw [Option.mem_toList] at hb
   exact ⟨(h1.sc.row.lt b hb).1, cs, _, _, h2, Or.inr rfl⟩
theorem set8 {B : Nat} {W : World} {w : World} {rb : Nat} (h : Ks B w W) (hr : w.heap.size ≤ rb) (a b c d e f g i : Value) : Ks B w ((((((((W.setCell ⟨rb, 0, none⟩ a).setCell ⟨rb, 1, none⟩ b).setCell ⟨rb, 2, none⟩ c).setCell ⟨rb, 3, none⟩ d).setCell ⟨rb, 4, none⟩ e).setCell ⟨rb, 5, none⟩ f).setCell ⟨rb, 6, none⟩ g).setCell ⟨rb, 7, none⟩ i) :=
 (((((((h.setN hr _ _).setN hr _ _).setN hr _ _).setN hr _ _).setN hr _ _).setN hr _ _).setN hr _ _).setN hr _ _
structure Fin8 (w W W' : World) (B : Nat) : Prop where
 ks : Ks B w W'
 row : ∀ {e : TypeId} {size : Nat} {v : Value} {m : Nat} {xs : List Value}, W.ownsRow w.heap.size e size v m xs → e ≠ 34 → W'.ownsRow w.heap.size e size v m xs
 sc : ∀ {sb : Nat} {st : List Scp} {ov : Value} {mbs : List Nat}, ScAt W B sb st ov mbs → ScAt W' B sb st ov mbs
theorem fin8 {w W : World} {B rb : Nat} {cs : Array Value} {f : Nat × Nat} (hr : W.heap[rb]? = some (.cells cs 34 f)) (h0 : w.heap.size ≤ rb) (hk : Ks B w W) (a b c d e g h i : Value) :
 Fin8 w W ((((((((W.setCell ⟨rb, 0, none⟩ a).setCell ⟨rb, 1, none⟩ b).setCell ⟨rb, 2, none⟩ c).setCell ⟨rb, 3, none⟩ d).setCell ⟨rb, 4, none⟩ e).setCell ⟨rb, 5, none⟩ g).setCell ⟨rb, 6, none⟩ h).setCell ⟨rb, 7, none⟩ i) B := by
 have hm : W.heap.size ≤ rb ∨ rb ∈ [rb] := Or.inr List.mem_cons_self
 have hkp : Kp W ((((((((W.setCell ⟨rb, 0, none⟩ a).setCell ⟨rb, 1, none⟩ b).setCell ⟨rb, 2, none⟩ c).setCell ⟨rb, 3, none⟩ d).setCell ⟨rb, 4, none⟩ e).setCell ⟨rb, 5, none⟩ g).setCell ⟨rb, 6, none⟩ h).setCell ⟨rb, 7, none⟩ i) [rb] :=
  ((((((((Kp.refl W _).set hm _ _).set hm _ _).set hm _ _).set hm _ _).set hm _ _).set hm _ _).set hm _ _).set hm _ _
 refine ⟨set8 hk h0 _ _ _ _ _ _ _ _, fun hw he => aQ4 hw (fun k hkk => hkp.block _ (hw.lt k hkk).2 (fun hmem => ?_)), fun hs => hs.kept hkp (fun b hb => ?_)⟩
 · obtain ⟨cs, hc⟩ := aQ3 hw hkk
   rw [List.mem_singleton] at hmem
   exact aQ5 hc hr he hmem
 · rw [List.mem_singleton] at hb
   subst hb
   exact ⟨_, _, _, hr, by decide, by decide⟩
theorem StF.away {w W W' : World} {B sb nb rb : Nat} {st : List Scp} {ov : Value} {mbs : List Nat} {n : Nd} {dv av : Value} (h : StF w W B sb nb rb st ov mbs n dv av) (hk : Kp W W' (nb :: blk av)) : W'.heap[rb]? = some (.cells zNdC 34) ∧ Ks B w W' := by
 constructor
 · refine (hk.block _ (gLt h.res) (fun hm => ?_)).trans h.res
   rcases List.mem_cons.1 hm with e | hm
   · exact h.nr e.symm
   · obtain ⟨cs, hc⟩ := aQ3 h.nd.attrs (by unfold blk at hm; rw [Option.mem_toList] at hm; exact hm)
     exact aQ5 h.res hc (by decide) rfl
 · refine h.kp.onK hk (fun b hb => ?_)
   rcases List.mem_cons.1 hb with e | hm
   · rw [e]; exact h.n0
   · exact (h.nd.attrs.lt b (by unfold blk at hm; rw [Option.mem_toList] at hm; exact hm)).1
theorem dXk {w : World} {base : Nat} {e : TypeId} {size : Nat} {a : Option Addr} {n c : Nat} {xs : List Value} (h : w.ownsRow base e size (.slice a n c) n xs) : n ≤ c := by
 rcases h.2 with ⟨h0, hn⟩ | ⟨g, cap, cur, hv, hb, hg, hnc, _⟩
 · omega
 · cases hv; exact hnc
theorem cKw (k : Nat) (P : List Value) (hP : P.length = k * 5) (a b c d e a' b' c' d' : Value) : ((((P ++ [a, b, c, d, e]).set (k * 5) a').set (k * 5 + 1) b').set (k * 5 + 2) c').set (k * 5 + 3) d' = P ++ [a', b', c', d', e] := by
 rw [← hP]
 simp
theorem dXh {sc : List (List (ByteArray × ByteArray))} {n : Nd} {α : Type} (f : ByteArray → List Nm → Except Int α) (h : plZ sc n = none) : (match aZp sc n.name.pre with | none => .error 5 | some v => match aXh sc n.attrs with | none => .error 5 | some l => f v l) = (.error 5 : Except Int α) := by
 unfold plZ at h
 cases hs : aZp sc n.name.pre with
 | none => rfl
 | some v =>
  rw [hs] at h
  cases hp : aXh sc n.attrs with
  | none => rfl
  | some l => rw [hp] at h; cases h
theorem dXg {sc : List (List (ByteArray × ByteArray))} {n n' : Nd} (h : plZ sc n = some n') : ∃ v l, aZp sc n.name.pre = some v ∧ aXh sc n.attrs = some l ∧ n' = { n with name := { n.name with spc := v }, attrs := l } := by
 unfold plZ at h
 cases hs : aZp sc n.name.pre with
 | none => rw [hs] at h; cases h
 | some v =>
  rw [hs] at h
  cases hp : aXh sc n.attrs with
  | none => rw [hp] at h; cases h
  | some l => rw [hp] at h; cases h; exact ⟨v, l, rfl, rfl, rfl⟩
theorem StF.named {w W : World} {B sb nb rb g vc : Nat} {st : List Scp} {mbs : List Nat} {mb : Nat} {n : Nd} {dv av : Value} {dl : List (ByteArray × ByteArray)} (hl : mbs.length = st.length) (h : StF w W B sb nb rb (st ++ [(zNm, dl)]) (.slice (some ⟨g, 0, none⟩) (st.length + 1) vc) (mbs ++ [mb]) n dv av) (nm : Nm) :
 StF w ((((W.setCell ⟨g, st.length * 5, none⟩ (.string nm.pre)).setCell ⟨g, st.length * 5 + 1, none⟩ (.string nm.loc)).setCell ⟨g, st.length * 5 + 2, none⟩ (.string nm.spc)).setCell ⟨g, st.length * 5 + 3, none⟩ (.string nm.val)) B sb nb rb (st ++ [(nm, dl)]) (.slice (some ⟨g, 0, none⟩) (st.length + 1) vc) (mbs ++ [mb]) n dv av := by
 obtain ⟨cs, hc⟩ := aQ3 h.sc.row rfl
 obtain ⟨W', hW'⟩ : ∃ W', (((W.setCell ⟨g, st.length * 5, none⟩ (.string nm.pre)).setCell ⟨g, st.length * 5 + 1, none⟩ (.string nm.loc)).setCell ⟨g, st.length * 5 + 2, none⟩ (.string nm.spc)).setCell ⟨g, st.length * 5 + 3, none⟩ (.string nm.val) = W' := ⟨_, rfl⟩
 have hkp : Kp W W' [g] := by
  rw [← hW']
  exact ((((Kp.refl W [g]).set (Or.inr List.mem_cons_self) _ _).set (Or.inr List.mem_cons_self) _ _).set (Or.inr List.mem_cons_self) _ _).set (Or.inr List.mem_cons_self) _ _
 have hoff : ∀ {k : Nat} {c : Array Value} {s : TypeId} {f : Nat × Nat}, W.heap[k]? = some (.cells c s f) → s ≠ 79 → W'.heap[k]? = W.heap[k]? := fun hh hs => hkp.block _ (gLt hh) (fun hm => by
  rw [List.mem_singleton] at hm
  exact aQ5 hh hc hs hm)
 have hrows : ∀ {e : TypeId} {size : Nat} {v : Value} {m : Nat} {xs : List Value}, W.ownsRow w.heap.size e size v m xs → e ≠ 79 → W'.ownsRow w.heap.size e size v m xs := fun hr hs => aQ4 hr (fun k hkk => by
  obtain ⟨cs, hc⟩ := aQ3 hr hkk
  exact hoff hc hs)
 have hlen : ∀ (x : Scp), (st ++ [x]).length = st.length + 1 := fun x => by simp
 have hz : ∀ (x : Scp), aXv ((st ++ [x]).zip (mbs ++ [mb])) = aXv (st.zip mbs) ++ [.string x.1.pre, .string x.1.loc, .string x.1.spc, .string x.1.val, .map (some mb)] := fun x => by
  rw [List.zip_append hl.symm, bZy]; rfl
 have hrow := h.sc.row
 rw [hlen, hz] at hrow
 have hk5 : (aXv (st.zip mbs)).length = st.length * 5 := by rw [cQw, List.length_zip, hl, Nat.min_self]
 have hrow' := ((((hrow.stored (st.length * 5) (.string nm.pre)).1.stored (st.length * 5 + 1) (.string nm.loc)).1.stored (st.length * 5 + 2) (.string nm.spc)).1.stored (st.length * 5 + 3) (.string nm.val)).1
 rw [cKw _ _ hk5, hW'] at hrow'
 rw [hW']
 refine ⟨⟨(hoff h.sc.box (by decide)).trans h.sc.box, by simp [hl], ?_, ?_, h.sc.bb⟩, ⟨(hoff h.nd.box (by decide)).trans h.nd.box, hrows h.nd.decls (by decide), hrows h.nd.attrs (by decide)⟩, (hoff h.res (by decide)).trans h.res, ?_, h.nr, h.n0, h.r0⟩
 · rw [hlen, hz]; exact hrow'
 · intro j hj hm
   have hj' : j < (st ++ [(zNm, dl)]).length := by rw [hlen]; rw [hlen] at hj; exact hj
   have hd := h.sc.maps j hj' hm
   have e1 : ((st ++ [(nm, dl)])[j]'hj).2 = ((st ++ [(zNm, dl)])[j]'hj').2 := by
    by_cases hjs : j < st.length
    · rw [List.getElem_append_left hjs, List.getElem_append_left hjs]
    · have hje : j = st.length := by rw [hlen] at hj; omega
      subst hje
      simp
   rw [e1]
   exact hd.keep (hkp.block _ hd.lt (fun hmem => by
    rw [List.mem_singleton] at hmem
    exact bJi hc hd hmem.symm))
 · exact h.kp.trans (Ks.kp hkp (fun b hb => by
    rw [List.mem_singleton] at hb
    subst hb
    exact ⟨(h.sc.row.lt b rfl).1, cs, _, _, hc, Or.inr rfl⟩))
theorem cKi (w : World) (B sb : Nat) (st : List Scp) (ov : Value) (mbs : List Nat) (hS : ScAt w B sb st ov mbs) (hst : st.length ≤ 100) (e : Ev) (ao : Option Addr) (ac : Nat) (m : Int) (hE : EnvS w m) (hA : aZ2 w ao e.attrs) (hl : e.attrs.length ≤ 1000) (hnm : e.name.size ≤ 1048576) (hna : ∀ a ∈ e.attrs, a.1.size ≤ 1048576) :
 Calls prog 31 #[.pointer (some ⟨sb, 0, none⟩), .agg #[.int .i64 e.kind, .string e.name, .string e.text, .slice ao e.attrs.length ac]] w (bX8 w B sb st ov e) := by
 obtain ⟨W3, hW3⟩ := nmE (((w.alloc (.cells #[.int .i64 e.kind, .string e.name, .string e.text, .slice ao e.attrs.length ac] 37)).alloc (.cells #[.int .i64 0, .string ⟨#[]⟩, .string ⟨#[]⟩, .string ⟨#[]⟩, .string ⟨#[]⟩, .slice none 0 0, .slice none 0 0, .string ⟨#[]⟩] 34)).alloc (.cells #[.bool false] 107))
 have hB3 : Below w.heap.size w W3 := by rw [← hW3]; exact ((bAl).alloc (by simp) _).alloc (by simp; omega) _
 have hq3 : W3.heap[w.heap.size + 1 + 1]? = some (.cells #[.bool false] 107) := by
  rw [← hW3]
  have : ((w.alloc (.cells #[.int .i64 e.kind, .string e.name, .string e.text, .slice ao e.attrs.length ac] 37)).alloc (.cells #[.int .i64 0, .string ⟨#[]⟩, .string ⟨#[]⟩, .string ⟨#[]⟩, .string ⟨#[]⟩, .slice none 0 0, .slice none 0 0, .string ⟨#[]⟩] 34)).heap.size = w.heap.size + 1 + 1 := by simp
  rw [← this]; exact heap_alloc_new _ _
 have hr3 : W3.heap[w.heap.size + 1]? = some (.cells zNdC 34) := by
  rw [← hW3, heap_alloc_old _ _ (by simp)]
  have : (w.alloc (.cells #[.int .i64 e.kind, .string e.name, .string e.text, .slice ao e.attrs.length ac] 37)).heap.size = w.heap.size + 1 := by simp
  rw [← this]; exact heap_alloc_new _ _
 have hev3 : W3.heap[w.heap.size]? = some (.cells #[.int .i64 e.kind, .string e.name, .string e.text, .slice ao e.attrs.length ac] 37) := by
  rw [← hW3, heap_alloc_old _ _ (by simp; omega), heap_alloc_old _ _ (by simp)]; exact heap_alloc_new _ _
 have hun := bWk W3 (w.heap.size + 1 + 1) e ao ac false m (hE.below hB3) (hA.grown (Ents.below_grown hB3)) hl hnm hna hq3 (hE.far (by omega))
 obtain ⟨v0, v1, v2, v3⟩ := aX0 hev3
 have HS := aQ0 hS
 have HE := aQ0 hE
 have HB3 := aQ0 hB3
 have HR3 := aQ0 hr3
 have HQ3 := aQ0 hq3
 clear hS hE hA hB3 hr3 hq3 hev3
 go_enter func31, ntmps31
 go_wp2_with fail
 refine hun.mono ?_
 rintro en w4 ⟨dv, av, rfl, hd4, ha4, hq4, hk4⟩
 obtain ⟨U, hU⟩ := nmE (unNd e e.attrs.length)
 rw [hU]
 unfold aQb
 have hfull : e.attrs.take e.attrs.length = e.attrs := List.take_of_length_le (Nat.le_refl _)
 have hUd : aJm e.attrs = U.decls := by rw [← hU]; unfold unNd; rw [hfull]
 have hUa : aZt e.attrs = U.attrs := by rw [← hU]; unfold unNd; rw [hfull]
 rw [hUd] at hd4
 rw [hUa] at ha4
 obtain ⟨da, dc, rfl, _⟩ := aQr hd4
 obtain ⟨aa, ac', rfl, _⟩ := aQr ha4
 obtain ⟨W5, hW5⟩ := nmE (w4.alloc (.cells (aQb U (.slice da U.decls.length dc) (.slice aa U.attrs.length ac')) 34))
 have hb5 : Below w4.heap.size w4 W5 := by rw [← hW5]; exact bAl
 have N5 : Hid (aYm W5 W3.heap.size w4.heap.size U (.slice da U.decls.length dc) (.slice aa U.attrs.length ac')) := aQ0 ⟨by rw [← hW5]; exact heap_alloc_new _ _, aQ4 hd4 (fun k hk => hb5.block _ (hd4.lt k hk).2), aQ4 ha4 (fun k hk => hb5.block _ (ha4.lt k hk).2)⟩
 have hq5 := (hb5.block _ (gLt hq4)).trans hq4
 unfold aQb at hW5
 have hsz3 : W3.heap.size = w.heap.size + 1 + 1 + 1 := by rw [← hW3]; simp
 have hs4 : ScAt w4 B sb st ov mbs := (HS.out.below HB3.out).kept hk4 (fun b hb => by rw [List.mem_singleton] at hb; subst hb; exact ⟨_, _, _, HQ3.out, by decide, by decide⟩)
 have hk4w : Ks B w w4 := (Ks.below HB3.out).onK hk4 (fun c hc => by rw [List.mem_singleton] at hc; omega)
 have hr4 : w4.heap[w.heap.size + 1]? = some (.cells zNdC 34) := (hk4.block _ (gLt HR3.out) (by rw [List.mem_singleton]; omega)).trans HR3.out
 have hr4l := (gLt hr4)
 have F5 : Hid (StF w W5 B sb w4.heap.size (w.heap.size + 1) st ov mbs U (.slice da U.decls.length dc) (.slice aa U.attrs.length ac')) := aQ0 ⟨hs4.below hb5, ⟨N5.out.box, aXw N5.out.decls (by omega), aXw N5.out.attrs (by omega)⟩, (hb5.block _ hr4l).trans hr4, hk4w.trans (Ks.below hb5), by omega, by omega, by omega⟩
 rw [Bool.false_or] at hq5
 obtain ⟨q0, _⟩ := aV5 hq5
 obtain ⟨n0, n1, n2, n3, n4, n5, n6, n7, _⟩ := aXm N5.out.box
 obtain ⟨r0, r1, r2, r3, r4, r5, r6, r7, f0, f1, f2, f3, f4, f5, f6, f7⟩ := aX3 F5.out.res
 have hUp : (aQu e.name).1 = U.name.pre := by rw [← hU]; rfl
 have HUP := aQ0 hUp
 have HUD := aQ0 hUd
 have HUA := aQ0 hUa
 have HU := aQ0 hU
 have HDZ : Hid (∀ d ∈ U.decls, d.1.size ≤ 1048576) := aQ0 (fun d hd => by
  rw [← hUd] at hd
  exact cVl hna d hd)
 have hdr := bVm W5 da _ dc U.decls rfl (by have := bX5 e.attrs; rw [hUd] at this; omega) (by
  obtain ⟨x, y, hxy, hE⟩ := aWh F5.out.nd.decls
  cases hxy
  exact hE)
 obtain ⟨X, hX⟩ := nmE (aZo (st.map (·.2)) e)
 have HX := aQ0 hX
 clear hun v0 v1 v2 v3 hd4 ha4 hq4 hk4 hb5 hq5 hs4 hk4w hr4 hr4l hU hUd hUa hUp N5 HR3 HQ3 HB3 hsz3 hfull hW3
 have post : ∀ en w', (match X with
  | .error c => en = .returned (.tuple #[zAgg, .int .i64 c]) ∧ Ks B w w'
  | .ok n => ∃ dv av ov' mbs', en = .returned (.tuple #[.agg (aQb n dv av), .int .i64 0]) ∧ w'.ownsRow w.heap.size 54 2 dv n.decls.length (aQc n.decls) ∧ w'.ownsRow w.heap.size 30 4 av n.attrs.length (aQg n.attrs) ∧ ScAt w' B sb (st ++ [(n.name, n.decls)]) ov' mbs' ∧ Ks B w w') → bX8 w B sb st ov e en w' := by
  intro en w' h
  unfold bX8
  rw [HX.out]
  exact h
 have HPO := aQ0 post
 clear post hX
 cases c1 : aY7 e with
 | true =>
  rw [c1] at q0
  obtain rfl : X = .error 3 := by rw [← HX.out]; unfold aZo; rw [if_pos (Or.inl c1)]
  go_wp2
  refine bodyPost_ret (v := .tuple #[zAgg, .int .i64 3]) (by simp [results, results31, go_sem, r0, r1, r2, r3, r4, r5, r6, r7, zAgg, zNdC, aQb, zNd, zNm]) rfl (HPO.out _ _ ⟨rfl, set8 F5.out.kp F5.out.r0 _ _ _ _ _ _ _ _⟩)
 | false =>
  rw [c1] at q0
  cases c2 : (U.name.pre.toList == [120, 109, 108, 110, 115]) with
  | true =>
   obtain rfl : X = .error 3 := by rw [← HX.out]; unfold aZo; rw [if_pos (Or.inr (Or.inl (by rw [HUP.out]; unfold aQx; rw [aVs]; exact c2)))]
   go_wp2
   refine bodyPost_ret (v := .tuple #[zAgg, .int .i64 3]) (by simp [results, results31, go_sem, r0, r1, r2, r3, r4, r5, r6, r7, zAgg, zNdC, aQb, zNd, zNm]) rfl (HPO.out _ _ ⟨rfl, set8 F5.out.kp F5.out.r0 _ _ _ _ _ _ _ _⟩)
  | false =>
   cases c3 : U.decls.all aZv with
   | false =>
    obtain rfl : X = .error 3 := by rw [← HX.out]; unfold aZo; rw [if_pos (Or.inr (Or.inr (by rw [HUD.out]; exact c3)))]
    rw [c3] at hdr
    go_wp2_with fail
    refine hdr.mono ?_
    rintro en w6 ⟨rfl, hb6⟩
    have F6 := aQ0 (F5.out.below hb6)
    clear hb6 hdr r0 r1 r2 r3 r4 r5 r6 r7 f0 f1 f2 f3 f4 f5 f6 f7 n0 n1 n2 n3 n4 n5 n6 n7 q0
    obtain ⟨r0, r1, r2, r3, r4, r5, r6, r7, f0, f1, f2, f3, f4, f5, f6, f7⟩ := aX3 F6.out.res
    go_wp2
    refine bodyPost_ret (v := .tuple #[zAgg, .int .i64 3]) (by simp [results, results31, go_sem, r0, r1, r2, r3, r4, r5, r6, r7, zAgg, zNdC, aQb, zNd, zNm]) rfl (HPO.out _ _ ⟨rfl, set8 F6.out.kp F6.out.r0 _ _ _ _ _ _ _ _⟩)
   | true =>
    rw [c3] at hdr
    have hX0 : X = match aZp (st.map (·.2) ++ [U.decls]) U.name.pre with
     | none => .error 5
     | some v =>
      match aXh (st.map (·.2) ++ [U.decls]) U.attrs with
      | none => .error 5
      | some l => if aJ7 [] l = true then .error 6 else .ok ⟨e.kind, ⟨(aQu e.name).1, (aQu e.name).2.1, v, ⟨#[]⟩⟩, U.decls, l, ⟨#[]⟩⟩ := by
     rw [← HX.out]
     unfold aZo
     rw [if_neg (by
      rintro (h | h | h)
      · rw [c1] at h; cases h
      · rw [HUP.out] at h; unfold aQx at h; rw [aVs, c2] at h; cases h
      · rw [HUD.out, c3] at h; cases h), HUP.out, HUD.out, HUA.out]
     rfl
    have HX0 := aQ0 hX0
    clear hX0
    go_wp2_with fail
    refine hdr.mono ?_
    rintro en w6 ⟨rfl, hb6⟩
    have F6 := aQ0 (F5.out.below hb6)
    clear hb6 hdr r0 r1 r2 r3 r4 r5 r6 r7 f0 f1 f2 f3 f4 f5 f6 f7 n0 n1 n2 n3 n4 n5 n6 n7 q0 hW5
    obtain ⟨n0, n1, n2, n3, n4, n5, n6, n7, _⟩ := aXm F6.out.nd.box
    have hdb := bQa w6 da _ dc U.decls rfl (by have := bX5 e.attrs; rw [HUD.out] at this; omega) HDZ.out (by
     obtain ⟨x, y, hxy, hE⟩ := aWh F6.out.nd.decls
     cases hxy
     exact hE)
    obtain ⟨oo, oc, rfl, hoo⟩ := aQr F6.out.sc.row
    have hbox : w6.cell? ⟨sb, 0, none⟩ = some (.slice oo st.length oc) := (aV5 F6.out.sc.box).1
    have hdb' := bQa w6.drew da _ dc U.decls rfl (by have := bX5 e.attrs; rw [HUD.out] at this; omega) HDZ.out (by
     obtain ⟨x, y, hxy, hE⟩ := aWh F6.out.drew.nd.decls
     cases hxy
     exact hE)
    have hentD := fun a w => cJq func51 (by kernel_rfl) rfl a w
    obtain ⟨i0, hi, hz0, hz1, hz2⟩ := info_parts cY3
    have hfz : w6.frozen? ⟨sb, 0, none⟩ = false := (aV5 F6.out.sc.box).2
    clear hdb
    have HBW : Hid (B ≤ w.heap.size) := aQ0 (Nat.le_trans HS.out.bb (Nat.le_of_lt (gLt HS.out.box)))
    have HPZ : Hid (U.name.pre.size ≤ 1048576) := aQ0 (by rw [← HUP.out]; exact (bZs hnm).1)
    have HOZ : Hid (∀ a ∈ U.attrs, a.pre.size ≤ 1048576) := aQ0 (by rw [← HUA.out]; exact cX5 hna)
    have HOL : Hid (U.attrs.length ≤ 1000) := aQ0 (by rw [← HUA.out]; exact Nat.le_trans (List.length_filterMap_le _ _) hl)
    have hbl : B ≤ w6.heap.size := Nat.le_trans F6.out.sc.bb (Nat.le_of_lt (gLt F6.out.sc.box))
    go_wp2_with fail
    go_cut [] (fun wc => ∃ mb vo vc, StF w wc B sb w4.heap.size (w.heap.size + 1) (st ++ [(zNm, U.decls)]) (.slice vo (st.length + 1) vc) (mbs ++ [mb]) U (.slice da U.decls.length dc) (.slice aa U.attrs.length ac') ∧ (0 < st.length + 1 → ∃ g, vo = some ⟨g, 0, none⟩))
    case first =>
     go_region_law (first | (refine bXb rfl 51 #[.tmp 32] #[31] rfl #[.slice da U.decls.length dc] (by simp [Act.eval]) hentD hdb' ?_ (fun c w' hP => by (obtain ⟨mb, h, _⟩ := hP; cases h)) (fun w' hP => by (obtain ⟨mb, h, _⟩ := hP; cases h)); intro v7 w7 hP; obtain ⟨mb, hv7, hmb, hm7, hb7⟩ := hP; cases hv7; have F7 := aQ0 (F6.out.drew.below hb7); have M7 := aQ0 hm7; have hbox7 : w7.cell? ⟨sb, 0, none⟩ = some (.slice oo st.length oc) := (aV5 F7.out.sc.box).1; have hboxA : (w7.alloc (.cells #[.string ⟨#[]⟩, .string ⟨#[]⟩, .string ⟨#[]⟩, .string ⟨#[]⟩, .map (some mb)] 79)).cell? ⟨sb, 0, none⟩ = some (.slice oo st.length oc) := (aV5 (F7.out.below (bAl)).sc.box).1; have hbl7 : B ≤ w7.heap.size := Nat.le_trans hbl hb7.size; clear hm7 hb7) | (refine aJ1 rfl (.tmp 30) (.tmp 35) 56 rfl B 79 i0 (.agg #[.string ⟨#[]⟩, .string ⟨#[]⟩, .string ⟨#[]⟩, .string ⟨#[]⟩, .map none]) 5 72 underlying56 hi hz0 hz1 hz2 rfl (by decide) (.slice oo st.length oc) st.length (aXv (st.zip mbs)) (by simp [Act.eval]) (World.ownsRow.alloc F7.out.sc.row _) ⟨w7.heap.size, 0, none⟩ 1 1 [.string ⟨#[]⟩, .string ⟨#[]⟩, .string ⟨#[]⟩, .string ⟨#[]⟩, .map (some mb)] (by simp [Act.eval]) rfl (bVo w7 _ _ _ _ _ _ _ rfl) (by intro u hu; simp at hu; rcases hu with rfl | rfl <;> rfl) (by unfold maxLen; omega) (by omega) (Nat.le_trans hbl7 (by simp)) ?_; intro v' wa hoa hga; obtain ⟨vo, vc, hv', hvo⟩ := aQr hoa; subst hv'; obtain ⟨F8, hbox8, hfz8⟩ := F7.out.push M7.out _ hoa hga; replace F8 := aQ0 F8; clear hoa hga))
     all_goals
      go_wp2_with fail
      go_meet
      exact ⟨mb, vo, vc, F8.out, hvo⟩
    case rest =>
     obtain ⟨mb, vo, vc, hF8, hvo⟩ := hcut
     have F8 := aQ0 hF8
     clear hF8
     have hpl := cWe _ B sb w4.heap.size (st ++ [(zNm, U.decls)]) (.slice vo (st.length + 1) vc) (mbs ++ [mb]) F8.out.sc (by simp; omega) U (.slice da U.decls.length dc) (.slice aa U.attrs.length ac') ⟨F8.out.nd.box, aXw F8.out.nd.decls HBW.out, aXw F8.out.nd.attrs HBW.out⟩ HPZ.out HOZ.out HOL.out
     clear hbox hdb' hfz
     unfold dQu at hpl
     cases hp : plZ ((st ++ [(zNm, U.decls)]).map (·.2)) U with
     | none =>
      obtain rfl : X = .error 5 := by
       rw [HX0.out]
       rw [List.map_append] at hp
       exact dXh _ hp
      rw [hp] at hpl
      go_wp2_with fail
      refine hpl.mono ?_
      rintro en w9 ⟨rfl, hk9⟩
      obtain ⟨hr9, hks9⟩ := F8.out.away hk9
      have HK9 := aQ0 hks9
      clear hk9 hks9 hpl n0 n1 n2 n3 n4 n5 n6 n7
      obtain ⟨r0, r1, r2, r3, r4, r5, r6, r7, f0, f1, f2, f3, f4, f5, f6, f7⟩ := aX3 hr9
      clear hr9
      go_wp2
      refine bodyPost_ret (v := .tuple #[zAgg, .int .i64 5]) (by simp [results, results31, go_sem, r0, r1, r2, r3, r4, r5, r6, r7, zAgg, zNdC, aQb, zNd, zNm]) rfl (HPO.out _ _ ⟨rfl, set8 HK9.out F8.out.r0 _ _ _ _ _ _ _ _⟩)
     | some n' =>
      obtain ⟨v, l, hsv, hpa, rfl⟩ := dXg hp
      rw [hp] at hpl
      have hX5 : X = if aJ7 [] l = true then .error 6 else .ok ⟨e.kind, ⟨(aQu e.name).1, (aQu e.name).2.1, v, ⟨#[]⟩⟩, U.decls, l, ⟨#[]⟩⟩ := by
       rw [List.map_append] at hsv hpa
       rw [HX0.out]
       simp only [List.map_cons, List.map_nil] at hsv hpa
       rw [hsv, hpa]
      have HLL : Hid (U.attrs.length = l.length) := aQ0 (bXg _ _ _ hpa).symm
      have HX5 := aQ0 hX5
      clear hX5 hsv hpa hp
      go_wp2_with fail
      refine hpl.mono ?_
      rintro en w9 ⟨rfl, hs9, hn9, hk9⟩
      obtain ⟨hr9, hks9⟩ := F8.out.away hk9
      have F9 : Hid (StF w w9 B sb w4.heap.size (w.heap.size + 1) (st ++ [(zNm, U.decls)]) (.slice vo (st.length + 1) vc) (mbs ++ [mb]) { U with name := { U.name with spc := v }, attrs := l } (.slice da U.decls.length dc) (.slice aa U.attrs.length ac')) := aQ0 ⟨hs9, ⟨hn9.box, dJ6 hn9.decls F8.out.nd.decls, dJ6 hn9.attrs F8.out.nd.attrs⟩, hr9, hks9, F8.out.nr, F8.out.n0, F8.out.r0⟩
      clear hs9 hn9 hk9 hr9 hks9 hpl n0 n1 n2 n3 n4 n5 n6 n7
      obtain ⟨n0, n1, n2, n3, n4, n5, n6, n7, _⟩ := aXm F9.out.nd.box
      have hcap : l.length ≤ ac' := by
       have := F9.out.nd.attrs
       simp only [HLL.out] at this
       exact dXk this
      have htw := bYp w9 aa U.attrs.length ac' l HLL.out (by have := HOL.out; have := HLL.out; omega) hcap (by
       obtain ⟨x, y, hxy, hE⟩ := cQx F9.out.nd.attrs
       rw [(Value.slice.inj hxy).1]
       exact hE)
      cases c4 : aJ7 [] l with
      | true =>
       rw [c4] at htw
       obtain rfl : X = .error 6 := by rw [HX5.out, if_pos c4]
       go_wp2_with fail
       refine htw.mono ?_
       rintro en w10 ⟨rfl, hb10⟩
       have F10 := aQ0 (F9.out.below hb10)
       clear hb10 htw n0 n1 n2 n3 n4 n5 n6 n7
       obtain ⟨r0, r1, r2, r3, r4, r5, r6, r7, f0, f1, f2, f3, f4, f5, f6, f7⟩ := aX3 F10.out.res
       go_wp2
       refine bodyPost_ret (v := .tuple #[zAgg, .int .i64 6]) (by simp [results, results31, go_sem, r0, r1, r2, r3, r4, r5, r6, r7, zAgg, zNdC, aQb, zNd, zNm]) rfl (HPO.out _ _ ⟨rfl, set8 F10.out.kp F10.out.r0 _ _ _ _ _ _ _ _⟩)
      | false =>
       rw [c4] at htw
       have HN : ({ U with name := { U.name with spc := v }, attrs := l } : Nd) = ⟨e.kind, ⟨(aQu e.name).1, (aQu e.name).2.1, v, ⟨#[]⟩⟩, U.decls, l, ⟨#[]⟩⟩ := by rw [← HU.out]; rfl
       obtain rfl : X = .ok { U with name := { U.name with spc := v }, attrs := l } := by rw [HX5.out, if_neg (by rw [c4]; exact Bool.false_ne_true), HN]
       clear HN
       go_wp2_with fail
       refine htw.mono ?_
       rintro en w10 ⟨rfl, hb10⟩
       have F10 := aQ0 (F9.out.below hb10)
       clear hb10 htw n0 n1 n2 n3 n4 n5 n6 n7
       obtain ⟨r0, r1, r2, r3, r4, r5, r6, r7, f0, f1, f2, f3, f4, f5, f6, f7⟩ := aX3 F10.out.res
       obtain ⟨n0, n1, n2, n3, n4, n5, n6, n7, _⟩ := aXm F10.out.nd.box
       obtain ⟨g, rfl⟩ := hvo (by omega)
       have hbox10 : w10.cell? ⟨sb, 0, none⟩ = some (.slice (some ⟨g, 0, none⟩) (st.length + 1) vc) := (aV5 F10.out.sc.box).1
       have hlz : mbs.length = st.length := by have := F10.out.sc.len; simpa using this
       have hlen1 : (st ++ [(zNm, U.decls)]).length = st.length + 1 := by simp
       have hrow := F10.out.sc.row
       rw [hlen1] at hrow
       have hjl : st.length < ((st ++ [(zNm, U.decls)]).zip (mbs ++ [mb])).length := by simp [hlz]
       obtain ⟨t0, t1, t2, t3, t4⟩ := aYv ((st ++ [(zNm, U.decls)]).zip (mbs ++ [mb])) st.length hjl
       obtain ⟨x0, k0⟩ : ∃ x, w10.cell? ⟨g, st.length * 5, none⟩ = some x := ⟨_, by rw [hrow.cellAt _ (by omega)]; exact t0⟩
       obtain ⟨x1, k1⟩ : ∃ x, w10.cell? ⟨g, st.length * 5 + 1, none⟩ = some x := ⟨_, by rw [hrow.cellAt _ (by omega)]; exact t1⟩
       obtain ⟨x2, k2⟩ : ∃ x, w10.cell? ⟨g, st.length * 5 + 2, none⟩ = some x := ⟨_, by rw [hrow.cellAt _ (by omega)]; exact t2⟩
       obtain ⟨x3, k3⟩ : ∃ x, w10.cell? ⟨g, st.length * 5 + 3, none⟩ = some x := ⟨_, by rw [hrow.cellAt _ (by omega)]; exact t3⟩
       have z0 := hrow.frozenAt (st.length * 5)
       have z1 := hrow.frozenAt (st.length * 5 + 1)
       have z2 := hrow.frozenAt (st.length * 5 + 2)
       have z3 := hrow.frozenAt (st.length * 5 + 3)
       have F11 := aQ0 (F10.out.drew.named hlz ⟨U.name.pre, U.name.loc, v, U.name.val⟩)
       clear t0 t1 t2 t3 t4 hrow hlen1 hjl hlz
       have hwr : IntKind.i64.wrap (st.length : Int) = st.length := aXt (by omega) (by omega)
       have hb1 : (st.length : Int) < (st.length : Int) + 1 := by omega
       go_wp2_with fail
       go_cut [] (fun wc => StF w wc B sb w4.heap.size (w.heap.size + 1) (st ++ [(⟨U.name.pre, U.name.loc, v, U.name.val⟩, U.decls)]) (.slice (some ⟨g, 0, none⟩) (st.length + 1) vc) (mbs ++ [mb]) { U with name := { U.name with spc := v }, attrs := l } (.slice da U.decls.length dc) (.slice aa U.attrs.length ac'))
       case first =>
        go_region_law fail
        all_goals
         go_wp2_with fail
         go_meet
         exact F11.out
       case rest =>
        have F12 := aQ0 hcut
        clear hcut F11 r0 r1 r2 r3 r4 r5 r6 r7 f0 f1 f2 f3 f4 f5 f6 f7 n0 n1 n2 n3 n4 n5 n6 n7 k0 k1 k2 k3 z0 z1 z2 z3 hwr hb1
        obtain ⟨r0, r1, r2, r3, r4, r5, r6, r7, f0, f1, f2, f3, f4, f5, f6, f7⟩ := aX3 F12.out.res
        obtain ⟨n0, n1, n2, n3, n4, n5, n6, n7, _⟩ := aXm F12.out.nd.box
        go_wp2
        refine bodyPost_ret (v := .tuple #[.agg (aQb { U with name := { U.name with spc := v }, attrs := l } (.slice da U.decls.length dc) (.slice aa U.attrs.length ac')), .int .i64 0]) (by simp [results, results31, go_sem, r0, r1, r2, r3, r4, r5, r6, r7, aQb]) rfl (HPO.out _ _ ?_)
        exact ⟨_, _, _, _, rfl, (fin8 F12.out.res F12.out.r0 F12.out.kp _ _ _ _ _ _ _ _).row F12.out.nd.decls (by decide), (fin8 F12.out.res F12.out.r0 F12.out.kp _ _ _ _ _ _ _ _).row F12.out.nd.attrs (by decide), (fin8 F12.out.res F12.out.r0 F12.out.kp _ _ _ _ _ _ _ _).sc F12.out.sc, set8 F12.out.kp F12.out.r0 _ _ _ _ _ _ _ _⟩
open Go.RowKit Strs2 Lists Plain9 PlainR PlainN Ents
def bZ6 (w : World) (B sb : Nat) (st : List Scp) (e : Ev) (en : Ending) (w' : World) : Prop :=
 match aVn st e with
 | (_, .error c) => en = .returned (.tuple #[zAgg, .int .i64 c]) ∧ Ks B w w'
 | (st', .ok n) => ∃ dv av ov' mbs', en = .returned (.tuple #[.agg (aQb n dv av), .int .i64 0]) ∧ w'.ownsRow w.heap.size 54 2 dv n.decls.length (aQc n.decls) ∧ w'.ownsRow w.heap.size 30 4 av n.attrs.length (aQg n.attrs) ∧ ScAt w' B sb st' ov' mbs' ∧ Ks B w w'
theorem Ks.node {B : Nat} {W W' : World} {k : Nat} {cs : Array Value} {t : TypeId} {f : Nat × Nat} (h : Ks B W W') (hc : W.heap[k]? = some (.cells cs t f)) (h1 : t ≠ 58) (h2 : t ≠ 79) : W'.heap[k]? = some (.cells cs t f) :=
 (h.block k (gLt hc) (Or.inr ⟨cs, t, f, hc, h1, h2⟩)).trans hc
theorem bWw (l : List (Scp × Nat)) (m : Nat) : (aXv l).take (m * 5) = aXv (l.take m) := by
 induction l generalizing m with
 | nil => simp [aXv]
 | cons x l ih =>
  cases m with
  | zero => simp [aXv]
  | succ m =>
   rw [show (m + 1) * 5 = m * 5 + 1 + 1 + 1 + 1 + 1 by omega]
   simp [aXv, nmC, ih]
theorem bWh {α β : Type} : ∀ (l : List α) (m : List β) (n : Nat), (l.zip m).take n = (l.take n).zip (m.take n)
 | [], _, _ => by simp
 | _ :: _, [], _ => by simp
 | _ :: _, _ :: _, 0 => rfl
 | a :: l, b :: m, n + 1 => by simp [bWh l m n]
theorem ScAt.left {W : World} {B sb g n vc : Nat} {st : List Scp} {mbs : List Nat} (h : ScAt W B sb st (.slice (some ⟨g, 0, none⟩) (n + 1) vc) mbs) (hn : st.length = n + 1) : ScAt (W.setCell ⟨sb, 0, none⟩ (.slice (some ⟨g, 0, none⟩) n vc)) B sb (st.take n) (.slice (some ⟨g, 0, none⟩) n vc) (mbs.take n) ∧ Ks B W (W.setCell ⟨sb, 0, none⟩ (.slice (some ⟨g, 0, none⟩) n vc)) := by
 have hset : ∀ k, k ≠ sb → (W.setCell ⟨sb, 0, none⟩ (.slice (some ⟨g, 0, none⟩) n vc)).heap[k]? = W.heap[k]? := fun k hk => Below.heap_setCell W ⟨sb, 0, none⟩ _ k hk
 have hl := h.len
 refine ⟨⟨?_, ?_, ?_, ?_, h.bb⟩, ?_⟩
 · rw [heap_setCell_same W sb 0 _ _ _ h.box]; rfl
 · rw [List.length_take, List.length_take, h.len]
 · have hrow := h.row
   rw [hn] at hrow
   have hcut := aW8 (m := n) hrow (by omega)
   rw [bWw, bWh] at hcut
   rw [List.length_take, hn, Nat.min_eq_left (by omega)]
   exact aQ4 hcut (fun k hkk => hset k (by
    obtain ⟨cs, hc⟩ := aQ3 hcut hkk
    exact aQ5 hc h.box (by decide)))
 · intro j hj hm
   have hj' : j < st.length := by rw [List.length_take] at hj; omega
   have hm' : j < mbs.length := by rw [List.length_take] at hm; omega
   have hd := h.maps j hj' hm'
   rw [List.getElem_take, List.getElem_take]
   exact hd.keep (hset _ (fun e => bJi h.box hd e.symm))
 · exact (Ks.below (Below.refl _ _)).setS h.bb h.box (Or.inl rfl) _ _
theorem dZl (t : ByteArray) : Lib.contains t.data.toList [58] = bXz t := by
 unfold bXz fz Lib.contains
 have e : rest t 0 = t.data.toList := rfl
 rw [e]
 by_cases h : Lib.index t.data.toList [58] = -1
 · simp [h]
 · simp [h]
   rcases Lib.index_spec t.data.toList [58] with ⟨h1, _⟩ | ⟨i, h1, _⟩
   · exact absurd h1 h
   · omega
theorem cWn {W : World} {k : Nat} {kd : Int} {t : ByteArray} {u : TypeId} (hh : W.heap[k]? = some (.cells (aQb ⟨kd, zNm, [], [], t⟩ (.slice none 0 0) (.slice none 0 0)) u)) : W.cell? ⟨k, 1, none⟩ = some (.string ⟨#[]⟩) ∧ W.cell? ⟨k, 2, none⟩ = some (.string ⟨#[]⟩) ∧ W.cell? ⟨k, 3, none⟩ = some (.string ⟨#[]⟩) ∧ W.cell? ⟨k, 4, none⟩ = some (.string ⟨#[]⟩) ∧ W.frozen? ⟨k, 1, none⟩ = false ∧ W.frozen? ⟨k, 2, none⟩ = false ∧ W.frozen? ⟨k, 3, none⟩ = false ∧ W.frozen? ⟨k, 4, none⟩ = false := by simp [World.cell?, World.frozen?, hh, aQb, zNm]
section
variable {st : List Scp} {e : Ev}
theorem bQw (h : e.kind = 1) : aVn st e = match aZo (st.map (·.2)) e with | .error c => (st, .error c) | .ok n => (st ++ [(n.name, n.decls)], .ok n) := by
 unfold aVn; rw [if_pos h]; rfl
theorem cZu (h : e.kind = 2) : aVn st e = (st.take (st.length - 1), .ok ⟨e.kind, (st.getD (st.length - 1) (zNm, [])).1, [], [], e.text⟩) := by
 unfold aVn; rw [if_neg (by omega), if_pos h]
theorem cV6 (h : e.kind = 5) : aVn st e = if bXz e.name = true then (st, .error 3) else (st, .ok ⟨e.kind, { zNm with loc := e.name }, [], [], e.text⟩) := by
 unfold aVn; rw [if_neg (by omega), if_neg (by omega), if_pos h]
theorem bZf (h1 : e.kind ≠ 1) (h2 : e.kind ≠ 2) (h5 : e.kind ≠ 5) : aVn st e = (st, .ok ⟨e.kind, zNm, [], [], e.text⟩) := by
 unfold aVn; rw [if_neg h1, if_neg h2, if_neg h5]
end
theorem dXo (w : World) (B sb : Nat) (st : List Scp) (ov : Value) (mbs : List Nat) (hS : ScAt w B sb st ov mbs) (hst : st.length ≤ 100) (e : Ev) (ao : Option Addr) (ac : Nat) (m : Int) (hE : EnvS w m) (hA : aZ2 w ao e.attrs) (hl : e.kind = 1 → e.attrs.length ≤ 1000) (hnm : e.name.size ≤ 1048576) (hna : ∀ a ∈ e.attrs, a.1.size ≤ 1048576) (hne : e.kind = 2 → st.length ≠ 0) :
 Calls prog 18 #[.pointer (some ⟨sb, 0, none⟩), .agg #[.int .i64 e.kind, .string e.name, .string e.text, .slice ao e.attrs.length ac]] w (bZ6 w B sb st e) := by
 obtain ⟨kd, hkd⟩ := nmE (e.kind)
 rw [hkd]
 obtain ⟨W2, hW2⟩ := nmE ((w.alloc (.cells #[.int .i64 kd, .string e.name, .string e.text, .slice ao e.attrs.length ac] 37)).alloc (.cells #[.int .i64 0, .string ⟨#[]⟩, .string ⟨#[]⟩, .string ⟨#[]⟩, .string ⟨#[]⟩, .slice none 0 0, .slice none 0 0, .string ⟨#[]⟩] 34))
 have hB2 : Below w.heap.size w W2 := by rw [← hW2]; exact (bAl).alloc (by simp) _
 have hev2 : W2.heap[w.heap.size]? = some (.cells #[.int .i64 kd, .string e.name, .string e.text, .slice ao e.attrs.length ac] 37) := by rw [← hW2, heap_alloc_old _ _ (by simp)]; exact heap_alloc_new _ _
 have hrs2 : W2.heap[w.heap.size + 1]? = some (.cells zNdC 34) := by
  rw [← hW2]
  have : (w.alloc (.cells #[.int .i64 kd, .string e.name, .string e.text, .slice ao e.attrs.length ac] 37)).heap.size = w.heap.size + 1 := by simp
  rw [← this]; exact heap_alloc_new _ _
 obtain ⟨v0, v1, v2, v3⟩ := aX0 hev2
 obtain ⟨W3, hW3⟩ := nmE (W2.alloc (.cells #[.int .i64 kd, .string ⟨#[]⟩, .string ⟨#[]⟩, .string ⟨#[]⟩, .string ⟨#[]⟩, .slice none 0 0, .slice none 0 0, .string e.text] 34))
 have hb3 : Below W2.heap.size W2 W3 := by rw [← hW3]; exact bAl
 have hB3 : Below w.heap.size w W3 := hB2.trans (hb3.mono hB2.size)
 have hev3 := (hb3.block _ (gLt hev2)).trans hev2
 have hrs3 := (hb3.block _ (gLt hrs2)).trans hrs2
 have hnd3 : W3.heap[W2.heap.size]? = some (.cells (aQb ⟨kd, zNm, [], [], e.text⟩ (.slice none 0 0) (.slice none 0 0)) 34) := by rw [← hW3]; exact heap_alloc_new _ _
 have hnr : W2.heap.size ≠ w.heap.size + 1 := by have := (gLt hrs2); omega
 have hS3 := hS.below hB3
 have HS := aQ0 hS
 have HE := aQ0 hE
 have HA := aQ0 hA
 have HB3 := aQ0 hB3
 have HR3 := aQ0 hrs3
 have HN3 := aQ0 hnd3
 have HS3 := aQ0 hS3
 have hE3 := aQ0 (hE.below hB3)
 have hA3 := aQ0 (hA.grown (Ents.below_grown hB3))
 obtain ⟨y0, y1, y2, y3⟩ := aX0 hev3
 have HKD := aQ0 hkd
 have hsz : w.heap.size ≤ W3.heap.size := hB3.size
 have hs2 : w.heap.size ≤ W2.heap.size := hB2.size
 have HSZ := aQ0 hsz
 have HS2 := aQ0 hs2
 have HNR := aQ0 hnr
 clear hkd hS hE hA hB2 hB3 hb3 hev2 hev3 hrs2 hrs3 hnd3 hS3 hsz hs2 hnr
 by_cases k1 : kd = 1
 · subst k1
   have hsr := cKi W3 B sb st ov mbs HS3.out hst e ao ac m hE3.out hA3.out (hl HKD.out) hnm hna
   rw [HKD.out] at hsr
   have HPO := aQ0 (show ∀ en w', (match aZo (st.map (·.2)) e with
    | .error c => en = .returned (.tuple #[zAgg, .int .i64 c]) ∧ Ks B w w'
    | .ok n => ∃ dv av ov' mbs', en = .returned (.tuple #[.agg (aQb n dv av), .int .i64 0]) ∧ w'.ownsRow w.heap.size 54 2 dv n.decls.length (aQc n.decls) ∧ w'.ownsRow w.heap.size 30 4 av n.attrs.length (aQg n.attrs) ∧ ScAt w' B sb (st ++ [(n.name, n.decls)]) ov' mbs' ∧ Ks B w w') → bZ6 w B sb st e en w' by
    intro en w' h
    unfold bZ6
    rw [bQw HKD.out]
    cases hx : aZo (st.map (·.2)) e with
    | error c => rw [hx] at h; exact h
    | ok n => rw [hx] at h; exact h)
   go_enter func18, ntmps18
   go_wp2_with fail
   refine hsr.mono ?_
   intro en w4 hs4
   unfold bX8 at hs4
   cases hX : aZo (st.map (·.2)) e with
   | error c =>
    rw [hX] at hs4
    obtain ⟨rfl, hk4⟩ := hs4
    have hr4 := hk4.node HR3.out (by decide) (by decide)
    have K4 := aQ0 ((Ks.below (B := B) HB3.out).trans hk4)
    obtain ⟨r0, r1, r2, r3, r4, r5, r6, r7, f0, f1, f2, f3, f4, f5, f6, f7⟩ := aX3 hr4
    have HX := aQ0 hX
    clear hr4 hk4 hsr hX v0 v1 v2 v3 y0 y1 y2 y3
    unfold zAgg zNdC aQb zNd zNm
    go_wp2
    refine bodyPost_ret (v := .tuple #[zAgg, .int .i64 c]) (by simp [results, results18, go_sem, r0, r1, r2, r3, r4, r5, r6, r7, zAgg, zNdC, aQb, zNd, zNm]) rfl (HPO.out _ _ ?_)
    rw [HX.out]
    exact ⟨rfl, set8 K4.out (by omega) _ _ _ _ _ _ _ _⟩
   | ok n =>
    rw [hX] at hs4
    obtain ⟨dv, av, ov', mbs', rfl, hd4, ha4, hsc4, hk4⟩ := hs4
    have HR4 := aQ0 (hk4.node HR3.out (by decide) (by decide))
    have K4 := aQ0 ((Ks.below (B := B) HB3.out).trans hk4)
    obtain ⟨da, dc, rfl, _⟩ := aQr hd4
    obtain ⟨aa, ac', rfl, _⟩ := aQr ha4
    have D4 := aQ0 (aXw hd4 HSZ.out)
    have A4 := aQ0 (aXw ha4 HSZ.out)
    have S4 := aQ0 hsc4
    obtain ⟨r0, r1, r2, r3, r4, r5, r6, r7, f0, f1, f2, f3, f4, f5, f6, f7⟩ := aX3 HR4.out
    have HX := aQ0 hX
    clear hk4 hsr hX hd4 ha4 hsc4 v0 v1 v2 v3 y0 y1 y2 y3
    unfold aQb
    go_wp2
    refine bodyPost_ret (v := .tuple #[.agg (aQb n (.slice da n.decls.length dc) (.slice aa n.attrs.length ac')), .int .i64 0]) (by simp [results, results18, go_sem, r0, r1, r2, r3, r4, r5, r6, r7, aQb]) rfl (HPO.out _ _ ?_)
    rw [HX.out]
    exact ⟨_, _, _, _, rfl, (fin8 HR4.out (by omega) K4.out _ _ _ _ _ _ _ _).row D4.out (by decide), (fin8 HR4.out (by omega) K4.out _ _ _ _ _ _ _ _).row A4.out (by decide), (fin8 HR4.out (by omega) K4.out _ _ _ _ _ _ _ _).sc S4.out, set8 K4.out (by omega) _ _ _ _ _ _ _ _⟩
 · by_cases k2 : kd = 2
   · subst k2
     obtain ⟨n, hn⟩ : ∃ n, st.length = n + 1 := ⟨st.length - 1, by have := hne HKD.out; omega⟩
     obtain ⟨oo, oc, rfl, hoo⟩ := aQr HS3.out.row
     obtain ⟨g, rfl⟩ := hoo (by omega)
     have hbox := aV5 HS3.out.box
     obtain ⟨b0, bf⟩ := hbox
     have hjl : n < (st.zip mbs).length := by have := HS3.out.len; simp; omega
     obtain ⟨t0, t1, t2, t3, t4⟩ := aYv (st.zip mbs) n hjl
     clear t4
     rw [List.getElem_zip] at t0 t1 t2 t3
     have hlast : (st.getD (st.length - 1) (zNm, [])).1 = (st[n]'(by omega)).1 := by
      rw [List.getD_eq_getElem?_getD, List.getElem?_eq_getElem (by omega)]
      simp only [Option.getD_some, hn, Nat.add_sub_cancel]
     obtain ⟨X, hX⟩ := nmE ((st[n]'(by omega)).1)
     simp only [hX] at t0 t1 t2 t3
     have c0 := (HS3.out.row.cellAt (n * 5) (by omega)).trans t0
     have c1 := (HS3.out.row.cellAt (n * 5 + 1) (by omega)).trans t1
     have c2 := (HS3.out.row.cellAt (n * 5 + 2) (by omega)).trans t2
     have c3 := (HS3.out.row.cellAt (n * 5 + 3) (by omega)).trans t3
     have hcap := aWs HS3.out.row
     rw [hn] at hcap b0
     have hbn : sb ≠ W2.heap.size := aQ5 HS3.out.box HN3.out (by decide)
     have hgn : g ≠ W2.heap.size := by
      obtain ⟨cs, hc⟩ := aQ3 HS3.out.row rfl
      exact aQ5 hc HN3.out (by decide)
     obtain ⟨n1, n2, n3, n4, g1, g2, g3, g4⟩ := cWn HN3.out
     have HLN := aQ0 hn
     have HLA := aQ0 (hlast.trans hX)
     have hwr : IntKind.i64.wrap (n : Int) = n := aXt (by omega) (by omega)
     have hm1 : wrap64 (n : Int) = (n : Int) := by unfold wrap64; omega
     have hm0 : decide ((n : Int) < 0) = false := by simp
     have hm2 : n < n + 1 := by omega
     have hcp : n ≤ oc := by omega
     have hnb : n ≤ 100 := by omega
     have hb1 : (n : Int) < (n : Int) + 1 := by omega
     obtain ⟨W4, hW4⟩ := nmE ((((W3.setCell ⟨W2.heap.size, 1, none⟩ (.string X.pre)).setCell ⟨W2.heap.size, 2, none⟩ (.string X.loc)).setCell ⟨W2.heap.size, 3, none⟩ (.string X.spc)).setCell ⟨W2.heap.size, 4, none⟩ (.string X.val))
     have hkp4 : Kp W3 W4 [W2.heap.size] := by
      rw [← hW4]
      have hm : W3.heap.size ≤ W2.heap.size ∨ W2.heap.size ∈ [W2.heap.size] := Or.inr List.mem_cons_self
      exact ((((Kp.refl W3 _).set hm _ _).set hm _ _).set hm _ _).set hm _ _
     have hnd4 : W4.heap[W2.heap.size]? = some (.cells (aQb ⟨2, X, [], [], e.text⟩ (.slice none 0 0) (.slice none 0 0)) 34) := by
      rw [← hW4, heap_setCell_same _ _ _ _ _ _ (heap_setCell_same _ _ _ _ _ _ (heap_setCell_same _ _ _ _ _ _ (heap_setCell_same _ _ _ _ _ _ HN3.out)))]
      rfl
     have hS4 : ScAt W4 B sb st (.slice (some ⟨g, 0, none⟩) st.length oc) mbs := HS3.out.kept hkp4 (fun b hb => by
      rw [List.mem_singleton] at hb
      subst hb
      exact ⟨_, _, _, HN3.out, by decide, by decide⟩)
     have hr4 : W4.heap[w.heap.size + 1]? = some (.cells zNdC 34) := (hkp4.block _ (gLt HR3.out) (by rw [List.mem_singleton]; exact HNR.out.symm)).trans HR3.out
     have K4 : Ks B w W4 := (Ks.below HB3.out).onK hkp4 (fun c hc => by rw [List.mem_singleton] at hc; rw [hc]; exact HS2.out)
     rw [hn] at hS4
     obtain ⟨hS5, hK5⟩ := hS4.left hn
     obtain ⟨q0, qf⟩ := aV5 hS4.box
     obtain ⟨W5, hW5⟩ := nmE (W4.setCell ⟨sb, 0, none⟩ (.slice (some ⟨g, 0, none⟩) n oc))
     rw [hW5] at hS5 hK5
     have S5 := aQ0 hS5
     have K5 := aQ0 (K4.trans hK5)
     have R5 := aQ0 (hK5.node hr4 (by decide) (by decide))
     have N5 := aQ0 (hK5.node hnd4 (by decide) (by decide))
     obtain ⟨r0, r1, r2, r3, r4, r5, r6, r7, f0, f1, f2, f3, f4, f5, f6, f7⟩ := aX3 R5.out
     obtain ⟨z0, z1, z2, z3, z4, z5, z6, z7, z8⟩ := aXm N5.out
     simp only at z0 z1 z2 z3 z4 z7
     clear hn hlast hX t0 t1 t2 t3 hjl hoo hl hnm hna hne hst hcap z8 hkp4 hnd4 hS4 hr4 K4 hS5 hK5
     go_enter func18, ntmps18
     go_wp2
     refine bodyPost_ret (v := .tuple #[.agg (aQb ⟨2, X, [], [], e.text⟩ (.slice none 0 0) (.slice none 0 0)), .int .i64 0]) (by simp [results, results18, go_sem, r0, r1, r2, r3, r4, r5, r6, r7, aQb]) rfl ?_
     unfold bZ6
     rw [cZu HKD.out, HLA.out, HKD.out, HLN.out, Nat.add_sub_cancel]
     exact ⟨_, _, _, _, rfl, World.ownsRow_nil _ _ _ _, World.ownsRow_nil _ _ _ _, (fin8 R5.out (by omega) K5.out _ _ _ _ _ _ _ _).sc S5.out, set8 K5.out (by omega) _ _ _ _ _ _ _ _⟩
   · by_cases k5 : kd = 5
     · subst k5
       have hct := Tryz.strings_Contains e.name ⟨#[58]⟩ m W3 (by omega) hE3.out.mx
       rw [show (⟨#[58]⟩ : ByteArray).data.toList = [58] from rfl, dZl] at hct
       obtain ⟨n1, n2, n3, n4, g1, g2, g3, g4⟩ := cWn HN3.out
       obtain ⟨r0, r1, r2, r3, r4, r5, r6, r7, f0, f1, f2, f3, f4, f5, f6, f7⟩ := aX3 HR3.out
       cases hcol : bXz e.name with
       | true =>
        rw [hcol] at hct
        have HCO := aQ0 hcol
        clear hl hnm hna hne hst hcol n1 n2 n3 n4 g1 g2 g3 g4
        go_enter func18, ntmps18
        go_wp2_with fail
        refine hct.mono ?_
        rintro en w4 ⟨rfl, hw4⟩
        obtain rfl := hw4.symm
        go_wp2
        refine bodyPost_ret (v := .tuple #[zAgg, .int .i64 3]) (by simp [results, results18, go_sem, r0, r1, r2, r3, r4, r5, r6, r7, zAgg, zNdC, aQb, zNd, zNm]) rfl ?_
        unfold bZ6
        rw [cV6 HKD.out, if_pos HCO.out]
        exact ⟨rfl, set8 (Ks.below HB3.out) (by omega) _ _ _ _ _ _ _ _⟩
       | false =>
        rw [hcol] at hct
        have HCO := aQ0 hcol
        obtain ⟨W4, hW4⟩ := nmE (W3.setCell ⟨W2.heap.size, 2, none⟩ (.string e.name))
        have hkp4 : Kp W3 W4 [W2.heap.size] := by
         rw [← hW4]
         exact (Kp.refl W3 _).set (Or.inr List.mem_cons_self) _ _
        have hnd4 : W4.heap[W2.heap.size]? = some (.cells (aQb ⟨5, { zNm with loc := e.name }, [], [], e.text⟩ (.slice none 0 0) (.slice none 0 0)) 34) := by
         rw [← hW4, heap_setCell_same _ _ _ _ _ _ HN3.out]
         rfl
        have hS4 : Hid (ScAt W4 B sb st ov mbs) := aQ0 (HS3.out.kept hkp4 (fun b hb => by
         rw [List.mem_singleton] at hb
         subst hb
         exact ⟨_, _, _, HN3.out, by decide, by decide⟩))
        have hr4 : W4.heap[w.heap.size + 1]? = some (.cells zNdC 34) := (hkp4.block _ (gLt HR3.out) (by rw [List.mem_singleton]; exact HNR.out.symm)).trans HR3.out
        have K4 : Hid (Ks B w W4) := aQ0 ((Ks.below HB3.out).onK hkp4 (fun c hc => by rw [List.mem_singleton] at hc; rw [hc]; exact HS2.out))
        have R4 := aQ0 hr4
        obtain ⟨p0, p1, p2, p3, p4, p5, p6, p7, h0, h1, h2, h3, h4, h5, h6, h7⟩ := aX3 hr4
        obtain ⟨z0, z1, z2, z3, z4, z5, z6, z7, z8⟩ := aXm hnd4
        simp only [zNm] at z0 z1 z2 z3 z4 z7
        clear hl hnm hna hne hst hcol hkp4 hnd4 hr4 z8 r0 r1 r2 r3 r4 r5 r6 r7 f0 f1 f2 f3 f4 f5 f6 f7
        go_enter func18, ntmps18
        go_wp2_with fail
        refine hct.mono ?_
        rintro en w4 ⟨rfl, hw4⟩
        obtain rfl := hw4.symm
        go_wp2
        refine bodyPost_ret (v := .tuple #[.agg (aQb ⟨5, { zNm with loc := e.name }, [], [], e.text⟩ (.slice none 0 0) (.slice none 0 0)), .int .i64 0]) (by simp [results, results18, go_sem, p0, p1, p2, p3, p4, p5, p6, p7, aQb, zNm]) rfl ?_
        unfold bZ6
        rw [cV6 HKD.out, if_neg (by rw [HCO.out]; exact Bool.false_ne_true), HKD.out]
        exact ⟨_, _, _, _, rfl, World.ownsRow_nil _ _ _ _, World.ownsRow_nil _ _ _ _, (fin8 R4.out (by omega) K4.out _ _ _ _ _ _ _ _).sc hS4.out, set8 K4.out (by omega) _ _ _ _ _ _ _ _⟩
     · obtain ⟨r0, r1, r2, r3, r4, r5, r6, r7, f0, f1, f2, f3, f4, f5, f6, f7⟩ := aX3 HR3.out
       obtain ⟨z0, z1, z2, z3, z4, z5, z6, z7, z8⟩ := aXm HN3.out
       simp only [zNm] at z0 z1 z2 z3 z4 z7
       clear hl hnm hna hne hst z8
       go_enter func18, ntmps18
       go_wp2
       refine bodyPost_ret (v := .tuple #[.agg (aQb ⟨kd, zNm, [], [], e.text⟩ (.slice none 0 0) (.slice none 0 0)), .int .i64 0]) (by simp [results, results18, go_sem, r0, r1, r2, r3, r4, r5, r6, r7, aQb, zNm]) rfl ?_
       unfold bZ6
       rw [bZf (by rw [HKD.out]; exact k1) (by rw [HKD.out]; exact k2) (by rw [HKD.out]; exact k5), HKD.out]
       exact ⟨_, _, _, _, rfl, World.ownsRow_nil _ _ _ _, World.ownsRow_nil _ _ _ _, (fin8 HR3.out (by omega) (Ks.below HB3.out) _ _ _ _ _ _ _ _).sc HS3.out, set8 (Ks.below HB3.out) (by omega) _ _ _ _ _ _ _ _⟩
open Go.RowKit Strs2 Lists PlainR PlainN Ents
def aJo : List (Nd × (Value × Value)) → List Value
 | [] => []
 | x :: l => (aQb x.1 x.2.1 x.2.2).toList ++ aJo l
theorem bY6 (a b : List (Nd × (Value × Value))) : aJo (a ++ b) = aJo a ++ aJo b := by
 induction a with
 | nil => rfl
 | cons x l ih => simp [aJo, ih]
structure aJc (W : World) (B : Nat) (v : Value) (nds : List Nd) (vs : List (Value × Value)) : Prop where
 len : vs.length = nds.length
 row : W.ownsRow B 34 8 v nds.length (aJo (nds.zip vs))
 rows : ∀ p ∈ nds.zip vs, W.ownsRow B 54 2 p.2.1 p.1.decls.length (aQc p.1.decls) ∧ W.ownsRow B 30 4 p.2.2 p.1.attrs.length (aQg p.1.attrs)
 nodup : (vs.flatMap fun p => blk p.1 ++ blk p.2).Nodup
theorem aJc.nil (W : World) (B : Nat) : aJc W B (.slice none 0 0) [] [] := ⟨rfl, World.ownsRow_nil _ _ _ _, (fun p hp => by cases hp), List.nodup_nil⟩
theorem aJc.keep {W W' : World} {B : Nat} {v : Value} {nds : List Nd} {vs : List (Value × Value)} (h : aJc W B v nds vs) (hk : ∀ (k : Nat) (cs : Array Value) (t : TypeId), W.heap[k]? = some (.cells cs t (0, 0)) → t = 34 ∨ t = 54 ∨ t = 30 → W'.heap[k]? = W.heap[k]?) : aJc W' B v nds vs := by
 refine ⟨h.len, aQ4 h.row (fun k hkk => ?_), fun p hp => ⟨aQ4 (h.rows p hp).1 (fun k hkk => ?_), aQ4 (h.rows p hp).2 (fun k hkk => ?_)⟩, h.nodup⟩
 · obtain ⟨cs, hc⟩ := aQ3 h.row hkk
   exact hk _ _ _ hc (Or.inl rfl)
 · obtain ⟨cs, hc⟩ := aQ3 (h.rows p hp).1 hkk
   exact hk _ _ _ hc (Or.inr (Or.inl rfl))
 · obtain ⟨cs, hc⟩ := aQ3 (h.rows p hp).2 hkk
   exact hk _ _ _ hc (Or.inr (Or.inr rfl))
theorem aJc.below {W W' : World} {B : Nat} {v : Value} {nds : List Nd} {vs : List (Value × Value)} (h : aJc W B v nds vs) (hb : Below W.heap.size W W') : aJc W' B v nds vs :=
 h.keep (fun k cs t hc _ => hb.block _ (gLt hc))
theorem aJc.ks {W W' : World} {B B' : Nat} {v : Value} {nds : List Nd} {vs : List (Value × Value)} (h : aJc W B v nds vs) (hb : Ks B' W W') : aJc W' B v nds vs :=
 h.keep (fun k cs t hc ht => hb.block _ (gLt hc) (Or.inr ⟨cs, t, _, hc, by rcases ht with rfl | rfl | rfl <;> decide, by rcases ht with rfl | rfl | rfl <;> decide⟩))
theorem aJc.lt {W : World} {B : Nat} {v : Value} {nds : List Nd} {vs : List (Value × Value)} (h : aJc W B v nds vs) {k : Nat} (hk : k ∈ vs.flatMap fun p => blk p.1 ++ blk p.2) : k < W.heap.size := by
 obtain ⟨p, hp, hkp⟩ := List.mem_flatMap.1 hk
 obtain ⟨i, hi, rfl⟩ := List.getElem_of_mem hp
 have hl := h.len
 have hz : (nds[i]'(by omega), vs[i]'hi) ∈ nds.zip vs := by
  have hzl : i < (nds.zip vs).length := by rw [List.length_zip]; omega
  have := List.getElem_mem (l := nds.zip vs) hzl
  rwa [List.getElem_zip] at this
 have hr := h.rows _ hz
 unfold blk at hkp
 rcases List.mem_append.1 hkp with hm | hm
 · rw [Option.mem_toList] at hm; exact (hr.1.lt _ hm).2
 · rw [Option.mem_toList] at hm; exact (hr.2.lt _ hm).2
theorem aJc.push {W wa : World} {B C : Nat} {v v' : Value} {nds : List Nd} {vs : List (Value × Value)} {n : Nd} {dv av : Value} (h : aJc W B v nds vs) (hBC : B ≤ C) (hC : ∀ k ∈ vs.flatMap fun p => blk p.1 ++ blk p.2, k < C) (hd : W.ownsRow C 54 2 dv n.decls.length (aQc n.decls)) (ha : W.ownsRow C 30 4 av n.attrs.length (aQg n.attrs)) (o : Obj)
 (ho : wa.ownsRow B 34 8 v' (nds.length + 1) (aJo (nds.zip vs) ++ (aQb n dv av).toList)) (hg : (W.alloc o).grownBy wa v.ownBlock) : aJc wa B v' (nds ++ [n]) (vs ++ [(dv, av)]) := by
 have h1 := h.below ((Below.refl _ _).alloc (Nat.le_refl _) o)
 have hd1 : (W.alloc o).ownsRow C 54 2 dv n.decls.length (aQc n.decls) := hd.alloc o
 have ha1 : (W.alloc o).ownsRow C 30 4 av n.attrs.length (aQg n.attrs) := ha.alloc o
 have hk := aXe hg
 have hoff : ∀ {k : Nat} {c : Array Value} {s : TypeId} {f : Nat × Nat}, (W.alloc o).heap[k]? = some (.cells c s f) → s ≠ 34 → wa.heap[k]? = (W.alloc o).heap[k]? := fun hc hs => hk.block _ (gLt hc) (fun hm => by
  obtain ⟨cs, h2⟩ := aQ3 h1.row (by rw [Option.mem_toList] at hm; exact hm)
  exact aQ5 hc h2 hs rfl)
 have hrows : ∀ {b : Nat} {e : TypeId} {size : Nat} {v : Value} {m : Nat} {xs : List Value}, (W.alloc o).ownsRow b e size v m xs → e ≠ 34 → wa.ownsRow b e size v m xs := fun hr hs => aQ4 hr (fun k hkk => by
  obtain ⟨cs, hc⟩ := aQ3 hr hkk
  exact hoff hc hs)
 have hz : (nds ++ [n]).zip (vs ++ [(dv, av)]) = nds.zip vs ++ [(n, (dv, av))] := by rw [List.zip_append h.len.symm]; rfl
 refine ⟨by simp [h.len], ?_, ?_, ?_⟩
 · rw [hz, bY6, List.length_append]
   simpa [aJo] using ho
 · rw [hz]
   intro p hp
   rcases List.mem_append.1 hp with hp | hp
   · exact ⟨hrows (h1.rows p hp).1 (by decide), hrows (h1.rows p hp).2 (by decide)⟩
   · rw [List.mem_singleton] at hp
     subst hp
     exact ⟨aXw (hrows hd1 (by decide)) hBC, aXw (hrows ha1 (by decide)) hBC⟩
 · rw [List.flatMap_append, List.nodup_append]
   refine ⟨h.nodup, ?_, ?_⟩
   · simp only [List.flatMap_cons, List.flatMap_nil, List.append_nil]
     rw [List.nodup_append]
     refine ⟨by unfold blk; cases dv.ownBlock <;> simp, by unfold blk; cases av.ownBlock <;> simp, ?_⟩
     intro a hma b hmb hab
     subst hab
     unfold blk at hma hmb
     rw [Option.mem_toList] at hma hmb
     obtain ⟨cs, hc⟩ := aQ3 hd hma
     obtain ⟨cs', hc'⟩ := aQ3 ha hmb
     exact aQ5 hc hc' (by decide) rfl
   · intro a hma b hmb hab
     subst hab
     have := hC a hma
     simp only [List.flatMap_cons, List.flatMap_nil, List.append_nil] at hmb
     unfold blk at hmb
     rcases List.mem_append.1 hmb with hm | hm
     · rw [Option.mem_toList] at hm; have := (hd.lt _ hm).1; omega
     · rw [Option.mem_toList] at hm; have := (ha.lt _ hm).1; omega
section
variable {e : Ev} {l : List Ev} {op : List ByteArray} {el : Nat}
theorem nz_len {st st' : List Scp} {n : Nd} (h : aVn st e = (st', .ok n)) : st'.length = if e.kind = 1 then st.length + 1 else if e.kind = 2 then st.length - 1 else st.length := by
 by_cases k1 : e.kind = 1
 · rw [bQw k1] at h
   cases hx : aZo (st.map (·.2)) e with
   | error c => rw [hx] at h; cases h
   | ok n' => rw [hx] at h; cases h; rw [if_pos k1]; simp
 · rw [if_neg k1]
   by_cases k2 : e.kind = 2
   · rw [cZu k2] at h; cases h; rw [if_pos k2]; simp
   · rw [if_neg k2]
     by_cases k5 : e.kind = 5
     · rw [cV6 k5] at h
       split at h
       · cases h
       · cases h; rfl
     · rw [bZf k1 k2 k5] at h; cases h; rfl
theorem cW4 (h : aXr (e :: l) op el = true) (ho : op.length ≤ 30) : ∃ op' el', aXr l op' el' = true ∧ op'.length ≤ 30 ∧ op'.length = (if e.kind = 1 then op.length + 1 else if e.kind = 2 then op.length - 1 else op.length) ∧ (e.kind = 1 → e.attrs.length ≤ 60) ∧ (e.kind = 2 → op.length ≠ 0) := by
 by_cases k1 : e.kind = 1
 · by_cases hd : op.length = 30 ∨ 60 < e.attrs.length
   · rw [bXf k1 hd] at h; cases h
   · rw [bZd k1 (by omega) (by omega)] at h
     exact ⟨_, _, h, by simp; omega, by rw [if_pos k1]; simp, fun _ => by omega, fun k => by omega⟩
 · by_cases k2 : e.kind = 2
   · by_cases h0 : op.length = 0
     · rw [cQz k2 h0] at h; cases h
     · cases hs : aQx (op.getD (op.length - 1) ⟨#[]⟩) e.name with
       | false => rw [bKq k2 h0 hs] at h; cases h
       | true =>
        rw [cW5 k2 h0 hs] at h
        exact ⟨_, _, h, by simp; omega, by rw [if_neg k1, if_pos k2]; simp, fun k => absurd k k1, fun _ => h0⟩
   · have hlen : op.length = (if e.kind = 1 then op.length + 1 else if e.kind = 2 then op.length - 1 else op.length) := by rw [if_neg k1, if_neg k2]
     by_cases k3 : e.kind = 3
     · by_cases h0 : op.length = 0
       · rw [cW3 k3 h0] at h; cases h
       · rw [cQy k3 h0] at h
         exact ⟨op, el, h, ho, hlen, fun k => absurd k k1, fun k => absurd k k2⟩
     · by_cases k4 : e.kind = 4 ∨ e.kind = 5
       · rw [bQu k4] at h
         exact ⟨op, el, h, ho, hlen, fun k => absurd k k1, fun k => absurd k k2⟩
       · rw [cW6 k1 k2 k3 (fun k => k4 (Or.inl k)) (fun k => k4 (Or.inr k))] at h; cases h
theorem cKu {st x : List Scp} {c : Int} {i : Nat} {acc : List Nd} (h : aVn st e = (x, .error c)) : aW6 (e :: l) i st acc = ⟨[], i, c⟩ := by
 unfold aW6; rw [h]
theorem cKs {st st' : List Scp} {n : Nd} {i : Nat} {acc : List Nd} (h : aVn st e = (st', .ok n)) : aW6 (e :: l) i st acc = aW6 l (i + 1) st' (acc ++ [n]) := by
 conv => lhs; unfold aW6
 rw [h]
end
def cJs (w : World) (R : NOut) (en : Ending) (w' : World) : Prop :=
 ∃ v vs, en = .returned (.agg #[v, .int .i64 R.at1, .int .i64 R.code]) ∧ aJc w' w.heap.size v R.nodes vs ∧ Below w.heap.size w w'
theorem cJ9 : (prog.info? 34).map (fun i => (i.zero, i.size, i.bytes)) = some (some (.agg zNdC), 8, 136) := by kernel_rfl
theorem st_err {sc : List (List (ByteArray × ByteArray))} {e : Ev} {c : Int} (h : aZo sc e = .error c) : c ≠ 0 := by
 unfold aZo at h
 split at h
 · cases h; decide
 · split at h
   · cases h; decide
   · split at h
     · cases h; decide
     · split at h
       · cases h; decide
       · cases h
theorem dJ7 {st x : List Scp} {e : Ev} {c : Int} (h : aVn st e = (x, .error c)) : c ≠ 0 := by
 by_cases k1 : e.kind = 1
 · rw [bQw k1] at h
   cases hx : aZo (st.map (·.2)) e with
   | error c' => rw [hx] at h; cases h; exact st_err hx
   | ok n' => rw [hx] at h; cases h
 · by_cases k2 : e.kind = 2
   · rw [cZu k2] at h; cases h
   · by_cases k5 : e.kind = 5
     · rw [cV6 k5] at h
       split at h
       · cases h; decide
       · cases h
     · rw [bZf k1 k2 k5] at h; cases h
structure SpB (w W : World) : Prop where
 res : W.heap[w.heap.size]? = some (.cells #[.slice none 0 0, .int .i64 0, .int .i64 0] 27)
 bel : Below w.heap.size w W
theorem SpB.step {w W W' : World} (h : SpB w W) (hb : Below W.heap.size W W') : SpB w W' :=
 ⟨(hb.block _ (gLt h.res)).trans h.res, h.bel.trans (hb.mono h.bel.size)⟩
theorem dZ4 {w W W' : World} (h : Below w.heap.size w W) (hk : Ks w.heap.size W W') : Below w.heap.size w W' :=
 ⟨hk.os.trans h.os, hk.tape.trans h.tape, hk.output.trans h.output, Nat.le_trans h.size hk.size, fun k hlt => (hk.block k (Nat.lt_of_lt_of_le hlt h.size) (Or.inl hlt)).trans (h.block k hlt)⟩
theorem SpB.ks {w W W' : World} (h : SpB w W) (hk : Ks w.heap.size W W') : SpB w W' :=
 ⟨hk.node h.res (by decide) (by decide), dZ4 h.bel hk⟩
theorem dK1 {W wa : World} {B b sb n : Nat} {st : List Scp} {ov v : Value} {mbs : List Nat} {xs : List Value} (h : ScAt W B sb st ov mbs) (hr : W.ownsRow b 34 8 v n xs) (hg : W.grownBy wa v.ownBlock) : ScAt wa B sb st ov mbs :=
 h.kept (aXe hg) (fun k hk => by
  rw [Option.mem_toList] at hk
  obtain ⟨cs, hc⟩ := aQ3 hr hk
  exact ⟨_, _, _, hc, by decide, by decide⟩)
theorem dK2 {w W wa : World} {v : Value} {n : Nat} {xs : List Value} (h : SpB w W) (hr : W.ownsRow w.heap.size 34 8 v n xs) (hg : W.grownBy wa v.ownBlock) : SpB w wa :=
 ⟨((aXe hg).block _ (gLt h.res) (fun hm => by
  rw [Option.mem_toList] at hm
  obtain ⟨cs, hc⟩ := aQ3 hr hm
  exact aQ5 h.res hc (by decide) rfl)).trans h.res, h.bel.grown hg h.bel.size (fun k hk => (hr.lt k hk).1)⟩
theorem bVj (w : World) (a : Option Addr) (n c : Nat) (evs : List Ev) (m : Int) (hn : n = evs.length) (h : EvIn w a evs) (hE : EnvS w m) (hla : ∀ e ∈ evs, e.attrs.length ≤ 1048576) (hnm : ∀ e ∈ evs, e.name.size ≤ 1048576) (hna : ∀ e ∈ evs, ∀ a ∈ e.attrs, a.1.size ≤ 1048576) (hbig : evs.length ≤ 1048576) :
 Calls prog 5 #[.slice a n c] w (cJs w (aZr evs)) := by
 subst hn
 obtain ⟨R, hR⟩ := nmE (aZr evs)
 rw [hR]
 obtain ⟨W1, hW1⟩ := nmE (w.alloc (.cells #[.slice none 0 0, .int .i64 0, .int .i64 0] 27))
 have hb1 : Below w.heap.size w W1 := by rw [← hW1]; exact bAl
 have B1 : Hid (SpB w W1) := aQ0 ⟨by rw [← hW1]; exact heap_alloc_new _ _, hb1⟩
 obtain ⟨q0, q1, q2, g0, g1, g2⟩ := aQz B1.out.res
 by_cases h400 : 400 < evs.length
 · obtain rfl : R = ⟨[], 0, 2⟩ := by rw [← hR]; unfold aZr; rw [if_pos h400]
   have h4 : 400 < (evs.length : Int) := by omega
   clear hR h hE hla hnm hna hb1
   go_enter func5, ntmps5
   go_wp2
   refine bodyPost_ret (v := .agg #[.slice none 0 0, .int .i64 0, .int .i64 2]) (by simp [results, results5, go_sem, q0, q1, q2]) rfl ⟨_, [], rfl, aJc.nil _ _, ?_⟩
   exact aQt (aQt (aQt B1.out.bel _ _) _ _) _ _
 · have hrr := bWz W1 a _ c evs rfl (by omega) hla (h.below hb1)
   have HI := aQ0 h
   have HE := aQ0 hE
   have HNM := aQ0 hnm
   have HNA := aQ0 hna
   have h4 : ¬ 400 < (evs.length : Int) := by omega
   cases hrow : aXr evs [] 0 with
   | false =>
    obtain rfl : R = ⟨[], 0, 1⟩ := by rw [← hR]; unfold aZr; rw [if_neg h400, if_pos hrow]
    rw [hrow] at hrr
    clear hR h hE hla hnm hna hb1 hrow h400
    go_enter func5, ntmps5
    go_wp2_with fail
    refine hrr.mono ?_
    rintro en w2 ⟨rfl, hb2⟩
    have B2 := aQ0 (B1.out.step hb2)
    clear hb2 hrr q0 q1 q2 g0 g1 g2
    obtain ⟨q0, q1, q2, g0, g1, g2⟩ := aQz B2.out.res
    go_wp2
    refine bodyPost_ret (v := .agg #[.slice none 0 0, .int .i64 0, .int .i64 1]) (by simp [results, results5, go_sem, q0, q1, q2]) rfl ⟨_, [], rfl, aJc.nil _ _, ?_⟩
    exact aQt (aQt (aQt B2.out.bel _ _) _ _) _ _
   | true =>
    have hR0 : R = aW6 evs 0 [] [] := by rw [← hR]; unfold aZr; rw [if_neg h400, if_neg (by rw [hrow]; simp)]
    rw [hrow] at hrr
    have HR0 := aQ0 hR0
    have HRW := aQ0 hrow
    obtain ⟨i0, hi, hz0, hz1, hz2⟩ := info_parts cJ9
    have h401 : evs.length ≤ 400 := by omega
    clear hR hR0 h hE hla hnm hna hb1 hrow h400
    go_enter func5, ntmps5
    go_wp2_with fail
    refine hrr.mono ?_
    rintro en w2 ⟨rfl, hb2⟩
    have B2 := aQ0 (B1.out.step hb2)
    clear hb2 hrr q0 q1 q2 g0 g1 g2
    obtain ⟨W3, hW3⟩ := nmE (w2.alloc (.cells #[.slice none 0 0] 58))
    have B3 : Hid (SpB w W3) := aQ0 (B2.out.step (by rw [← hW3]; exact bAl))
    have S3 : Hid (ScAt W3 w.heap.size w2.heap.size [] (.slice none 0 0) []) := aQ0 ⟨by rw [← hW3]; exact heap_alloc_new _ _, rfl, World.ownsRow_nil _ _ _ _, (fun j hj => by cases hj), B2.out.bel.size⟩
    go_wp2_with fail
    generalize hsb : w2.heap.size = sb at S3 ⊢
    clear hW3 hW1 B1
    go_loopw [4, 19] (fun nv iv wr => ∃ (k : Nat) (st : List Scp) (ov : Value) (mbs : List Nat) (nds : List Nd) (vs : List (Value × Value)) (op : List ByteArray) (el : Nat), k ≤ evs.length ∧ iv = .int .i64 k ∧ nds.length = k ∧ R = aW6 (evs.drop k) k st nds ∧ aXr (evs.drop k) op el = true ∧ op.length ≤ 30 ∧ st.length = op.length ∧ ScAt wr w.heap.size sb st ov mbs ∧ aJc wr w.heap.size nv nds vs ∧ SpB w wr) (fun _ iv _ => evs.length - (intOf iv).toNat)
    case atStart => exact ⟨0, [], _, _, [], [], [], 0, Nat.zero_le _, rfl, rfl, HR0.out, HRW.out, by decide, rfl, S3.out, aJc.nil _ _, B3.out⟩
    case round =>
     obtain ⟨k, st, ov, mbs, nds, vs, op, el, hk, rfl, hnl, hsp, hrg, hop, hso, hsc, hnd, hB⟩ := hrel
     subst hnl
     have HB := aQ0 hB
     have HS := aQ0 hsc
     have HN := aQ0 hnd
     obtain ⟨na, nc, rfl, hna'⟩ := aQr hnd.row
     clear hB hsc hnd S3 B3 B2
     by_cases hlt : nds.length < evs.length
     · obtain ⟨b, off, ha, hc⟩ := HI.out.below HB.out.bel
       obtain rfl := ha (by omega)
       obtain ⟨c0, c1, c2, bo, bc, c3, hEn⟩ := hc nds.length hlt
       have hnmE := HNM.out _ (List.getElem_mem hlt)
       have hnaE := HNA.out _ (List.getElem_mem hlt)
       have hdrop : evs.drop nds.length = (evs[nds.length]'hlt) :: evs.drop (nds.length + 1) := List.drop_eq_getElem_cons hlt
       rw [hdrop] at hsp hrg
       obtain ⟨E, hEe⟩ := nmE (evs[nds.length]'hlt)
       rw [hEe] at c0 c1 c2 c3 hEn hnmE hnaE hsp hrg
       obtain ⟨op', el', hrg', hop', hol', hat, hne⟩ := cW4 hrg hop
       obtain ⟨W5, hW5⟩ := nmE (wr.alloc (.cells #[.int .i64 E.kind, .string E.name, .string E.text, .slice bo E.attrs.length bc] 37))
       have hb5 : Below wr.heap.size wr W5 := by rw [← hW5]; exact bAl
       have B5 := aQ0 (HB.out.step hb5)
       have S5 := aQ0 (HS.out.below hb5)
       have N5 := aQ0 (HN.out.below hb5)
       obtain ⟨x0, x1, x2, x3⟩ := aX0 (show W5.heap[wr.heap.size]? = some (.cells #[.int .i64 E.kind, .string E.name, .string E.text, .slice bo E.attrs.length bc] 37) by rw [← hW5]; exact heap_alloc_new _ _)
       have hno := dXo W5 w.heap.size sb st ov mbs S5.out (by omega) E bo bc m (HE.out.below B5.out.bel) (hEn.grown (Ents.below_grown hb5)) (fun h => by have := hat h; omega) hnmE hnaE (fun h => by have := hne h; omega)
       have HSP := aQ0 hsp
       have HRG := aQ0 hrg'
       have HOL := aQ0 hol'
       have HOP := aQ0 hop'
       have HSO := aQ0 hso
       clear hc ha hEe hEn hnmE hnaE hsp hrg hrg' hol' hop' hat hne hb5 hdrop hna' hso
       go_wp2_with fail
       refine hno.mono ?_
       intro en w6 hs6
       unfold bZ6 at hs6
       rcases hX : aVn st E with ⟨st', r⟩
       rw [hX] at hs6
       cases r with
       | error cd =>
        obtain ⟨rfl, hk6⟩ := hs6
        obtain rfl : R = ⟨[], nds.length, cd⟩ := by rw [HSP.out]; exact cKu hX
        have hcd : (cd != 0) = true := by simp [dJ7 hX]
        have B6 := aQ0 (B5.out.ks hk6)
        have B7 : Hid (SpB w (w6.alloc (.cells #[.int .i64 0, .string ⟨#[]⟩, .string ⟨#[]⟩, .string ⟨#[]⟩, .string ⟨#[]⟩, .slice none 0 0, .slice none 0 0, .string ⟨#[]⟩] 34))) := aQ0 (B6.out.step (bAl))
        obtain ⟨q0, q1, q2, g0, g1, g2⟩ := aQz B7.out.res
        have hwk : IntKind.i64.wrap (nds.length : Int) = nds.length := aXt (by omega) (by omega)
        clear hno hk6 hX c0 c1 c2 c3 x0 x1 x2 x3
        unfold zAgg zNdC aQb zNd zNm
        go_wp2
        refine bodyPost_ret (v := .agg #[.slice none 0 0, .int .i64 nds.length, .int .i64 cd]) (by simp [results, results5, go_sem, q0, q1, q2]) rfl ⟨_, [], rfl, aJc.nil _ _, ?_⟩
        exact aQt (aQt (aQt B7.out.bel _ _) _ _) _ _
       | ok nd =>
        obtain ⟨dv, av, ov', mbs', rfl, hd6, ha6, hs6', hk6⟩ := hs6
        have HR1 := aQ0 (HSP.out.trans (cKs hX))
        have HSL := aQ0 (show st'.length = op'.length by rw [nz_len hX, HSO.out, HOL.out])
        have B6 := aQ0 (B5.out.ks hk6)
        have N6 := aQ0 (N5.out.ks hk6)
        have hC := fun k (hk : k ∈ vs.flatMap fun p => blk p.1 ++ blk p.2) => N5.out.lt hk
        have HC := aQ0 hC
        have hwC : w.heap.size ≤ W5.heap.size := B5.out.bel.size
        have HWC := aQ0 hwC
        obtain ⟨da, dc, rfl, _⟩ := aQr hd6
        obtain ⟨aa, ac', rfl, _⟩ := aQr ha6
        obtain ⟨W7, hW7⟩ := nmE (w6.alloc (.cells #[.int .i64 nd.kind, .string nd.name.pre, .string nd.name.loc, .string nd.name.spc, .string nd.name.val, .slice da nd.decls.length dc, .slice aa nd.attrs.length ac', .string nd.text] 34))
        have hb7 : Below w6.heap.size w6 W7 := by rw [← hW7]; exact bAl
        have B7 := aQ0 (B6.out.step hb7)
        have S7 := aQ0 (hs6'.below hb7)
        have N7 := aQ0 (N6.out.below hb7)
        have D7 := aQ0 (aQ4 hd6 (fun k hk => hb7.block _ (hd6.lt k hk).2))
        have A7 := aQ0 (aQ4 ha6 (fun k hk => hb7.block _ (ha6.lt k hk).2))
        have hbx : W7.heap[w6.heap.size]? = some (.cells (aQb nd (.slice da nd.decls.length dc) (.slice aa nd.attrs.length ac')) 34) := by rw [← hW7]; exact heap_alloc_new _ _
        obtain ⟨z0, z1, z2, z3, z4, z5, z6, z7, z8⟩ := aXm hbx
        have hone : ∀ u ∈ [Value.int .i64 nd.kind, .string nd.name.pre, .string nd.name.loc, .string nd.name.spc, .string nd.name.val, .slice da nd.decls.length dc, .slice aa nd.attrs.length ac', .string nd.text], u.oneCell' = true := by intro u hu; simp at hu; rcases hu with rfl | rfl | rfl | rfl | rfl | rfl | rfl | rfl <;> rfl
        have hmx : nds.length + 1 ≤ maxLen := by unfold maxLen; omega
        have hmy : (nds.length + 1) * 136 ≤ 140737488355328 := by omega
        have hmz : ∀ o, w.heap.size ≤ (W7.alloc o).heap.size := by intro o; have := B7.out.bel.size; simp; omega
        clear hno hk6 hX c0 c1 c2 c3 x0 x1 x2 x3 hd6 ha6 hs6' hb7 hbx z8 hC hwC
        unfold aQb
        go_wp2_with (at_builtin; refine wpList_append_own _ rfl _ _ 25 rfl w.heap.size 34 i0 (.agg zNdC) 8 136 underlying25 hi hz0 hz1 hz2 rfl (by decide) _ _ _ rfl (N7.out.row.alloc _) ⟨_, 0, none⟩ 1 1 [.int .i64 nd.kind, .string nd.name.pre, .string nd.name.loc, .string nd.name.spc, .string nd.name.val, .slice da nd.decls.length dc, .slice aa nd.attrs.length ac', .string nd.text] rfl rfl (aVr _ _ _) hone hmx hmy (hmz _) ?_; intro v' wa hown' hgrow _; have SA := aQ0 (dK1 (S7.out.below (bAl)) (N7.out.row.alloc _) hgrow); have BA := aQ0 (dK2 (B7.out.step (bAl)) (N7.out.row.alloc _) hgrow); have NA := aQ0 (N7.out.push HWC.out HC.out D7.out A7.out _ hown' hgrow); clear hown' hgrow)
        go_roundw
        case rel => exact ⟨nds.length + 1, st', ov', mbs', nds ++ [nd], _, op', el', by omega, by go_num, by rw [List.length_append]; rfl, HR1.out, HRG.out, HOP.out, HSL.out, SA.out, NA.out, BA.out⟩
        case measure => simp [intOf]; omega
     · have hend : evs.drop nds.length = [] := List.drop_eq_nil_of_le (by omega)
       rw [hend] at hsp
       obtain rfl : R = ⟨nds, 0, 0⟩ := hsp
       obtain ⟨q0, q1, q2, g0, g1, g2⟩ := aQz HB.out.res
       clear hrg hend
       go_wp2
       refine bodyPost_ret (v := .agg #[.slice na nds.length nc, .int .i64 0, .int .i64 0]) (by simp [results, results5, go_sem, q0, q1, q2]) rfl ⟨_, vs, rfl, ?_, ?_⟩
       · refine HN.out.keep (fun j cs t hc ht => ?_)
         have hne := aQ5 hc HB.out.res (by rcases ht with rfl | rfl | rfl <;> decide)
         simp only [aQq _ hne]
       · exact aQt (aQt (aQt HB.out.bel _ _) _ _) _ _
end Go.Proofs.YtocnfoeaikiecaaGreatDoor
