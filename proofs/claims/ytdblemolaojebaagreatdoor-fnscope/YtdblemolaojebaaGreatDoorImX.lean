import Derived.Test.YtdblemolaojebaaGreatDoorImD
set_option maxHeartbeats 8000000
set_option maxRecDepth 100000
namespace Go.Proofs.YtdblemolaojebaaGreatDoor
open Go.RowKit Lists Plain10
def aY4 (L : Nat → Act → World → Prop) (Q : Exit → Act → World → Prop) : Exit → Act → World → Prop
 | .goto l, a, w => L l a w
 | e, a, w => Q e a w
theorem bXo {P : Program} {a : Act} {w : World} {Q : Exit → Act → World → Prop} {c : Code} (L : Nat → Act → World → Prop) (μ : Nat → Act → World → Nat) (first : c.wp P (aY4 L Q) a w)
 (pass : ∀ l a w, L l a w → ∃ r, findLabel c l = some r ∧ r.wp P (aY4 (fun l' a' w' => L l' a' w' ∧ μ l' a' w' < μ l a w) Q) a w) : (Code.scope c).wp P Q a w := by
 intro b k cs
 have key : ∀ n l a w, μ l a w = n → L l a w → ∀ r, findLabel c l = some r → ∃ e a' w', Q e a' w' ∧ Arrives P (lone (b.at a (.code r :: .inScope c :: k)) cs w) b k cs e a' w' := by
  intro n
  induction n using Nat.strongRecOn with
  | _ n ih =>
   intro l a w hn hL r hr
   obtain ⟨r', hr', hwp⟩ := pass l a w hL
   obtain rfl : r' = r := Option.some.inj (hr'.symm.trans hr)
   obtain ⟨e, a₁, w₁, hq, harr⟩ := hwp b (.inScope c :: k) cs
   cases e with
   | normal => exact ⟨.normal, a₁, w₁, hq, Steps.trans harr (.one step_inScope)⟩
   | exit id => exact ⟨.exit id, a₁, w₁, hq, fun k' hk => harr k' (by simp [exitTo, hk])⟩
   | goto l' =>
    obtain ⟨hL', hlt⟩ := hq
    obtain ⟨r2, hr2, _⟩ := pass l' a₁ w₁ hL'
    obtain ⟨e₂, a₂, w₂, hq₂, harr₂⟩ := ih _ (by omega) l' a₁ w₁ rfl hL' r2 hr2
    exact ⟨e₂, a₂, w₂, hq₂, .of_steps (harr _ (by simp [gotoIn, hr2])) harr₂⟩
   | ret => exact ⟨_, a₁, w₁, hq, harr⟩
   | panic ch => exact ⟨_, a₁, w₁, hq, harr⟩
   | outgrown => exact ⟨_, a₁, w₁, hq, harr⟩
 obtain ⟨e, a₁, w₁, hq, harr⟩ := first b (.inScope c :: k) cs
 cases e with
 | normal => exact ⟨.normal, a₁, w₁, hq, .head step_scope (Steps.trans harr (.one step_inScope))⟩
 | exit id => exact ⟨.exit id, a₁, w₁, hq, fun k' hk => .head step_scope (harr k' (by simp [exitTo, hk]))⟩
 | goto l' =>
  obtain ⟨r2, hr2, _⟩ := pass l' a₁ w₁ hq
  obtain ⟨e₂, a₂, w₂, hq₂, harr₂⟩ := key _ l' a₁ w₁ rfl hq r2 hr2
  exact ⟨e₂, a₂, w₂, hq₂, .of_steps (.head step_scope (harr _ (by simp [gotoIn, hr2]))) harr₂⟩
 | ret => exact ⟨_, a₁, w₁, hq, .of_steps (.one step_scope) harr⟩
 | panic ch => exact ⟨_, a₁, w₁, hq, .of_steps (.one step_scope) harr⟩
 | outgrown => exact ⟨_, a₁, w₁, hq, .of_steps (.one step_scope) harr⟩
theorem bJe (w : World) (a : Option Addr) (c : Nat) (l : List (ByteArray × ByteArray)) (n : ByteArray) (h : AttrsAt w a l) (hl : l.length ≤ 1048576) :
 Calls Tryz.prog 78 #[.slice a l.length c, .string n] w fun e w' => e = .returned (.bool (hasZ l n)) ∧ w.grownBy w' none := by
 have HA := aQ1 h
 clear h
 obtain ⟨R, hR⟩ : ∃ R, hasZ l n = R := ⟨_, rfl⟩
 rw [hR]
 have HR := aQ1 hR
 clear hR
 go_enter Tryz.func78, Tryz.ntmps78
 go_wp2
 go_loopw [9] (fun i wr => ∃ k : Nat, k ≤ l.length ∧ i = .int .i64 k ∧ hasTo l n k = false ∧ w.grownBy wr none) (fun i _ => l.length - (intOf i).toNat)
 case atStart => exact ⟨0, Nat.zero_le _, rfl, rfl, ⟨rfl, rfl, rfl, Nat.le_refl _, fun _ _ _ => rfl⟩⟩
 case round =>
  obtain ⟨k, hk, rfl, hno, hgr⟩ := hrel
  have HNO := aQ1 hno
  have HG := aQ1 hgr
  clear hno hgr
  by_cases hlt : k < l.length
  · have hlti : (k : Int) < (l.length : Int) := by omega
    rcases HA.out with h0 | ⟨gg, ha, hcells⟩
    · subst h0; simp at hlt
    · subst ha
      obtain ⟨h1, h2⟩ := hcells k hlt
      have e1 := Ents.aXs (fun k hk => HG.out.block k hk (by simp)) h1
      have e2 := Ents.aXs (fun k hk => HG.out.block k hk (by simp)) h2
      obtain ⟨m, hm⟩ : ∃ m, (l[k]'hlt) = m := ⟨_, rfl⟩
      rw [hm] at e1 e2
      have HM := aQ1 hm
      have HG2 := aQ1 (aQ3 HG.out (aZg wr (.cells #[.string m.1, .string m.2] 148) none))
      clear hcells hm h1 h2
      cases hst : (m.1.toList == n.toList) with
      | true =>
       have hRt : R = true := by rw [← HR.out]; apply hasTo_mono (k := k + 1); rw [bVu hlt, HM.out, hst, Bool.or_true]
       subst hRt
       go_wp2
       go_ret
       exact ⟨rfl, HG2.out⟩
      | false =>
       have hno2 : hasTo l n (k + 1) = false := by rw [bVu hlt, HM.out, hst, HNO.out]; rfl
       have HN2 := aQ1 hno2
       clear hno2
       go_wp2
       go_roundw
       case rel => exact ⟨k + 1, by omega, by go_num, HN2.out, HG2.out⟩
       case measure => simp [intOf]; omega
  · have hlti : ¬ (k : Int) < (l.length : Int) := by omega
    have hRf : R = false := by
     rw [← HR.out]
     have hkl : k = l.length := by omega
     have h0 := HNO.out
     rw [hkl] at h0
     unfold hasTo at h0
     rw [List.take_length] at h0
     exact h0
    subst hRf
    go_wp2
    go_ret
    exact ⟨rfl, HG.out⟩
theorem Env.keepTo {w W W3 : World} {m : Int} (h : Env W m) (e0 : Env w m) (hk : ∀ q, q < w.heap.size → W3.heap[q]? = W.heap[q]?) : Env W3 m := by
 obtain ⟨⟨_, _, h1⟩, ⟨_, _, h2⟩⟩ := e0.tabs
 obtain ⟨⟨t, fr, g1⟩, ⟨t', fr', g2⟩⟩ := h.tabs
 refine ⟨⟨⟨t, fr, ?_⟩, ⟨t', fr', ?_⟩⟩, ?_, fun i z hz => ?_⟩
 · rw [hk _ (gLt h1)]; exact g1
 · rw [hk _ (gLt h2)]; exact g2
 · exact aZ4 (hk _ (aQf e0.mx)) h.mx
 · exact aZ4 (hk _ (aQf (e0.fo i z hz))) (h.fo i z hz)
structure It [Inhabited Hold] (w W : World) (g : Nat) (s : ByteArray) (p : Nat) (m : Int) (k : Nat) (kd : Int) (nm : ByteArray) (v : Value) (acc : List (ByteArray × ByteArray)) (b : Nat) (an av : ByteArray) : Prop where
 ik : Ik w W g s p m k kd nm ByteArray.empty v
 row : W.ownsRow (b + 1) 148 2 v acc.length (aQ8 acc)
 atb : bZ1 W b an av
 order : k < b
 fk : Far k
 fb : Far b
 e0 : Env w m
variable {w W W' : World} {g : Nat} {s : ByteArray} {p p' : Nat} {m : Int} {k : Nat} {kd : Int} {nm : ByteArray} {v : Value} {acc : List (ByteArray × ByteArray)} {b : Nat} {an av : ByteArray}
theorem at_lt (h : bZ1 W b an av) : b < W.heap.size := (gLt h)
theorem It.step [Inhabited Hold] (h : It w W g s p m k kd nm v acc b an av) (hb : aQi W' g s p') (hg : W.grownBy W' (some g)) : It w W' g s p' m k kd nm v acc b an av := by
 have h1 := h.ik.ir.lt
 have h2 := h.ik.ahead
 have h3 := h.order
 refine ⟨h.ik.step hb hg, h.row.kept hg (.inr fun e => by have := h.row.lt g e; omega), ?_, h.order, h.fk, h.fb, h.e0⟩
 unfold bZ1
 rw [hg.block b (at_lt h.atb) (fun e => by have := Option.some.inj e; omega)]; exact h.atb
theorem It.anset [Inhabited Hold] (h : It w W g s p m k kd nm v acc b an av) (t : ByteArray) : It w (W.setCell ⟨b, 0, none⟩ (.string t)) g s p m k kd nm v acc b t av := by
 have h1 := h.ik.ir.lt
 have h2 := h.ik.ahead
 have h3 := h.order
 refine ⟨⟨⟨aZd h.ik.ir.sc (by omega) _, ?_, h.ik.ir.env.set h.fb, aJ1 h.ik.ir.grown (by omega) _, h1, h.ik.ir.far⟩, ?_, h2⟩, ?_, ?_, h3, h.fk, h.fb, h.e0⟩
 · unfold aQt; rw [aJw _ (by omega)]; exact h.ik.ir.res
 · unfold aQt; rw [aJw _ (by omega)]; exact h.ik.box
 · exact h.row.kept (gset5 (g := b) (j := 0) (.string t)) (.inr fun e => by have := h.row.lt b e; omega)
 · unfold bZ1; rw [set5 h.atb 0 (.string t)]; rfl
theorem It.avset [Inhabited Hold] (h : It w W g s p m k kd nm v acc b an av) (t : ByteArray) : It w (W.setCell ⟨b, 1, none⟩ (.string t)) g s p m k kd nm v acc b an t := by
 have h1 := h.ik.ir.lt
 have h2 := h.ik.ahead
 have h3 := h.order
 refine ⟨⟨⟨aZd h.ik.ir.sc (by omega) _, ?_, h.ik.ir.env.set h.fb, aJ1 h.ik.ir.grown (by omega) _, h1, h.ik.ir.far⟩, ?_, h2⟩, ?_, ?_, h3, h.fk, h.fb, h.e0⟩
 · unfold aQt; rw [aJw _ (by omega)]; exact h.ik.ir.res
 · unfold aQt; rw [aJw _ (by omega)]; exact h.ik.box
 · exact h.row.kept (gset5 (g := b) (j := 1) (.string t)) (.inr fun e => by have := h.row.lt b e; omega)
 · unfold bZ1; rw [set5 h.atb 1 (.string t)]; rfl
theorem It.kset [Inhabited Hold] (h : It w W g s p m k kd nm v acc b an av) (j : Nat) (u : Value) {kd' : Int} {nm' : ByteArray} (hu : (#[.int .i64 kd, .string nm, .string ByteArray.empty, v] : Array Value).setIfInBounds j u = #[.int .i64 kd', .string nm', .string ByteArray.empty, v]) : It w (W.setCell ⟨k, j, none⟩ u) g s p m k kd' nm' v acc b an av := by
 have h1 := h.ik.ir.lt
 have h2 := h.ik.ahead
 have h3 := h.order
 refine ⟨⟨⟨aZd h.ik.ir.sc (by omega) _, ?_, h.ik.ir.env.set h.fk, aJ1 h.ik.ir.grown (by omega) _, h1, h.ik.ir.far⟩, ?_, h2⟩, ?_, ?_, h3, h.fk, h.fb, h.e0⟩
 · unfold aQt; rw [aJw _ (by omega)]; exact h.ik.ir.res
 · unfold aQt; rw [set5 h.ik.box j u, hu]
 · exact h.row.kept (gset5 (g := k) (j := j) u) (.inr fun e => by have := h.row.lt k e; omega)
 · unfold bZ1; rw [aJw _ (by omega)]; exact h.atb
theorem It.kind [Inhabited Hold] (h : It w W g s p m k kd nm v acc b an av) (z : Int) : It w (W.setCell ⟨k, 0, none⟩ (.int .i64 z)) g s p m k z nm v acc b an av := h.kset 0 _ rfl
theorem It.name [Inhabited Hold] (h : It w W g s p m k kd nm v acc b an av) (t : ByteArray) : It w (W.setCell ⟨k, 1, none⟩ (.string t)) g s p m k kd t v acc b an av := h.kset 1 _ rfl
theorem It.appended [Inhabited Hold] {W3 : World} {v' : Value} (h : It w W g s p m k kd nm v acc b an av) (o : Obj) (hr : W3.ownsRow (b + 1) 148 2 v' (acc.length + 1) (aQ8 acc ++ [.string an, .string av])) (hg : (W.alloc o).grownBy W3 v.ownBlock) :
 It w (W3.setCell ⟨k, 3, none⟩ v') g s p m k kd nm v' (acc ++ [(an, av)]) b an av := by
 have h1 := h.ik.ir.lt
 have h2 := h.ik.ahead
 have h3 := h.order
 have hne : ∀ q, q ≤ b → some q ≠ v.ownBlock := fun q hq e => by have := h.row.lt q e.symm; omega
 have hz : (W.alloc o).heap.size = W.heap.size + 1 := by simp
 have hbl := at_lt h.atb
 have hkeep : ∀ q, q ≤ b → W3.heap[q]? = W.heap[q]? := fun q hq => by
  rw [hg.block q (by omega) (hne q hq)]; exact heap_alloc_old W o (by omega)
 have hsc : aQi W3 g s p := by unfold aQi; rw [hkeep g (by omega)]; exact h.ik.ir.sc
 have hres : aQt W3 w.heap.size 0 ByteArray.empty ByteArray.empty (.slice none 0 0) := by unfold aQt; rw [hkeep _ (by omega)]; exact h.ik.ir.res
 have hbox : aQt W3 k kd nm ByteArray.empty v := by unfold aQt; rw [hkeep _ (by omega)]; exact h.ik.box
 have hatb : bZ1 W3 b an av := by unfold bZ1; rw [hkeep _ (Nat.le_refl _)]; exact h.atb
 have hgr : w.grownBy W3 (some g) := ⟨hg.os.trans h.ik.ir.grown.os, hg.tape.trans h.ik.ir.grown.tape, hg.output.trans h.ik.ir.grown.output, by have a1 := h.ik.ir.grown.size; have a2 := hg.size; omega,
  fun i hi hne' => (hkeep i (by omega)).trans (h.ik.ir.grown.block i hi hne')⟩
 have henv : Env W3 m := h.ik.ir.env.keepTo h.e0 fun q hq => hkeep q (by omega)
 have e1 : (acc ++ [(an, av)]).length = acc.length + 1 := by simp
 refine ⟨⟨⟨aZd hsc (by omega) _, ?_, henv.set h.fk, aJ1 hgr (by omega) _, h1, h.ik.ir.far⟩, ?_, h2⟩, ?_, ?_, h3, h.fk, h.fb, h.e0⟩
 · unfold aQt; rw [aJw _ (by omega)]; exact hres
 · unfold aQt; rw [set5 hbox 3 v']; rfl
 · rw [e1, aWv]
   exact hr.kept (gset5 (g := k) (j := 3) v') (.inr fun e => by have := hr.lt k e; omega)
 · unfold bZ1; rw [aJw _ (by omega)]; exact hatb
theorem It.kbox [Inhabited Hold] {W3 : World} (h : It w W g s p m k kd nm v acc b an av) (o : Obj) (hg : (W.alloc o).grownBy W3 v.ownBlock) : aQt W3 k kd nm ByteArray.empty v := by
 have h3 := h.order
 have hbl := at_lt h.atb
 have hne : some k ≠ v.ownBlock := fun e => by have := h.row.lt k e.symm; omega
 unfold aQt
 rw [hg.block k (by simp; omega) hne, heap_alloc_old W o (by omega)]; exact h.ik.box
theorem It.tells [Inhabited Hold] (h : It w W g s p m k kd nm v acc b an av) (hp : p ≤ s.size) :
 aKw w g s ⟨0, kd, nm, ByteArray.empty, acc, p⟩ (.returned (.tuple #[.agg #[.int .i64 kd, .string nm, .string ByteArray.empty, v], errV 0])) ((((W.setCell ⟨w.heap.size, 0, none⟩ (.int .i64 kd)).setCell ⟨w.heap.size, 1, none⟩ (.string nm)).setCell ⟨w.heap.size, 2, none⟩ (.string ByteArray.empty)).setCell ⟨w.heap.size, 3, none⟩ v) := by
 have hF := bW0 h.ik.ir.sc h.ik.ir.grown h.ik.ir.lt (.int .i64 kd) (.string nm) (.string ByteArray.empty) v
 have ha := h.ik.ahead
 have hb := h.order
 have hs : ∀ {W0 : World} (j : Nat) (u : Value), W0.ownsRow (b + 1) 148 2 v acc.length (aQ8 acc) → (W0.setCell ⟨w.heap.size, j, none⟩ u).ownsRow (b + 1) 148 2 v acc.length (aQ8 acc) :=
  fun j u h0 => h0.kept (gset5 (g := w.heap.size) (j := j) u) (.inr fun e => by have := h0.lt _ e; omega)
 have hr := hs 3 v (hs 2 (.string ByteArray.empty) (hs 1 (.string nm) (hs 0 (.int .i64 kd) h.row)))
 obtain ⟨ao, an', ac, rfl⟩ : ∃ ao an' ac, v = .slice ao an' ac := by
  rcases aZm h.row with ⟨rfl, _⟩ | ⟨_, _, rfl⟩
  · exact ⟨_, _, _, rfl⟩
  · exact ⟨_, _, _, rfl⟩
 refine ⟨kd, nm, ByteArray.empty, _, _, _, p, rfl, hF.1, hp, fun _ => ⟨rfl, rfl, rfl, rfl, ?_⟩, hF.2⟩
 rcases hr with ⟨h1, h2⟩
 refine ⟨h1, ?_⟩
 rcases h2 with h2 | ⟨b', cap, cur, h3, h4, h5⟩
 · exact .inl h2
 · exact .inr ⟨b', cap, cur, h3, by omega, h5⟩
open Go.RowKit Plain9 Plain10 Plain15
def Sh (g r k b : Nat) (a : Act) : Prop := ∃ u : Nat → Value, a = ⟨#[.pointer (some ⟨g, 0, none⟩), u 1, .pointer (some ⟨r, 0, none⟩), u 3, .pointer (some ⟨k, 0, none⟩), .pointer (some ⟨b, 0, none⟩), u 6, u 7, u 8, u 9, u 10, u 11, u 12, u 13, u 14, u 15, u 16, u 17, u 18, u 19, u 20, u 21, u 22, u 23, u 24, u 25, u 26, u 27, u 28, u 29, u 30, u 31, u 32, u 33, u 34, u 35, u 36, u 37, u 38, u 39, u 40, u 41, u 42, u 43, u 44, u 45, u 46, u 47, u 48, u 49, u 50, u 51, u 52, u 53, u 54, u 55, u 56, u 57, u 58, u 59, u 60, u 61, u 62, u 63, u 64, u 65, u 66, u 67, u 68, u 69, u 70, u 71, u 72, u 73, u 74, u 75, u 76, u 77, u 78, u 79, u 80, u 81, u 82, u 83, u 84, u 85], []⟩
theorem expand86 (t : Array Value) (h : t.size = 86) : t = ((List.range 86).map fun i => t.getD i undef).toArray := by
 apply Array.ext
 · simp [h]
 · intro i h1 h2
   simp [Array.getD, h1]
theorem lit86 (u : Nat → Value) : ((List.range 86).map u).toArray = #[u 0, u 1, u 2, u 3, u 4, u 5, u 6, u 7, u 8, u 9, u 10, u 11, u 12, u 13, u 14, u 15, u 16, u 17, u 18, u 19, u 20, u 21, u 22, u 23, u 24, u 25, u 26, u 27, u 28, u 29, u 30, u 31, u 32, u 33, u 34, u 35, u 36, u 37, u 38, u 39, u 40, u 41, u 42, u 43, u 44, u 45, u 46, u 47, u 48, u 49, u 50, u 51, u 52, u 53, u 54, u 55, u 56, u 57, u 58, u 59, u 60, u 61, u 62, u 63, u 64, u 65, u 66, u 67, u 68, u 69, u 70, u 71, u 72, u 73, u 74, u 75, u 76, u 77, u 78, u 79, u 80, u 81, u 82, u 83, u 84, u 85] := rfl
theorem bZm {g r k b : Nat} (t : Array Value) (hs : t.size = 86) (h0 : t.getD 0 undef = .pointer (some ⟨g, 0, none⟩)) (h2 : t.getD 2 undef = .pointer (some ⟨r, 0, none⟩)) (h4 : t.getD 4 undef = .pointer (some ⟨k, 0, none⟩)) (h5 : t.getD 5 undef = .pointer (some ⟨b, 0, none⟩)) : Sh g r k b ⟨t, []⟩ := by
 refine ⟨fun i => t.getD i undef, ?_⟩
 rw [← h0, ← h2, ← h4, ← h5]
 exact congrArg (fun x => Act.mk x []) ((expand86 t hs).trans (lit86 fun i => t.getD i undef))
theorem strs_new2 (W : World) (t t' : ByteArray) : StrsAt (W.alloc (.cells #[.string t, .string t'] 9)) (some ⟨W.heap.size, 0, none⟩) [t, t'] := by
 refine ⟨W.heap.size, fun _ => rfl, fun i hi => ?_⟩
 unfold World.cell?
 rw [heap_alloc_new]
 match i, hi with
 | 0, _ => rfl
 | 1, _ => rfl
theorem lack_end (s : ByteArray) (q : Nat) : aKy s q [⟨#[47, 62]⟩, ⟨#[62]⟩] = endL s q := by
 unfold aKy endL
 cases h1 : (rest s q).isPrefixOf [47, 62] <;> cases h2 : (rest s q).isPrefixOf [62] <;> simp [h1, h2]
theorem endL_12 (s : ByteArray) (q : Nat) : endL s q ≠ 0 := by unfold endL; split <;> simp
open Go.RowKit Plain9 Plain10 Plain11 Plain15
def LabS [Inhabited Hold] (w : World) (g : Nat) (s : ByteArray) (m : Int) (nm : ByteArray) (R : Tk) (l : Nat) (a : Act) (W : World) : Prop :=
 Sh g w.heap.size (w.heap.size + 1) (w.heap.size + 2) a ∧ ∃ q acc v an av, It w W g s q m (w.heap.size + 1) 0 nm v acc (w.heap.size + 2) an av ∧ q ≤ s.size ∧
  ((l = 0 ∧ VB s q ∧ acc.length ≤ q ∧ ∃ f, aWf s nm f q acc = R ∧ s.size + 1 ≤ q + f) ∨ (l = 1 ∧ tagE s nm q acc = R) ∨ (l = 2 ∧ VB s q ∧ acc.length ≤ q ∧ ∃ f, tagN s nm f q acc = R ∧ s.size + 1 ≤ q + f) ∨
   (l = 3 ∧ VB s q ∧ acc.length ≤ q ∧ ∃ f, tagS s nm f q an acc = R ∧ s.size + 1 ≤ q + f) ∨ (l = 4 ∧ VB s q ∧ acc.length ≤ q ∧ ∃ f, tagV s nm f q an acc = R ∧ s.size + 1 ≤ q + f))
def bQ1 (l : Nat) : Nat := if l = 0 then 4 else if l = 2 then 3 else if l = 3 then 2 else if l = 4 then 1 else 0
def measS (s : ByteArray) (g : Nat) (l : Nat) (_a : Act) (W : World) : Nat := 5 * (s.size + 1 - imPos W g) + bQ1 l
theorem valGo_012 (s : ByteArray) (q : Int) : ∀ (f i : Nat), (aZv s q f i).1 = 0 ∨ (aZv s q f i).1 = 1 ∨ (aZv s q f i).1 = 2
 | 0, i => .inr (.inl rfl)
 | f + 1, i => by
  unfold aZv
  split
  · split
    · exact .inr (.inr rfl)
    · split
      · exact .inl rfl
      · exact valGo_012 s q f (i + 1)
  · exact .inr (.inl rfl)
theorem val_012 (s : ByteArray) (p : Nat) : valF s p = 0 ∨ valF s p = 1 ∨ valF s p = 2 := by
 unfold valF
 split
 · exact .inr (.inl rfl)
 · split
   · exact valGo_012 s _ _ _
   · exact .inr (.inr rfl)
theorem imStart_any [Inhabited Hold] {w : World} {g : Nat} {s : ByteArray} {p : Nat} {m : Int} (h : aQi w g s p) (he : Env w m) (hF : Far g) (hv0 : VB s 0) (hv : VB s p) (hs : s.size ≤ 1048576) (hp : p ≤ s.size) :
 Calls Tryz.prog 66 #[.pointer (some ⟨g, 0, none⟩)] w fun e w' => aKw w g s (tagZ s p) e w' := by
 obtain ⟨R, hR⟩ : ∃ R, tagZ s p = R := ⟨_, rfl⟩
 rw [hR]
 have HR := aQ1 hR
 clear hR
 obtain ⟨i0, hi0, hz0, hz1, hz2⟩ := info_parts bZ6
 have F0 := aQ1 (Ir.start h he hF)
 have F1 : Hid (Ik w ((w.alloc zTok).alloc zTok) g s p m (w.heap.size + 1) 0 ByteArray.empty ByteArray.empty (.slice none 0 0)) := by
  have h1 := F0.out.new 0 ByteArray.empty ByteArray.empty (.slice none 0 0)
  rw [show (w.alloc zTok).heap.size = w.heap.size + 1 by simp] at h1
  exact aQ1 h1
 have F2 : Hid (It w (((w.alloc zTok).alloc zTok).alloc (.cells #[.string ByteArray.empty, .string ByteArray.empty] 148)) g s p m (w.heap.size + 1) 0 ByteArray.empty (.slice none 0 0) [] (w.heap.size + 2) ByteArray.empty ByteArray.empty) := by
  refine aQ1 ⟨F1.out.step (aZu F1.out.ir.sc _) (aZg _ _ _), World.ownsRow_nil _ _ _ _, ?_, by omega, far_new he (by omega), far_new he (by omega), he⟩
  unfold bZ1
  have := heap_alloc_new ((w.alloc zTok).alloc zTok) (.cells #[.string ByteArray.empty, .string ByteArray.empty] 148)
  rw [show ((w.alloc zTok).alloc zTok).heap.size = w.heap.size + 2 by simp] at this
  exact this
 have hnm := aV9 F2.out.ik.ir.sc F2.out.ik.ir.env.tabs hv hs hp
 clear h he hF F0 F1
 unfold zTok at hnm
 go_enter Tryz.func66, Tryz.ntmps66
 go_wp2
 refine bXo (LabS w g s m (nmT s p) R) (measS s g) ?_ ?_
 · go_wp2_with fail
   refine hnm.mono ?_
   rintro e w1 ⟨t, q, rfl, hb1, hq, hT, hg1⟩
   have F3 := aQ1 (F2.out.step hb1 hg1)
   clear hnm hb1 hg1 F2
   obtain ⟨k0, k1, k2, k3, kf0, kf1, kf2, kf3⟩ := aQ6 F3.out.ik.box
   obtain ⟨r0, r1, r2, r3, s0, s1, s2, s3⟩ := aQ6 (F3.out.name t).ik.ir.res
   by_cases hf : nmF s p = 0
   · obtain ⟨ht, hq'⟩ := hT hf
     subst ht
     have hgo : aWf s (nmT s p) (s.size + 1) q [] = R := by rw [← HR.out, hq']; unfold tagZ; rw [if_neg (by omega)]
     have hvb : VB s q := by rw [hq']; exact nm_VB hv
     simp only [hf, aXq]
     clear hT hf hq'
     obtain ⟨f, hfd⟩ : ∃ f, s.size + 1 = f := ⟨_, rfl⟩
     rw [hfd] at hgo
     have hfu : s.size + 1 ≤ q + f := by omega
     clear hfd
     obtain ⟨acc, hacd⟩ : ∃ acc : List (ByteArray × ByteArray), [] = acc := ⟨_, rfl⟩
     have hacc : acc.length ≤ q := by rw [← hacd]; simp
     have FF := aQ1 (F3.out.name (nmT s p))
     rw [hacd] at FF hgo
     clear F3 hacd
     go_wp2_with fail
     go_step3
     obtain ⟨f', rfl⟩ : ∃ f', f = f' + 1 := ⟨f - 1, by omega⟩
     have hwh := aXi FF.out.ik.ir.sc hs hq
     have hr := aQq (s := s) hq
     have hge := aQw s q
     have hvr := aZj hv0 hvb
     obtain ⟨r, hrd⟩ : ∃ r, whiteZ s q = r := ⟨_, rfl⟩
     rw [hrd] at hwh hr hge hvr
     have HGO := aQ1 hgo
     have HRD := aQ1 hrd
     clear hgo hrd
     by_cases hpt : q < r
     · rw [decide_eq_true hpt] at hwh
       go_wp2_with fail
       refine hwh.mono ?_
       rintro e w2 ⟨rfl, hb2, hg2⟩
       have F3 := aQ1 (FF.out.step hb2 hg2)
       clear hwh hb2 hg2 FF
       have ha := aJc (sg := ⟨#[47]⟩) F3.out.ik.ir.sc hr w2 rfl
       cases h47 : aQ5 s r [47] with
       | true =>
        have hR1 : tagE s (nmT s p) r acc = R := by rw [← HGO.out, ← HRD.out]; exact (bX7 (.inr (.inl (by rw [HRD.out]; exact h47)))).symm
        rw [show aQ5 s r (⟨#[47]⟩ : ByteArray).data.toList = true from h47] at ha
        go_wp2_with fail
        refine ha.mono ?_
        rintro e w3 ⟨rfl, n, hww⟩
        have F4 := aQ1 (F3.out.step (W' := w3) (by rw [hww]; exact F3.out.ik.ir.sc) (by rw [hww]; exact aQb _ n _))
        clear ha hww F3 HGO HRD h47
        go_wp2
        go_step3
        exact ⟨bZm _ rfl rfl rfl rfl rfl, r, acc, _, _, _, F4.out, hr, (.inr (.inl ⟨rfl, hR1⟩))⟩
       | false =>
        rw [show aQ5 s r (⟨#[47]⟩ : ByteArray).data.toList = false from h47] at ha
        go_wp2_with fail
        refine ha.mono ?_
        rintro e w3 ⟨rfl, n, hww⟩
        have F4 := aQ1 (F3.out.step (W' := w3) (by rw [hww]; exact F3.out.ik.ir.sc) (by rw [hww]; exact aQb _ n _))
        clear ha hww F3
        have ha := aJc (sg := ⟨#[62]⟩) F4.out.ik.ir.sc hr w3 rfl
        cases h62 : aQ5 s r [62] with
        | true =>
         have hR1 : tagE s (nmT s p) r acc = R := by rw [← HGO.out, ← HRD.out]; exact (bX7 (.inr (.inr (by rw [HRD.out]; exact h62)))).symm
         rw [show aQ5 s r (⟨#[62]⟩ : ByteArray).data.toList = true from h62] at ha
         go_wp2_with fail
         refine ha.mono ?_
         rintro e w4 ⟨rfl, n, hww⟩
         have F5 := aQ1 (F4.out.step (W' := w4) (by rw [hww]; exact F4.out.ik.ir.sc) (by rw [hww]; exact aQb _ n _))
         clear ha hww F4 HGO HRD h47 h62
         go_wp2
         go_step3
         exact ⟨bZm _ rfl rfl rfl rfl rfl, r, acc, _, _, _, F5.out, hr, (.inr (.inl ⟨rfl, hR1⟩))⟩
        | false =>
         have hR1 : tagN s (nmT s p) f' r acc = R := by rw [← HGO.out, ← HRD.out]; exact (tag_name (by rw [HRD.out]; exact hpt) (by rw [HRD.out]; exact h47) (by rw [HRD.out]; exact h62)).symm
         rw [show aQ5 s r (⟨#[62]⟩ : ByteArray).data.toList = false from h62] at ha
         go_wp2_with fail
         refine ha.mono ?_
         rintro e w4 ⟨rfl, n, hww⟩
         have F5 := aQ1 (F4.out.step (W' := w4) (by rw [hww]; exact F4.out.ik.ir.sc) (by rw [hww]; exact aQb _ n _))
         clear ha hww F4 HGO HRD h47 h62
         go_wp2
         go_step3
         exact ⟨bZm _ rfl rfl rfl rfl rfl, r, acc, _, _, _, F5.out, hr, (.inr (.inr (.inl ⟨rfl, hvr, by omega, f', hR1, by omega⟩)))⟩
     · have hR1 : tagE s (nmT s p) r acc = R := by rw [← HGO.out, ← HRD.out]; exact (bX7 (.inl (by rw [HRD.out]; omega))).symm
       rw [decide_eq_false hpt] at hwh
       go_wp2_with fail
       refine hwh.mono ?_
       rintro e w2 ⟨rfl, hb2, hg2⟩
       have F3 := aQ1 (FF.out.step hb2 hg2)
       clear hwh hb2 hg2 FF HGO HRD
       go_wp2
       go_step3
       exact ⟨bZm _ rfl rfl rfl rfl rfl, r, acc, _, _, _, F3.out, hr, (.inr (.inl ⟨rfl, hR1⟩))⟩
   · have hRf : aQy (nmF s p) = R := by rw [← HR.out]; unfold tagZ; rw [if_pos hf]
     rcases aWl s p with h0 | h0 | h0
     · exact absurd h0 hf
     all_goals
      rw [h0] at hRf
      have HRF := aQ1 hRf
      have F4 := aQ1 (F3.out.name t)
      simp only [h0, aZ1, aZp]
      clear hT hRf hf h0 F3
      go_wp2
      refine bodyPost_ret (v := .tuple #[.agg #[.int .i64 0, .string ⟨#[]⟩, .string ⟨#[]⟩, .slice none 0 0], _]) (by simp [results, Tryz.results66, go_sem, r0, r1, r2, r3]; rfl) rfl ?_
      rw [← HRF.out]
      exact F4.out.ik.ir.fails (by omega) hq 0 ByteArray.empty ByteArray.empty (.slice none 0 0)
 · rintro l a' W ⟨⟨u, rfl⟩, q, acc, v, an, av, hIt, hq, hcase⟩
   have FF := aQ1 hIt
   have HMU := aQ1 (aJ2 hIt.ik.ir.sc)
   clear hIt F2 hnm
   rcases hcase with ⟨rfl, hvb, hacc, f, hgo, hfu⟩ | ⟨rfl, hgo⟩ | ⟨rfl, hvb, hacc, f, hgo, hfu⟩ | ⟨rfl, hvb, hacc, f, hgo, hfu⟩ | ⟨rfl, hvb, hacc, f, hgo, hfu⟩
   · refine ⟨_, rfl, ?_⟩
     obtain ⟨f', rfl⟩ : ∃ f', f = f' + 1 := ⟨f - 1, by omega⟩
     have hwh := aXi FF.out.ik.ir.sc hs hq
     have hr := aQq (s := s) hq
     have hge := aQw s q
     have hvr := aZj hv0 hvb
     obtain ⟨r, hrd⟩ : ∃ r, whiteZ s q = r := ⟨_, rfl⟩
     rw [hrd] at hwh hr hge hvr
     have HGO := aQ1 hgo
     have HRD := aQ1 hrd
     clear hgo hrd
     by_cases hpt : q < r
     · rw [decide_eq_true hpt] at hwh
       go_wp2_with fail
       refine hwh.mono ?_
       rintro e w2 ⟨rfl, hb2, hg2⟩
       have F3 := aQ1 (FF.out.step hb2 hg2)
       clear hwh hb2 hg2 FF
       have ha := aJc (sg := ⟨#[47]⟩) F3.out.ik.ir.sc hr w2 rfl
       cases h47 : aQ5 s r [47] with
       | true =>
        have hR1 : tagE s (nmT s p) r acc = R := by rw [← HGO.out, ← HRD.out]; exact (bX7 (.inr (.inl (by rw [HRD.out]; exact h47)))).symm
        rw [show aQ5 s r (⟨#[47]⟩ : ByteArray).data.toList = true from h47] at ha
        go_wp2_with fail
        refine ha.mono ?_
        rintro e w3 ⟨rfl, n, hww⟩
        have F4 := aQ1 (F3.out.step (W' := w3) (by rw [hww]; exact F3.out.ik.ir.sc) (by rw [hww]; exact aQb _ n _))
        clear ha hww F3 HGO HRD h47
        go_wp2
        go_step3
        exact ⟨⟨bZm _ rfl rfl rfl rfl rfl, r, acc, v, an, av, F4.out, hr, (.inr (.inl ⟨rfl, hR1⟩))⟩, by unfold measS; rw [aJ2 F4.out.ik.ir.sc, HMU.out, show bQ1 1 = 0 from rfl, show bQ1 0 = 4 from rfl]; omega⟩
       | false =>
        rw [show aQ5 s r (⟨#[47]⟩ : ByteArray).data.toList = false from h47] at ha
        go_wp2_with fail
        refine ha.mono ?_
        rintro e w3 ⟨rfl, n, hww⟩
        have F4 := aQ1 (F3.out.step (W' := w3) (by rw [hww]; exact F3.out.ik.ir.sc) (by rw [hww]; exact aQb _ n _))
        clear ha hww F3
        have ha := aJc (sg := ⟨#[62]⟩) F4.out.ik.ir.sc hr w3 rfl
        cases h62 : aQ5 s r [62] with
        | true =>
         have hR1 : tagE s (nmT s p) r acc = R := by rw [← HGO.out, ← HRD.out]; exact (bX7 (.inr (.inr (by rw [HRD.out]; exact h62)))).symm
         rw [show aQ5 s r (⟨#[62]⟩ : ByteArray).data.toList = true from h62] at ha
         go_wp2_with fail
         refine ha.mono ?_
         rintro e w4 ⟨rfl, n, hww⟩
         have F5 := aQ1 (F4.out.step (W' := w4) (by rw [hww]; exact F4.out.ik.ir.sc) (by rw [hww]; exact aQb _ n _))
         clear ha hww F4 HGO HRD h47 h62
         go_wp2
         go_step3
         exact ⟨⟨bZm _ rfl rfl rfl rfl rfl, r, acc, v, an, av, F5.out, hr, (.inr (.inl ⟨rfl, hR1⟩))⟩, by unfold measS; rw [aJ2 F5.out.ik.ir.sc, HMU.out, show bQ1 1 = 0 from rfl, show bQ1 0 = 4 from rfl]; omega⟩
        | false =>
         have hR1 : tagN s (nmT s p) f' r acc = R := by rw [← HGO.out, ← HRD.out]; exact (tag_name (by rw [HRD.out]; exact hpt) (by rw [HRD.out]; exact h47) (by rw [HRD.out]; exact h62)).symm
         rw [show aQ5 s r (⟨#[62]⟩ : ByteArray).data.toList = false from h62] at ha
         go_wp2_with fail
         refine ha.mono ?_
         rintro e w4 ⟨rfl, n, hww⟩
         have F5 := aQ1 (F4.out.step (W' := w4) (by rw [hww]; exact F4.out.ik.ir.sc) (by rw [hww]; exact aQb _ n _))
         clear ha hww F4 HGO HRD h47 h62
         go_wp2
         go_step3
         exact ⟨⟨bZm _ rfl rfl rfl rfl rfl, r, acc, v, an, av, F5.out, hr, (.inr (.inr (.inl ⟨rfl, hvr, by omega, f', hR1, by omega⟩)))⟩, by unfold measS; rw [aJ2 F5.out.ik.ir.sc, HMU.out, show bQ1 2 = 3 from rfl, show bQ1 0 = 4 from rfl]; omega⟩
     · have hR1 : tagE s (nmT s p) r acc = R := by rw [← HGO.out, ← HRD.out]; exact (bX7 (.inl (by rw [HRD.out]; omega))).symm
       rw [decide_eq_false hpt] at hwh
       go_wp2_with fail
       refine hwh.mono ?_
       rintro e w2 ⟨rfl, hb2, hg2⟩
       have F3 := aQ1 (FF.out.step hb2 hg2)
       clear hwh hb2 hg2 FF HGO HRD
       go_wp2
       go_step3
       exact ⟨⟨bZm _ rfl rfl rfl rfl rfl, r, acc, v, an, av, F3.out, hr, (.inr (.inl ⟨rfl, hR1⟩))⟩, by unfold measS; rw [aJ2 F3.out.ik.ir.sc, HMU.out, show bQ1 1 = 0 from rfl, show bQ1 0 = 4 from rfl]; omega⟩
   · refine ⟨_, rfl, ?_⟩
     obtain ⟨ao, cv, hv, hAt⟩ := aVn FF.out.row
     subst hv
     clear hAt
     obtain ⟨k0, k1, k2, k3, kf0, kf1, kf2, kf3⟩ := aQ6 FF.out.ik.box
     have F3 := aQ1 (FF.out.kind 1)
     have ht := aQc (sg := ⟨#[47, 62]⟩) F3.out.ik.ir.sc hs hq
     clear FF
     cases h1 : aQ5 s q [47, 62] with
     | true =>
      have hR1 : R = ⟨0, 3, nmT s p, ByteArray.empty, acc, q + 2⟩ := by rw [← hgo]; unfold tagE; rw [h1, if_pos rfl]
      have HR1 := aQ1 hR1
      have hroom := aQ9 h1 hq
      simp only [List.length_cons, List.length_nil] at hroom
      rw [show aQ5 s q (⟨#[47, 62]⟩ : ByteArray).data.toList = true from h1, if_pos rfl] at ht
      clear hgo hR1 h1
      go_wp2_with fail
      refine ht.mono ?_
      rintro e w2 ⟨rfl, hb2, hg2⟩
      have F4 : Hid (It w w2 g s (q + 2) m (w.heap.size + 1) 1 (nmT s p) (.slice ao acc.length cv) acc (w.heap.size + 2) an av) := aQ1 (F3.out.step hb2 hg2)
      clear ht hb2 hg2 F3 k0 k1 k2 k3 kf0 kf1 kf2 kf3
      obtain ⟨k0, k1, k2, k3, kf0, kf1, kf2, kf3⟩ := aQ6 F4.out.ik.box
      have F5 := aQ1 (F4.out.kind 3)
      obtain ⟨r0, r1, r2, r3, s0, s1, s2, s3⟩ := aQ6 F5.out.ik.ir.res
      go_wp2
      refine bodyPost_ret (v := .tuple #[.agg #[.int .i64 3, .string (nmT s p), .string ByteArray.empty, .slice ao acc.length cv], errV 0]) (by simp [results, Tryz.results66, go_sem, r0, r1, r2, r3, aXq]) rfl ?_
      rw [HR1.out]
      exact F5.out.tells (by omega)
     | false =>
      rw [show aQ5 s q (⟨#[47, 62]⟩ : ByteArray).data.toList = false from h1, if_neg (by simp)] at ht
      go_wp2_with fail
      refine ht.mono ?_
      rintro e w2 ⟨rfl, hb2, hg2⟩
      have F4 := aQ1 (F3.out.step hb2 hg2)
      have ht2 := aQc (sg := ⟨#[62]⟩) F4.out.ik.ir.sc hs hq
      clear ht hb2 hg2 F3 k0 k1 k2 k3 kf0 kf1 kf2 kf3
      cases h2 : aQ5 s q [62] with
      | true =>
       have hR1 : R = ⟨0, 1, nmT s p, ByteArray.empty, acc, q + 1⟩ := by rw [← hgo]; unfold tagE; rw [h1, if_neg (by simp), h2, if_pos rfl]
       have HR1 := aQ1 hR1
       have hroom := aQ9 h2 hq
       simp only [List.length_cons, List.length_nil] at hroom
       rw [show aQ5 s q (⟨#[62]⟩ : ByteArray).data.toList = true from h2, if_pos rfl] at ht2
       clear hgo hR1 h1 h2
       go_wp2_with fail
       refine ht2.mono ?_
       rintro e w3 ⟨rfl, hb3, hg3⟩
       have F5 : Hid (It w w3 g s (q + 1) m (w.heap.size + 1) 1 (nmT s p) (.slice ao acc.length cv) acc (w.heap.size + 2) an av) := aQ1 (F4.out.step hb3 hg3)
       clear ht2 hb3 hg3 F4
       obtain ⟨k0, k1, k2, k3, kf0, kf1, kf2, kf3⟩ := aQ6 F5.out.ik.box
       obtain ⟨r0, r1, r2, r3, s0, s1, s2, s3⟩ := aQ6 F5.out.ik.ir.res
       go_wp2
       refine bodyPost_ret (v := .tuple #[.agg #[.int .i64 1, .string (nmT s p), .string ByteArray.empty, .slice ao acc.length cv], errV 0]) (by simp [results, Tryz.results66, go_sem, r0, r1, r2, r3, aXq]) rfl ?_
       rw [HR1.out]
       exact F5.out.tells (by omega)
      | false =>
       have hR1 : aQy (aKy s q [⟨#[47, 62]⟩, ⟨#[62]⟩]) = R := by rw [← hgo, lack_end]; unfold tagE; rw [h1, if_neg (by simp), h2, if_neg (by simp)]
       have HRF := aQ1 hR1
       have hne0 : aKy s q [⟨#[47, 62]⟩, ⟨#[62]⟩] ≠ 0 := by rw [lack_end]; exact endL_12 s q
       rw [show aQ5 s q (⟨#[62]⟩ : ByteArray).data.toList = false from h2, if_neg (by simp)] at ht2
       clear hgo hR1 h1 h2
       go_wp2_with fail
       refine ht2.mono ?_
       rintro e w3 ⟨rfl, hb3, hg3⟩
       have F5 := aQ1 (F4.out.step hb3 hg3)
       have F6 := aQ1 (F5.out.step (aZu F5.out.ik.ir.sc (.cells #[.string ⟨#[47, 62]⟩, .string ⟨#[62]⟩] 9)) (aZg _ _ _))
       have hlk := aY3 F6.out.ik.ir.sc hq [⟨#[47, 62]⟩, ⟨#[62]⟩] _ 2 2 rfl (by simp) (strs_new2 w3 ⟨#[47, 62]⟩ ⟨#[62]⟩)
       clear ht2 hb3 hg3 F4 F5
       go_wp2_with fail
       refine hlk.mono ?_
       rintro e w4 ⟨rfl, n, hww⟩
       have F7 := aQ1 (F6.out.step (W' := w4) (by rw [hww]; exact F6.out.ik.ir.sc) (by rw [hww]; exact aQb _ n _))
       clear hlk hww F6
       obtain ⟨r0, r1, r2, r3, s0, s1, s2, s3⟩ := aQ6 F7.out.ik.ir.res
       go_wp2
       refine bodyPost_ret (v := .tuple #[.agg #[.int .i64 0, .string ⟨#[]⟩, .string ⟨#[]⟩, .slice none 0 0], errV (aKy s q [⟨#[47, 62]⟩, ⟨#[62]⟩])]) (by simp [results, Tryz.results66, go_sem, r0, r1, r2, r3]) rfl ?_
       rw [← HRF.out]
       exact F7.out.ik.ir.fails hne0 hq 0 ByteArray.empty ByteArray.empty (.slice none 0 0)
   · refine ⟨_, rfl, ?_⟩
     have hnm := aV9 FF.out.ik.ir.sc FF.out.ik.ir.env.tabs hvb hs hq
     go_wp2_with fail
     refine hnm.mono ?_
     rintro e w2 ⟨t, q2, rfl, hb2, hq2, hT, hg2⟩
     have F3 := aQ1 (FF.out.step hb2 hg2)
     clear hnm hb2 hg2 FF
     obtain ⟨a0, a1, af0, af1⟩ := atcells F3.out.atb
     have F4 := aQ1 (F3.out.anset t)
     obtain ⟨r0, r1, r2, r3, s0, s1, s2, s3⟩ := aQ6 F4.out.ik.ir.res
     by_cases hf : nmF s q = 0
     · obtain ⟨ht, hq'⟩ := hT hf
       have hn := aJg hf
       have hR1 : tagS s (nmT s p) f q2 t acc = R := by rw [← hgo, ht, hq']; unfold tagN; rw [if_neg (by omega)]
       have hvb2 : VB s q2 := by rw [hq']; exact nm_VB hvb
       have hlt2 : q < q2 := by omega
       simp only [hf, aXq]
       clear hT hf ht hq' hn F3 hgo
       go_wp2
       go_step3
       exact ⟨⟨bZm _ rfl rfl rfl rfl rfl, q2, acc, v, t, av, F4.out, hq2, (.inr (.inr (.inr (.inl ⟨rfl, hvb2, by omega, f, hR1, by omega⟩))))⟩, by unfold measS; rw [aJ2 F4.out.ik.ir.sc, HMU.out, show bQ1 3 = 2 from rfl, show bQ1 2 = 3 from rfl]; omega⟩
     · have hRf : aQy (nmF s q) = R := by rw [← hgo]; unfold tagN; rw [if_pos hf]
       rcases aWl s q with h0 | h0 | h0
       · exact absurd h0 hf
       all_goals
        rw [h0] at hRf
        have HRF := aQ1 hRf
        simp only [h0, aZ1, aZp]
        clear hT hRf hf h0 F3
        go_wp2
        refine bodyPost_ret (v := .tuple #[.agg #[.int .i64 0, .string ⟨#[]⟩, .string ⟨#[]⟩, .slice none 0 0], _]) (by simp [results, Tryz.results66, go_sem, r0, r1, r2, r3]; rfl) rfl ?_
        rw [← HRF.out]
        exact F4.out.ik.ir.fails (by omega) hq2 0 ByteArray.empty ByteArray.empty (.slice none 0 0)
   · refine ⟨_, rfl, ?_⟩
     have hwh := aXi FF.out.ik.ir.sc hs hq
     have hr := aQq (s := s) hq
     have hge := aQw s q
     unfold tagS at hgo
     obtain ⟨r, hrd⟩ : ∃ r, whiteZ s q = r := ⟨_, rfl⟩
     rw [hrd] at hwh hr hge hgo
     clear hrd
     go_wp2_with fail
     refine hwh.mono ?_
     rintro e w2 ⟨rfl, hb2, hg2⟩
     have F3 := aQ1 (FF.out.step hb2 hg2)
     have hm := aZ8 (sg := ⟨#[61]⟩) F3.out.ik.ir.sc hs hr
     clear hwh hb2 hg2 FF
     by_cases hf : aQm s r [61] = 0
     · rw [if_neg (by omega)] at hgo
       rw [show aQm s r (⟨#[61]⟩ : ByteArray).data.toList = 0 from hf, aXq, if_pos rfl] at hm
       have hh := aX8.1 hf
       have hroom := aQ9 hh hr
       simp only [List.length_cons, List.length_nil] at hroom
       go_wp2_with fail
       refine hm.mono ?_
       rintro e w3 ⟨rfl, hb3, hg3⟩
       have F4 : Hid (It w w3 g s (r + 1) m (w.heap.size + 1) 0 (nmT s p) v acc (w.heap.size + 2) an av) := aQ1 (F3.out.step hb3 hg3)
       have hwh := aXi F4.out.ik.ir.sc hs (by omega)
       have hr4 := aQq (s := s) (p := r + 1) (by omega)
       have hge4 := aQw s (r + 1)
       have hvb4 : VB s (r + 1) := by have := aXh hv0 hh hr (by simp) (by decide); simpa using this
       have hvb5 := aZj hv0 hvb4
       obtain ⟨x, hxd⟩ : ∃ x, whiteZ s (r + 1) = x := ⟨_, rfl⟩
       rw [hxd] at hwh hr4 hge4 hgo hvb5
       clear hm hb3 hg3 F3 hxd hf hh hvb4
       go_wp2_with fail
       refine hwh.mono ?_
       rintro e w4 ⟨rfl, hb4, hg4⟩
       have F5 := aQ1 (F4.out.step hb4 hg4)
       clear hwh hb4 hg4 F4
       go_wp2
       go_step3
       exact ⟨⟨bZm _ rfl rfl rfl rfl rfl, x, acc, v, an, av, F5.out, hr4, (.inr (.inr (.inr (.inr ⟨rfl, hvb5, by omega, f, hgo, by omega⟩))))⟩, by unfold measS; rw [aJ2 F5.out.ik.ir.sc, HMU.out, show bQ1 4 = 1 from rfl, show bQ1 3 = 2 from rfl]; omega⟩
     · have hRf : aQy (aQm s r [61]) = R := by rw [← hgo, if_pos hf]
       rcases mustF_012 s r [61] with h0 | h0 | h0
       · exact absurd h0 hf
       all_goals
        rw [h0] at hRf
        have HRF := aQ1 hRf
        rw [show aQm s r (⟨#[61]⟩ : ByteArray).data.toList = _ from h0] at hm
        simp only [aZ1, aZp] at hm
        rw [if_neg (by omega)] at hm
        go_wp2_with fail
        refine hm.mono ?_
        rintro e w3 ⟨rfl, hb3, hg3⟩
        have F4 := aQ1 (F3.out.step hb3 hg3)
        clear hm hb3 hg3 F3 hRf hf h0 hgo
        obtain ⟨r0, r1, r2, r3, s0, s1, s2, s3⟩ := aQ6 F4.out.ik.ir.res
        go_wp2
        refine bodyPost_ret (v := .tuple #[.agg #[.int .i64 0, .string ⟨#[]⟩, .string ⟨#[]⟩, .slice none 0 0], _]) (by simp [results, Tryz.results66, go_sem, r0, r1, r2, r3]; rfl) rfl ?_
        rw [← HRF.out]
        exact F4.out.ik.ir.fails (by omega) hr 0 ByteArray.empty ByteArray.empty (.slice none 0 0)
   · refine ⟨_, rfl, ?_⟩
     have hvl := bQ7 FF.out.ik.ir.sc hs hq
     unfold tagV at hgo
     go_wp2_with fail
     refine hvl.mono ?_
     rintro e w2 ⟨t, q2, rfl, hb2, hq2, hT, hg2⟩
     have F3 := aQ1 (FF.out.step hb2 hg2)
     clear hvl hb2 hg2 FF
     obtain ⟨a0, a1, af0, af1⟩ := atcells F3.out.atb
     have F4 := aQ1 (F3.out.avset t)
     by_cases hf : valF s q = 0
     · obtain ⟨ht, hq'⟩ := hT hf
       have hvs := aYc hf
       have hlt2 : q + 1 < q2 := by rw [hq']; unfold valP; omega
       have hvb2 : VB s q2 := by rw [hq']; exact val_VB hv0 hf
       rw [if_neg (by omega), ← ht, ← hq'] at hgo
       simp only [hf, aXq]
       clear hT hf ht hq' hvs
       obtain ⟨ao, cv, hv, hAt⟩ := aVn F4.out.row
       subst hv
       obtain ⟨k0, k1, k2, k3, kf0, kf1, kf2, kf3⟩ := aQ6 F3.out.ik.box
       clear F3
       have hha := fun c => bJe _ ao c acc an hAt (by omega)
       cases hhz : hasZ acc an with
       | true =>
        rw [hhz] at hha
        rw [hhz, if_pos rfl] at hgo
        have HRF := aQ1 hgo
        clear hgo hAt
        go_wp2_with fail
        refine (hha _).mono ?_
        rintro e w3 ⟨rfl, hg3⟩
        have F5 := aQ1 (F4.out.step (aJd F4.out.ik.ir.sc hg3) (bJf hg3))
        clear hha hg3 F4 k0 k1 k2 k3 kf0 kf1 kf2 kf3 a0 a1 af0 af1
        obtain ⟨r0, r1, r2, r3, s0, s1, s2, s3⟩ := aQ6 F5.out.ik.ir.res
        go_wp2
        refine bodyPost_ret (v := .tuple #[.agg #[.int .i64 0, .string ⟨#[]⟩, .string ⟨#[]⟩, .slice none 0 0], errV 3]) (by simp [results, Tryz.results66, go_sem, r0, r1, r2, r3, bW8]) rfl ?_
        rw [← HRF.out]
        exact F5.out.ik.ir.fails (by omega) hq2 0 ByteArray.empty ByteArray.empty (.slice none 0 0)
       | false =>
        rw [hhz] at hha
        rw [hhz, if_neg (by simp)] at hgo
        have HGO := aQ1 hgo
        clear hgo hAt
        go_wp2_with fail
        refine (hha _).mono ?_
        rintro e w3 ⟨rfl, hg3⟩
        have F5 := aQ1 (F4.out.step (aJd F4.out.ik.ir.sc hg3) (bJf hg3))
        clear hha hg3 F4 k0 k1 k2 k3 kf0 kf1 kf2 kf3 a0 a1 af0 af1
        obtain ⟨k0, k1, k2, k3, kf0, kf1, kf2, kf3⟩ := aQ6 F5.out.ik.box
        obtain ⟨a0, a1, af0, af1⟩ := atcells F5.out.atb
        have HROW := aQ1 F5.out.row
        have hKs := at_lt F5.out.atb
        have hal : acc.length ≤ 1048576 := by omega
        go_wp2_with (at_builtin; refine wpList_append_own_wide _ rfl _ _ 35 rfl (w.heap.size + 2 + 1) 148 i0 (.agg #[.string ByteArray.empty, .string ByteArray.empty]) 2 32 Tryz.underlying35 hi0 hz0 hz1 hz2 rfl (by decide) _ _ _ rfl (HROW.out.alloc _) ⟨w3.heap.size, 0, none⟩ 1 1 [.string an, .string t] rfl rfl (aK2 _ _ _ _) (fun u hu => by simp at hu; rcases hu with rfl | rfl <;> rfl) (by unfold maxLen; omega) (by omega) (by simp; omega) ?_; intro v' w9 hown' hgrow' hnil'; obtain ⟨ao', cv', hv'⟩ := owns_sliceT hown'; subst hv'; have FT := aQ1 (F5.out.appended _ hown' hgrow'); obtain ⟨x0, x1, x2, x3, xf0, xf1, xf2, xf3⟩ := aQ6 (F5.out.kbox _ hgrow'); clear hown' hgrow' hnil')
        go_step3
        exact ⟨⟨bZm _ rfl rfl rfl rfl rfl, q2, _, _, _, _, FT.out, hq2, (.inl ⟨rfl, hvb2, by simp; omega, f, HGO.out, by omega⟩)⟩, by unfold measS; rw [aJ2 FT.out.ik.ir.sc, HMU.out, show bQ1 0 = 4 from rfl, show bQ1 4 = 1 from rfl]; omega⟩
     · have hRf : aQy (valF s q) = R := by rw [← hgo, if_pos hf]
       rcases val_012 s q with h0 | h0 | h0
       · exact absurd h0 hf
       all_goals
        rw [h0] at hRf
        have HRF := aQ1 hRf
        obtain ⟨r0, r1, r2, r3, s0, s1, s2, s3⟩ := aQ6 F4.out.ik.ir.res
        simp only [h0, aZ1, aZp]
        clear hT hRf hf h0 F3 hgo
        go_wp2
        refine bodyPost_ret (v := .tuple #[.agg #[.int .i64 0, .string ⟨#[]⟩, .string ⟨#[]⟩, .slice none 0 0], _]) (by simp [results, Tryz.results66, go_sem, r0, r1, r2, r3]; rfl) rfl ?_
        rw [← HRF.out]
        exact F4.out.ik.ir.fails (by omega) hq2 0 ByteArray.empty ByteArray.empty (.slice none 0 0)
end Go.Proofs.YtdblemolaojebaaGreatDoor
