/- The program's scanner: what the reading of a start holds in memory; whether attributes have a name; jumps between labels. -/
import Derived.Test.YtefahocflhlgiaaGreatDoorIm11
import Derived.Test.YtefahocflhlgiaaGreatDoorPlain15
import Derived.Scope
import Derived.WalkMore
namespace Go.Proofs.YtefahocflhlgiaaGreatDoor
open Go.RowKit Plain1 Plain2 Strs Strs2 Lists Plain3 Plain5 Plain6 Plain9 Plain10 Plain11 Plain12 Plain13 Plain14 Plain15

/-- As Q; by a goto to a label what L says of it. -/
def jumpsTo (L : Nat → Act → World → Prop) (Q : Exit → Act → World → Prop) : Exit → Act → World → Prop
  | .goto l, a, w => L l a w
  | e, a, w => Q e a w
/-- A scope whose run jumps between labels: what holds at each, and a measure that every pass lowers. -/
theorem scope_labels {P : Program} {a : Act} {w : World} {Q : Exit → Act → World → Prop} {c : Code} (L : Nat → Act → World → Prop) (μ : Nat → Act → World → Nat) (first : c.wp P (jumpsTo L Q) a w)
    (pass : ∀ l a w, L l a w → ∃ r, findLabel c l = some r ∧ r.wp P (jumpsTo (fun l' a' w' => L l' a' w' ∧ μ l' a' w' < μ l a w) Q) a w) : (Code.scope c).wp P Q a w := by
  intro b k cs
  have key : ∀ n l a w, μ l a w = n → L l a w → ∀ r, findLabel c l = some r → ∃ e a' w', Q e a' w' ∧ Arrives P (lone (b.at a (.code r :: .inScope c :: k)) cs w) b k cs e a' w' := by
    intro n
    induction n using Nat.strongRecOn with
    | _ n ih =>
      intro l a w hn hL r hr
      obtain ⟨r', hr', hwp⟩ := pass l a w hL
      obtain rfl : r' = r := Option.some.inj (hr'.symm.trans hr)
      obtain ⟨e, a₁, w₁, hq, harr⟩ := hwp b (.inScope c :: k) cs
      cases e with
      | normal => exact ⟨.normal, a₁, w₁, hq, Steps.trans harr (.one step_inScope)⟩
      | exit id => exact ⟨.exit id, a₁, w₁, hq, fun k' hk => harr k' (by simp [exitTo, hk])⟩
      | goto l' =>
        obtain ⟨hL', hlt⟩ := hq
        obtain ⟨r2, hr2, _⟩ := pass l' a₁ w₁ hL'
        obtain ⟨e₂, a₂, w₂, hq₂, harr₂⟩ := ih _ (by omega) l' a₁ w₁ rfl hL' r2 hr2
        exact ⟨e₂, a₂, w₂, hq₂, .of_steps (harr _ (by simp [gotoIn, hr2])) harr₂⟩
      | ret => exact ⟨_, a₁, w₁, hq, harr⟩
      | panic ch => exact ⟨_, a₁, w₁, hq, harr⟩
      | outgrown => exact ⟨_, a₁, w₁, hq, harr⟩
  obtain ⟨e, a₁, w₁, hq, harr⟩ := first b (.inScope c :: k) cs
  cases e with
  | normal => exact ⟨.normal, a₁, w₁, hq, .head step_scope (Steps.trans harr (.one step_inScope))⟩
  | exit id => exact ⟨.exit id, a₁, w₁, hq, fun k' hk => .head step_scope (harr k' (by simp [exitTo, hk]))⟩
  | goto l' =>
    obtain ⟨r2, hr2, _⟩ := pass l' a₁ w₁ hq
    obtain ⟨e₂, a₂, w₂, hq₂, harr₂⟩ := key _ l' a₁ w₁ rfl hq r2 hr2
    exact ⟨e₂, a₂, w₂, hq₂, .of_steps (.head step_scope (harr _ (by simp [gotoIn, hr2]))) harr₂⟩
  | ret => exact ⟨_, a₁, w₁, hq, .of_steps (.one step_scope) harr⟩
  | panic ch => exact ⟨_, a₁, w₁, hq, .of_steps (.one step_scope) harr⟩
  | outgrown => exact ⟨_, a₁, w₁, hq, .of_steps (.one step_scope) harr⟩

set_option maxHeartbeats 2000000 in
theorem hasAttr_any (w : World) (a : Option Addr) (c : Nat) (l : List (ByteArray × ByteArray)) (n : ByteArray) (h : AttrsAt w a l) (hl : l.length ≤ 1048576) :
    Calls Tryz.prog 81 #[.slice a l.length c, .string n] w fun e w' => e = .returned (.bool (hasZ l n)) ∧ w.grownBy w' none := by
  have HA := mkHidI1 h
  clear h
  obtain ⟨R, hR⟩ : ∃ R, hasZ l n = R := ⟨_, rfl⟩
  rw [hR]
  have HR := mkHidI1 hR
  clear hR
  go_enter Tryz.func81, Tryz.ntmps81
  go_wp2
  go_loopw [9] (fun i wr => ∃ k : Nat, k ≤ l.length ∧ i = .int .i64 k ∧ hasTo l n k = false ∧ w.grownBy wr none) (fun i _ => l.length - (intOf i).toNat)
  case atStart => exact ⟨0, Nat.zero_le _, rfl, rfl, ⟨rfl, rfl, rfl, Nat.le_refl _, fun _ _ _ => rfl⟩⟩
  case round =>
    obtain ⟨k, hk, rfl, hno, hgr⟩ := hrel
    have HNO := mkHidI1 hno
    have HG := mkHidI1 hgr
    clear hno hgr
    by_cases hlt : k < l.length
    · have hlti : (k : Int) < (l.length : Int) := by omega
      rcases HA.out with h0 | ⟨gg, ha, hcells⟩
      · subst h0; simp at hlt
      · subst ha
        obtain ⟨h1, h2⟩ := hcells k hlt
        have e1 := Ents.cell_keep (fun k hk => HG.out.block k hk (by simp)) h1
        have e2 := Ents.cell_keep (fun k hk => HG.out.block k hk (by simp)) h2
        obtain ⟨m, hm⟩ : ∃ m, (l[k]'hlt) = m := ⟨_, rfl⟩
        rw [hm] at e1 e2
        have HM := mkHidI1 hm
        have HG2 := mkHidI1 (im_gtrans HG.out (gallocI wr (.cells #[.string m.1, .string m.2] 109) none))
        clear hcells hm h1 h2
        cases hst : (m.1.toList == n.toList) with
        | true =>
          have hRt : R = true := by rw [← HR.out]; apply hasTo_mono (k := k + 1); rw [hasTo_succ hlt, HM.out, hst, Bool.or_true]
          subst hRt
          go_wp2
          go_ret
          exact ⟨rfl, HG2.out⟩
        | false =>
          have hno2 : hasTo l n (k + 1) = false := by rw [hasTo_succ hlt, HM.out, hst, HNO.out]; rfl
          have HN2 := mkHidI1 hno2
          clear hno2
          go_wp2
          go_roundw
          case rel => exact ⟨k + 1, by omega, by go_num, HN2.out, HG2.out⟩
          case measure => simp [intOf]; omega
    · have hlti : ¬ (k : Int) < (l.length : Int) := by omega
      have hRf : R = false := by
        rw [← HR.out]
        have hkl : k = l.length := by omega
        have h0 := HNO.out
        rw [hkl] at h0
        unfold hasTo at h0
        rw [List.take_length] at h0
        exact h0
      subst hRf
      go_wp2
      go_ret
      exact ⟨rfl, HG.out⟩

theorem Env.keepTo {w W W3 : World} {m : Int} (h : Env W m) (e0 : Env w m) (hk : ∀ q, q < w.heap.size → W3.heap[q]? = W.heap[q]?) : Env W3 m := by
  obtain ⟨⟨_, _, h1⟩, ⟨_, _, h2⟩⟩ := e0.tabs
  obtain ⟨⟨t, fr, g1⟩, ⟨t', fr', g2⟩⟩ := h.tabs
  refine ⟨⟨⟨t, fr, ?_⟩, ⟨t', fr', ?_⟩⟩, ?_, fun i z hz => ?_⟩
  · rw [hk _ (Array.getElem?_eq_some_iff.1 h1).1]; exact g1
  · rw [hk _ (Array.getElem?_eq_some_iff.1 h2).1]; exact g2
  · exact cell_keepF (hk _ (block_lt e0.mx)) h.mx
  · exact cell_keepF (hk _ (block_lt (e0.fo i z hz))) (h.fo i z hz)
/-- The scanner, the result's place, the mark, the attribute in the making, the attributes. -/
structure It (w W : World) (g : Nat) (s : ByteArray) (p : Nat) (m : Int) (k : Nat) (kd : Int) (nm : ByteArray) (v : Value) (acc : List (ByteArray × ByteArray)) (b : Nat) (an av : ByteArray) : Prop where
  ik : Ik w W g s p m k kd nm ByteArray.empty v
  row : W.ownsRow (b + 1) 109 2 v acc.length (acells acc)
  atb : AtBox W b an av
  order : k < b
  fk : Far k
  fb : Far b
  e0 : Env w m
variable {w W W' : World} {g : Nat} {s : ByteArray} {p p' : Nat} {m : Int} {k : Nat} {kd : Int} {nm : ByteArray} {v : Value} {acc : List (ByteArray × ByteArray)} {b : Nat} {an av : ByteArray}
theorem at_lt (h : AtBox W b an av) : b < W.heap.size := (Array.getElem?_eq_some_iff.1 h).1
theorem It.step (h : It w W g s p m k kd nm v acc b an av) (hb : ImBox W' g s p') (hg : W.grownBy W' (some g)) : It w W' g s p' m k kd nm v acc b an av := by
  have h1 := h.ik.ir.lt
  have h2 := h.ik.ahead
  have h3 := h.order
  refine ⟨h.ik.step hb hg, h.row.kept hg (.inr fun e => by have := h.row.lt g e; omega), ?_, h.order, h.fk, h.fb, h.e0⟩
  unfold AtBox
  rw [hg.block b (at_lt h.atb) (fun e => by have := Option.some.inj e; omega)]; exact h.atb
theorem It.anset (h : It w W g s p m k kd nm v acc b an av) (t : ByteArray) : It w (W.setCell ⟨b, 0, none⟩ (.string t)) g s p m k kd nm v acc b t av := by
  have h1 := h.ik.ir.lt
  have h2 := h.ik.ahead
  have h3 := h.order
  refine ⟨⟨⟨im_other h.ik.ir.sc (by omega) _, ?_, h.ik.ir.env.set h.fb, gsetNew h.ik.ir.grown (by omega) _, h1, h.ik.ir.far⟩, ?_, h2⟩, ?_, ?_, h3, h.fk, h.fb, h.e0⟩
  · unfold TkBox; rw [set_other _ (by omega)]; exact h.ik.ir.res
  · unfold TkBox; rw [set_other _ (by omega)]; exact h.ik.box
  · exact h.row.kept (gset5 (g := b) (j := 0) (.string t)) (.inr fun e => by have := h.row.lt b e; omega)
  · unfold AtBox; rw [set5 h.atb 0 (.string t)]; rfl
theorem It.avset (h : It w W g s p m k kd nm v acc b an av) (t : ByteArray) : It w (W.setCell ⟨b, 1, none⟩ (.string t)) g s p m k kd nm v acc b an t := by
  have h1 := h.ik.ir.lt
  have h2 := h.ik.ahead
  have h3 := h.order
  refine ⟨⟨⟨im_other h.ik.ir.sc (by omega) _, ?_, h.ik.ir.env.set h.fb, gsetNew h.ik.ir.grown (by omega) _, h1, h.ik.ir.far⟩, ?_, h2⟩, ?_, ?_, h3, h.fk, h.fb, h.e0⟩
  · unfold TkBox; rw [set_other _ (by omega)]; exact h.ik.ir.res
  · unfold TkBox; rw [set_other _ (by omega)]; exact h.ik.box
  · exact h.row.kept (gset5 (g := b) (j := 1) (.string t)) (.inr fun e => by have := h.row.lt b e; omega)
  · unfold AtBox; rw [set5 h.atb 1 (.string t)]; rfl
theorem It.kset (h : It w W g s p m k kd nm v acc b an av) (j : Nat) (u : Value) {kd' : Int} {nm' : ByteArray} (hu : (#[.int .i64 kd, .string nm, .string ByteArray.empty, v] : Array Value).setIfInBounds j u = #[.int .i64 kd', .string nm', .string ByteArray.empty, v]) : It w (W.setCell ⟨k, j, none⟩ u) g s p m k kd' nm' v acc b an av := by
  have h1 := h.ik.ir.lt
  have h2 := h.ik.ahead
  have h3 := h.order
  refine ⟨⟨⟨im_other h.ik.ir.sc (by omega) _, ?_, h.ik.ir.env.set h.fk, gsetNew h.ik.ir.grown (by omega) _, h1, h.ik.ir.far⟩, ?_, h2⟩, ?_, ?_, h3, h.fk, h.fb, h.e0⟩
  · unfold TkBox; rw [set_other _ (by omega)]; exact h.ik.ir.res
  · unfold TkBox; rw [set5 h.ik.box j u, hu]
  · exact h.row.kept (gset5 (g := k) (j := j) u) (.inr fun e => by have := h.row.lt k e; omega)
  · unfold AtBox; rw [set_other _ (by omega)]; exact h.atb
theorem It.kind (h : It w W g s p m k kd nm v acc b an av) (z : Int) : It w (W.setCell ⟨k, 0, none⟩ (.int .i64 z)) g s p m k z nm v acc b an av := h.kset 0 _ rfl
theorem It.name (h : It w W g s p m k kd nm v acc b an av) (t : ByteArray) : It w (W.setCell ⟨k, 1, none⟩ (.string t)) g s p m k kd t v acc b an av := h.kset 1 _ rfl
/-- Behind an append: the new row, the mark's field written. -/
theorem It.appended {W3 : World} {v' : Value} (h : It w W g s p m k kd nm v acc b an av) (o : Obj) (hr : W3.ownsRow (b + 1) 109 2 v' (acc.length + 1) (acells acc ++ [.string an, .string av])) (hg : (W.alloc o).grownBy W3 v.ownBlock) :
    It w (W3.setCell ⟨k, 3, none⟩ v') g s p m k kd nm v' (acc ++ [(an, av)]) b an av := by
  have h1 := h.ik.ir.lt
  have h2 := h.ik.ahead
  have h3 := h.order
  have hne : ∀ q, q ≤ b → some q ≠ v.ownBlock := fun q hq e => by have := h.row.lt q e.symm; omega
  have hz : (W.alloc o).heap.size = W.heap.size + 1 := by simp
  have hbl := at_lt h.atb
  have hkeep : ∀ q, q ≤ b → W3.heap[q]? = W.heap[q]? := fun q hq => by
    rw [hg.block q (by omega) (hne q hq)]; exact heap_alloc_old W o (by omega)
  have hsc : ImBox W3 g s p := by unfold ImBox; rw [hkeep g (by omega)]; exact h.ik.ir.sc
  have hres : TkBox W3 w.heap.size 0 ByteArray.empty ByteArray.empty (.slice none 0 0) := by unfold TkBox; rw [hkeep _ (by omega)]; exact h.ik.ir.res
  have hbox : TkBox W3 k kd nm ByteArray.empty v := by unfold TkBox; rw [hkeep _ (by omega)]; exact h.ik.box
  have hatb : AtBox W3 b an av := by unfold AtBox; rw [hkeep _ (Nat.le_refl _)]; exact h.atb
  have hgr : w.grownBy W3 (some g) := ⟨hg.os.trans h.ik.ir.grown.os, hg.tape.trans h.ik.ir.grown.tape, hg.output.trans h.ik.ir.grown.output, by have a1 := h.ik.ir.grown.size; have a2 := hg.size; omega,
    fun i hi hne' => (hkeep i (by omega)).trans (h.ik.ir.grown.block i hi hne')⟩
  have henv : Env W3 m := h.ik.ir.env.keepTo h.e0 fun q hq => hkeep q (by omega)
  have e1 : (acc ++ [(an, av)]).length = acc.length + 1 := by simp
  refine ⟨⟨⟨im_other hsc (by omega) _, ?_, henv.set h.fk, gsetNew hgr (by omega) _, h1, h.ik.ir.far⟩, ?_, h2⟩, ?_, ?_, h3, h.fk, h.fb, h.e0⟩
  · unfold TkBox; rw [set_other _ (by omega)]; exact hres
  · unfold TkBox; rw [set5 hbox 3 v']; rfl
  · rw [e1, acells_snoc]
    exact hr.kept (gset5 (g := k) (j := 3) v') (.inr fun e => by have := hr.lt k e; omega)
  · unfold AtBox; rw [set_other _ (by omega)]; exact hatb
theorem It.kbox {W3 : World} (h : It w W g s p m k kd nm v acc b an av) (o : Obj) (hg : (W.alloc o).grownBy W3 v.ownBlock) : TkBox W3 k kd nm ByteArray.empty v := by
  have h3 := h.order
  have hbl := at_lt h.atb
  have hne : some k ≠ v.ownBlock := fun e => by have := h.row.lt k e.symm; omega
  unfold TkBox
  rw [hg.block k (by simp; omega) hne, heap_alloc_old W o (by omega)]; exact h.ik.box
/-- The end of a start that is told. -/
theorem It.tells (h : It w W g s p m k kd nm v acc b an av) (hp : p ≤ s.size) :
    TtSays w g s ⟨0, kd, nm, ByteArray.empty, acc, p⟩ (.returned (.tuple #[.agg #[.int .i64 kd, .string nm, .string ByteArray.empty, v], errV 0])) ((((W.setCell ⟨w.heap.size, 0, none⟩ (.int .i64 kd)).setCell ⟨w.heap.size, 1, none⟩ (.string nm)).setCell ⟨w.heap.size, 2, none⟩ (.string ByteArray.empty)).setCell ⟨w.heap.size, 3, none⟩ v) := by
  have hF := im_fin4 h.ik.ir.sc h.ik.ir.grown h.ik.ir.lt (.int .i64 kd) (.string nm) (.string ByteArray.empty) v
  have ha := h.ik.ahead
  have hb := h.order
  have hs : ∀ {W0 : World} (j : Nat) (u : Value), W0.ownsRow (b + 1) 109 2 v acc.length (acells acc) → (W0.setCell ⟨w.heap.size, j, none⟩ u).ownsRow (b + 1) 109 2 v acc.length (acells acc) :=
    fun j u h0 => h0.kept (gset5 (g := w.heap.size) (j := j) u) (.inr fun e => by have := h0.lt _ e; omega)
  have hr := hs 3 v (hs 2 (.string ByteArray.empty) (hs 1 (.string nm) (hs 0 (.int .i64 kd) h.row)))
  obtain ⟨ao, an', ac, rfl⟩ : ∃ ao an' ac, v = .slice ao an' ac := by
    rcases owns_forms h.row with ⟨rfl, _⟩ | ⟨_, _, rfl⟩
    · exact ⟨_, _, _, rfl⟩
    · exact ⟨_, _, _, rfl⟩
  refine ⟨kd, nm, ByteArray.empty, _, _, _, p, rfl, hF.1, hp, fun _ => ⟨rfl, rfl, rfl, rfl, ?_⟩, hF.2⟩
  rcases hr with ⟨h1, h2⟩
  refine ⟨h1, ?_⟩
  rcases h2 with h2 | ⟨b', cap, cur, h3, h4, h5⟩
  · exact .inl h2
  · exact .inr ⟨b', cap, cur, h3, by omega, h5⟩
end Go.Proofs.YtefahocflhlgiaaGreatDoor
