import Derived.Test.YtocnfoeaikiecaaGreatDoorTkB
import Derived.Test.YtocnfoeaikiecaaGreatDoorMdE
set_option maxHeartbeats 4000000
set_option maxRecDepth 100000
namespace Go.Proofs.YtocnfoeaikiecaaGreatDoor
open Go.RowKit Strs Strs2 Plain9 Plain10 Plain23 Tryz
variable {w w' : World} {g : Nat} {s : ByteArray} {σ : Option Nat}
theorem cJv (w : World) (g : Nat) (s what : ByteArray) (p : Nat) (sg : List UInt8) (hsg : what.data.toList = sg) (h : aQj w g s ⟨p, 0⟩) (hs : s.size ≤ 1048576) (hp : p ≤ s.size) (hw : what.size ≤ 1048576) (hw0 : sg ≠ []) (hf : upF s p sg ≠ 0) :
 Calls prog 90 #[.pointer (some ⟨g, 0, none⟩), .string what] w fun e w' => e = .returned (.string ⟨#[]⟩) ∧ aQj w' g s ⟨s.size, 1⟩ ∧ w.grownBy w' (some g) := by
 subst hsg
 have hc := aVc w g s _ h
 simp only [decide_true] at hc
 have hfind := fun wx => aK4 s p what wx hs hw hp
 simp only [aW3 hw0] at hfind
 obtain ⟨c0, c1, c2, c3, c4, f1, f2, f3, f4⟩ := aXi h
 have HB := aQ0 h
 clear h hw0
 have hz : fz s p what.data.toList = -1 := by
  apply Decidable.byContradiction
  intro hh
  exact hf (by unfold upF; rw [if_neg hh])
 rw [hz] at hfind
 clear hz hf
 go_enter func90, ntmps90
 go_wp2_with (go_at_call 83; refine hc.mono ?_; rintro e w' ⟨rfl, hww⟩; obtain rfl := hww.symm)
 go_quiet ((go_at_call 33; exact Calls.quiet_of_same (hfind _)))
 go_wp2
 go_ret
 exact ⟨rfl, bV6 (cXw (W := w.drewN _) HB.out s.size), aQ6 (aQs w _ _) (aQ6 (aX9 _) (aX9 _))⟩
def StrQ (w : World) (g : Nat) (s : ByteArray) (R : Option (ByteArray × Nat)) (e : Ending) (w' : World) : Prop :=
 ∃ t, e = .returned (.string t) ∧ aZc w' g s (R.map (·.2)) ∧ (∀ v, R = some v → t = v.1) ∧ (R = none → t = ⟨#[]⟩) ∧ w.grownBy w' (some g)
theorem cWd (h : aZc w g s σ) (hs : s.size ≤ 1048576) : Calls prog 119 #[.pointer (some ⟨g, 0, none⟩)] w fun e w' => StrQ w g s (σ.bind (qtO s)) e w' := by
 have hc := cV5 h
 cases σ with
 | none =>
  have HB := aQ0 h
  clear h
  simp only [Option.isSome_none] at hc
  go_enter func119, ntmps119
  go_wp2_with (go_at_call 83; refine hc.mono ?_; rintro e w' ⟨rfl, rfl⟩)
  go_ret
  exact ⟨_, rfl, HB.out, fun v hv => (by cases hv), fun _ => rfl, aQs _ 0 _⟩
 | some p =>
  simp only [Option.isSome_some] at hc
  obtain ⟨hp, hb⟩ := h
  have hc2 := aVt w g s _ hb (by show p ≤ _; omega)
  simp only at hc2
  clear hb
  by_cases hlt : p < s.size
  · rw [decide_eq_false (by omega), aV9 hlt] at hc2
    have hsl : ∀ wx, (Instr.slice 9 (.string s) (some (.int .i64 (p : Int))) (some (.int .i64 ((p : Int) + 1))) none).run prog wx = .ok (.string (s.extract p (p + 1))) wx := fun wx => aKx wx _ s p (p + 1) _ _ rfl (by omega) (by omega) (by omega) underlying9
    obtain ⟨q, hq⟩ := nmE (s.extract p (p + 1))
    have hql : q.data.toList = [u8 s p] := by rw [← hq]; exact dK4 s p hlt
    rw [hq] at hsl
    have e39 := bVs hql 39
    have e34 := bVs hql 34
    have hqs : q.size ≤ 1048576 := by rw [Lib.size_eq, hql]; simp
    have HQL := aQ0 hql
    clear hq hql
    cases hqb : aY2 (aQ1 s p) with
    | true =>
     have h2 : u8 s p = 39 ∨ u8 s p = 34 := by
      unfold aY2 at hqb
      have := of_decide_eq_true hqb
      rw [Plain27.cK6] at this
      rcases this with h | h
      · exact .inr (UInt8.toNat.inj (by simp only [show (34 : UInt8).toNat = 34 from rfl]; omega))
      · exact .inl (UInt8.toNat.inj (by simp only [show (39 : UInt8).toNat = 39 from rfl]; omega))
     have HQB := aQ0 hqb
     clear hqb
     have main : ∀ w2 : World, aQj w2 g s ⟨p, 0⟩ → w.grownBy w2 (some g) → ∀ n, Calls prog 90 #[.pointer (some ⟨g, 0, none⟩), .string q] ((w2.drewN n).setCell ⟨g, 1, none⟩ (.int .i64 ((p : Int) + 1))) fun e w' => StrQ w g s ((some p).bind (qtO s)) e w' := by
      intro w2 hb2 hg2 n
      have hnew := aZ6 (W := w2.drewN n) hb2 (p + 1) (z := (p : Int) + 1) (by omega)
      by_cases hup : upF s (p + 1) [u8 s p] = 0
      · refine (aVk _ g s q (p + 1) [u8 s p] HQL.out hnew hs (by omega) hqs (by simp)).mono ?_
        rintro e w' ⟨t, k, rfl, hb3, hk, hT, hg3⟩
        have hqt : qtO s p = some (upT s (p + 1) [u8 s p], upP s (p + 1) [u8 s p]) := by unfold qtO; rw [if_pos ⟨hlt, HQB.out, hup⟩]
        refine ⟨t, rfl, ?_, ?_, ?_, aQ6 hg2 (aQ6 (aQs w2 n _) (aQ6 (aX9 _) hg3))⟩
        · rw [Option.bind_some, hqt]
          rw [hup] at hb3
          show aZc w' g s (some (upP s (p + 1) [u8 s p]))
          rw [← (hT hup).2]
          exact ⟨hk, hb3⟩
        · intro v hv
          rw [Option.bind_some, hqt] at hv
          cases hv
          exact (hT hup).1
        · intro hv; rw [Option.bind_some, hqt] at hv; cases hv
      · refine (cJv _ g s q (p + 1) [u8 s p] HQL.out hnew hs (by omega) hqs (by simp) hup).mono ?_
        rintro e w' ⟨rfl, hb3, hg3⟩
        have hqt : qtO s p = none := by unfold qtO; rw [if_neg (fun hh => hup hh.2.2)]
        refine ⟨_, rfl, ?_, ?_, fun _ => rfl, aQ6 hg2 (aQ6 (aQs w2 n _) (aQ6 (aX9 _) hg3))⟩
        · rw [Option.bind_some, hqt]
          exact bZ2 hb3 (by simp) (Nat.le_refl _)
        · intro v hv; rw [Option.bind_some, hqt] at hv; cases hv
     have MAIN := aQ0 main
     clear main
     have hqq : q = ⟨#[39]⟩ ∨ q = ⟨#[34]⟩ := h2.imp (fun e => Plain25.bZ3 (by rw [HQL.out, e])) (fun e => Plain25.bZ3 (by rw [HQL.out, e]))
     clear e39 e34 h2
     rcases hqq with rfl | rfl
     all_goals
      go_enter func119, ntmps119
      go_wp2_with (first | (go_at_call 83; refine hc.mono ?_; rintro e w' ⟨rfl, rfl⟩) | (go_at_call 84; refine hc2.mono ?_; rintro e w2 ⟨rfl, hb2, hg2⟩; obtain ⟨c0, c1, c2, c3, c4, f1, f2, f3, f4⟩ := aJz hb2; replace hb2 := aQ0 hb2; replace hg2 := aQ0 hg2))
      go_quiet (fail)
      go_wp2_with (first | (go_at_call 90; refine (MAIN.out w2 hb2.out hg2.out nq).mono ?_; rintro e w3 ⟨t, rfl, H3⟩; replace H3 := aQ0 H3))
      go_ret
      exact ⟨t, rfl, H3.out⟩
    | false =>
     have h2 : q.toList ≠ [39] ∧ q.toList ≠ [34] := by
      rw [ByteArray.toList_eq, HQL.out]
      unfold aY2 at hqb
      have := of_decide_eq_false hqb
      rw [Plain27.cK6] at this
      constructor
      · intro e; rw [List.cons.inj e |>.1] at this; exact this (.inr rfl)
      · intro e; rw [List.cons.inj e |>.1] at this; exact this (.inl rfl)
     have n39 : (q.toList == [39]) = false := beq_eq_false_iff_ne.2 h2.1
     have n34 : (q.toList == [34]) = false := beq_eq_false_iff_ne.2 h2.2
     clear h2
     have HQB := aQ0 hqb
     clear hqb e39 e34
     go_enter func119, ntmps119
     go_wp2_with (first | (go_at_call 83; refine hc.mono ?_; rintro e w' ⟨rfl, rfl⟩) | (go_at_call 84; refine hc2.mono ?_; rintro e w2 ⟨rfl, hb2, hg2⟩; obtain ⟨c0, c1, c2, c3, c4, f1, f2, f3, f4⟩ := aJz hb2; replace hb2 := aQ0 hb2; replace hg2 := aQ0 hg2))
     go_quiet (fail)
     go_wp2
     go_ret
     refine ⟨_, rfl, ?_, fun v hv => ?_, fun _ => rfl, aQ6 hg2.out (aQ6 (aQs w2 nq _) (aX9 _))⟩
     · rw [Option.bind_some]; unfold qtO; rw [if_neg (fun hh => by rw [HQB.out] at hh; cases hh.2.1)]
       exact bZ2 (aWd (W := w2.drewN nq) hb2.out) (by simp) hp
     · rw [Option.bind_some] at hv; unfold qtO at hv; rw [if_neg (fun hh => by rw [HQB.out] at hh; cases hh.2.1)] at hv; cases hv
  · rw [decide_eq_true (by omega), aZb (by show s.size ≤ p; omega) rfl] at hc2
    go_enter func119, ntmps119
    go_wp2_with (first | (go_at_call 83; refine hc.mono ?_; rintro e w' ⟨rfl, rfl⟩) | (go_at_call 84; refine hc2.mono ?_; rintro e w2 ⟨rfl, hb2, hg2⟩; replace hb2 := aQ0 hb2; replace hg2 := aQ0 hg2))
    go_ret
    have hno : qtO s p = none := by unfold qtO; rw [if_neg (fun hh => hlt hh.1)]
    refine ⟨_, rfl, ?_, fun v hv => ?_, fun _ => rfl, hg2.out⟩
    · rw [Option.bind_some, hno]; exact bZ2 hb2.out (by simp) hp
    · rw [Option.bind_some, hno] at hv; cases hv
open Go.RowKit Ents Plain23
def aZg (w : World) (k g : Nat) (ve va : Value) : Prop := w.heap[k]? = some (.cells #[.pointer (some ⟨g, 0, none⟩), ve, va] 155)
theorem aZs {w : World} {k g : Nat} {ve va : Value} (h : aZg w k g ve va) :
 w.cell? ⟨k, 0, none⟩ = some (.pointer (some ⟨g, 0, none⟩)) ∧ w.cell? ⟨k, 1, none⟩ = some ve ∧ w.cell? ⟨k, 2, none⟩ = some va ∧ w.frozen? ⟨k, 1, none⟩ = false ∧ w.frozen? ⟨k, 2, none⟩ = false := by
 unfold aZg at h
 simp [World.cell?, World.frozen?, h]
theorem aYs {W : World} {g : Nat} {s : ByteArray} {σ : Option Nat} (h : aZc W g s σ) : ∃ c, W.heap[g]? = some (.cells c 126 (0, 0)) := by
 cases σ with
 | some p => exact ⟨_, h.2⟩
 | none => obtain ⟨_, _, _, _, _, _, hb⟩ := h; exact ⟨_, hb⟩
structure Rd (B : Nat) (w W : World) (k g : Nat) (s : ByteArray) (σ : Option Nat) (d : Dt) : Prop where
 st : aZc W g s σ
 gB : B ≤ g
 kB : B ≤ k
 box : ∃ ve va, aZg W k g ve va ∧ W.ownsRow B 163 2 ve d.ents.length (aQc d.ents) ∧ W.ownsRow B 146 5 va d.atts.length (aJ8 d.atts)
 bel : Below B w W
variable {B : Nat} {w W W' : World} {k g : Nat} {s : ByteArray} {σ σ' : Option Nat} {d : Dt}
theorem Rd.sz (h : Rd B w W k g s σ d) : B ≤ W.heap.size := Nat.le_of_lt (Nat.lt_of_le_of_lt h.gB (cZg h.st))
theorem Rd.kg (h : Rd B w W k g s σ d) : k ≠ g := by
 obtain ⟨ve, va, hb, _, _⟩ := h.box
 obtain ⟨c, hc⟩ := aYs h.st
 intro e
 subst e
 unfold aZg at hb
 rw [hc] at hb
 cases hb
theorem Rd.keep (h : Rd B w W k g s σ d) (hg : W.grownBy W' none) : Rd B w W' k g s σ d := by
 obtain ⟨ve, va, hb, h1, h2⟩ := h.box
 exact ⟨aWp h.st hg (by simp), h.gB, h.kB, ⟨ve, va, by unfold aZg; rw [hg.block k (gLt hb) (by simp)]; exact hb, h1.kept hg (by cases ve.ownBlock with | none => exact .inl rfl | some _ => exact .inr (by simp)), h2.kept hg (by cases va.ownBlock with | none => exact .inl rfl | some _ => exact .inr (by simp))⟩, h.bel.grown hg h.sz (by simp)⟩
theorem Rd.step (h : Rd B w W k g s σ d) (hs : aZc W' g s σ') (hg : W.grownBy W' (some g)) : Rd B w W' k g s σ' d := by
 have hkg := h.kg
 have hsz := h.sz
 obtain ⟨ve, va, hb, h1, h2⟩ := h.box
 obtain ⟨c, hc⟩ := aYs h.st
 exact ⟨hs, h.gB, h.kB, ⟨ve, va, by unfold aZg; rw [hg.block k (gLt hb) (fun e => hkg (Option.some.inj e))]; exact hb, h1.kept hg (.inr (aYc h1 hc (by decide))), h2.kept hg (.inr (aYc h2 hc (by decide)))⟩, h.bel.grown hg hsz (fun j hj => by cases hj; exact h.gB)⟩
theorem Rd.alloc (h : Rd B w W k g s σ d) (o : Obj) : Rd B w (W.alloc o) k g s σ d := h.keep (aVi W o none)
def EBox (W : World) (E : Nat) (nm tx : ByteArray) : Prop := W.heap[E]? = some (.cells #[.string nm, .string tx] 163)
theorem bV2 {W : World} {E : Nat} {nm tx : ByteArray} (h : EBox W E nm tx) : W.cell? ⟨E, 0, none⟩ = some (.string nm) ∧ W.cell? ⟨E, 1, none⟩ = some (.string tx) ∧ W.frozen? ⟨E, 0, none⟩ = false ∧ W.frozen? ⟨E, 1, none⟩ = false := by
 unfold EBox at h
 simp [World.cell?, World.frozen?, h]
theorem EBox.keep {E : Nat} {nm tx : ByteArray} {r : Option Nat} (h : EBox W E nm tx) (hg : W.grownBy W' r) (hr : some E ≠ r) : EBox W' E nm tx := by
 unfold EBox; rw [hg.block E (gLt h) hr]; exact h
theorem EBox.ng {E : Nat} {nm tx : ByteArray} (h : EBox W E nm tx) (hs : aZc W g s σ) : E ≠ g := by
 obtain ⟨c, hc⟩ := aYs hs
 intro e
 subst e
 unfold EBox at h
 rw [hc] at h
 cases h
open Go.RowKit Lists Ents Plain9 Plain10 Plain11 Plain23 Go.Lib
variable {B : Nat} {w W W' : World} {k g : Nat} {s : ByteArray} {σ σ' : Option Nat} {d : Dt}
def outD (d : Dt) (Z : Option (List Df × Nat)) : Dt := match Z with | some r => aZe d r.1 | none => d
theorem bZa {p : Nat} (h : aZc W g s (some p)) : W.cell? ⟨g, 3, none⟩ = some (.bool false) ∧ W.frozen? ⟨g, 3, none⟩ = false ∧ aZc (W.setCell ⟨g, 3, none⟩ (.bool true)) g s none ∧ aZc (W.setCell ⟨g, 3, none⟩ (.bool false)) g s (some p) := by
 obtain ⟨c0, c1, c2, c3, c4, f1, f2, f3, f4⟩ := aJz h.2
 refine ⟨by simpa using c3, f3, bZ2 (aWd h.2) (by simp) h.1, h.1, ?_⟩
 exact set5 h.2 3 _
theorem dV8 (h : aZc W g s none) : ∃ bd : Bool, W.cell? ⟨g, 3, none⟩ = some (.bool bd) ∧ W.frozen? ⟨g, 3, none⟩ = false ∧ aZc (W.setCell ⟨g, 3, none⟩ (.bool bd)) g s none := by
 obtain ⟨p, sh, bd, th, hp, hf, hb⟩ := h
 obtain ⟨c0, c1, c2, c3, f1, f3⟩ := bJv hb
 exact ⟨bd, c3, f3, p, sh, bd, th, hp, hf, set5 hb 3 _⟩
theorem cYq : entO ⟨#[]⟩ = some [] := rfl
structure EB (W : World) (k g E : Nat) (nm tx : ByteArray) : Prop where
 box : EBox W E nm tx
 ne : ∀ ve va, aZg W k g ve va → ve.ownBlock ≠ some E ∧ va.ownBlock ≠ some E
variable {E : Nat} {nm tx : ByteArray} {w0 : World}
theorem Rd.kl (h : Rd B w0 W k g s σ d) : k < W.heap.size := by
 obtain ⟨ve, va, hb, _, _⟩ := h.box
 exact (gLt hb)
theorem EB.keep {r : Option Nat} (h : EB W k g E nm tx) (hr : Rd B w0 W k g s σ d) (hg : W.grownBy W' r) (h1 : some E ≠ r) (h2 : some k ≠ r) : EB W' k g E nm tx :=
 ⟨h.box.keep hg h1, fun ve va hb => h.ne ve va (by unfold aZg at hb ⊢; rw [hg.block k hr.kl h2] at hb; exact hb)⟩
theorem EB.step (h : EB W k g E nm tx) (hr : Rd B w0 W k g s σ d) (hg : W.grownBy W' (some g)) : EB W' k g E nm tx :=
 h.keep hr hg (fun e => h.box.ng hr.st (Option.some.inj e)) (fun e => hr.kg (Option.some.inj e))
theorem EB.grow (h : EB W k g E nm tx) (hr : Rd B w0 W k g s σ d) (hg : W.grownBy W' none) : EB W' k g E nm tx := h.keep hr hg (by simp) (by simp)
theorem EB.make (h : Rd B w0 W k g s σ d) (nm tx : ByteArray) : EB (W.alloc (.cells #[.string nm, .string tx] 163)) k g W.heap.size nm tx := by
 refine ⟨Below.heap_new _ _, fun ve va hb => ?_⟩
 obtain ⟨ve', va', hb', h1, h2⟩ := h.box
 have e : aZg W k g ve va := by unfold aZg at hb ⊢; rw [(aVi W _ none).block k h.kl (by simp)] at hb; exact hb
 unfold aZg at e hb'
 rw [hb'] at e
 cases e
 exact ⟨fun e => by have := (h1.lt _ e).2; omega, fun e => by have := (h2.lt _ e).2; omega⟩
theorem EB.nk (h : EB W k g E nm tx) (hr : Rd B w0 W k g s σ d) : k ≠ E := by
 obtain ⟨ve, va, hb, _, _⟩ := hr.box
 have he := h.box
 intro e
 subst e
 unfold EBox at he
 unfold aZg at hb
 rw [he] at hb
 cases hb
theorem Rd.estore (h : Rd B w0 W k g s σ d) (he : EB W k g E nm tx) (hB : B ≤ E) (t : ByteArray) : Rd B w0 (W.setCell ⟨E, 1, none⟩ (.string t)) k g s σ d ∧ EB (W.setCell ⟨E, 1, none⟩ (.string t)) k g E nm t := by
 have hsz := h.sz
 have hgE := he.box.ng h.st
 have hkE := he.nk h
 have hkl := h.kl
 have hg : W.grownBy (W.setCell ⟨E, 1, none⟩ (.string t)) (some E) := aX9 _
 have hkk := hg.block k hkl (fun e => hkE (Option.some.inj e))
 obtain ⟨ve, va, hb, h1, h2⟩ := h.box
 obtain ⟨n1, n2⟩ := he.ne ve va hb
 exact ⟨⟨aWp h.st hg (fun e => hgE (Option.some.inj e).symm), h.gB, h.kB, ⟨ve, va, by unfold aZg; rw [hkk]; exact hb, h1.kept hg (.inr n1), h2.kept hg (.inr n2)⟩, h.bel.grown hg hsz (fun j hj => by cases hj; exact hB)⟩,
  ⟨set5 he.box 1 _, fun ve va hb => he.ne ve va (by unfold aZg at hb ⊢; rw [hkk] at hb; exact hb)⟩⟩
theorem fldE (a b : ByteArray) (w : World) : (Instr.field 163 (.agg #[.string a, .string b]) 0).run prog w = .ok (.string a) w := by kernel_rfl
theorem cYu {l : List (ByteArray × ByteArray)} {n : ByteArray} (h : n.size ≤ 4000) (hf : (l.find? (aWa n)).isSome = false) : (entR l n).1 = ⟨#[]⟩ := by
 unfold entR
 rw [if_neg (by omega)]
 cases hc : l.find? (aWa n) with
 | none => rfl
 | some e => rw [hc] at hf; cases hf
theorem cYt {l : List (ByteArray × ByteArray)} {n : ByteArray} (h : n.size ≤ 4000) (h1 : 1 ≤ n.size) (hf : (l.find? (aWa n)).isSome = true) : ((entR l n).1.toList == []) = false := by
 unfold entR
 rw [if_neg (by omega)]
 cases hc : l.find? (aWa n) with
 | none => rw [hc] at hf; cases hf
 | some e =>
  have he := List.find?_some hc
  unfold aWa at he
  have : e.1.toList = n.toList := by simpa using he
  show (e.1.toList == []) = false
  rw [this, ByteArray.toList_eq]
  cases hl : n.data.toList with
  | nil => rw [Lib.size_eq, hl] at h1; simp at h1
  | cons a b => rfl
theorem Rd.app (h : Rd B w0 W k g s σ d) {ae aa : Option Addr} {ce ca : Nat} (hb : aZg W k g (.slice ae d.ents.length ce) (.slice aa d.atts.length ca)) (m : Nat) (o : Obj) {wa : World} {v' : Value} {e : ByteArray × ByteArray}
 (hoa : wa.ownsRow B 163 2 v' (d.ents.length + 1) (aQc d.ents ++ [.string e.1, .string e.2])) (hga : ((W.drewN m).alloc o).grownBy wa (Value.slice ae d.ents.length ce).ownBlock) :
 aZg wa k g (.slice ae d.ents.length ce) (.slice aa d.atts.length ca) ∧ ∃ gg cap, v' = .slice (some ⟨gg, 0, none⟩) (d.ents.length + 1) cap ∧ Rd B w0 (wa.setCell ⟨k, 1, none⟩ v') k g s σ ⟨d.ents ++ [e], d.atts⟩ := by
 have hkg := h.kg
 obtain ⟨ve, va, hb', h1, h2⟩ := h.box
 have hbb := hb
 unfold aZg at hb' hbb
 rw [hbb] at hb'
 cases hb'
 have hg0 : W.grownBy ((W.drewN m).alloc o) none := aQ6 (aQs W m none) (aVi _ o none)
 have H1 := h.keep hg0
 have h1' := h1.kept hg0 (by cases (Value.slice ae d.ents.length ce).ownBlock with | none => exact .inl rfl | some _ => exact .inr (by simp))
 have h2' := h2.kept hg0 (by cases (Value.slice aa d.atts.length ca).ownBlock with | none => exact .inl rfl | some _ => exact .inr (by simp))
 have hb1 : aZg ((W.drewN m).alloc o) k g (.slice ae d.ents.length ce) (.slice aa d.atts.length ca) := by unfold aZg; rw [hg0.block k h.kl (by simp)]; exact hb
 obtain ⟨c, hc⟩ := aYs H1.st
 have hwa : aZg wa k g (.slice ae d.ents.length ce) (.slice aa d.atts.length ca) := by unfold aZg; rw [hga.block k H1.kl (aYc h1' hb1 (by decide)).symm]; exact hb1
 have hsta : aZc wa g s σ := aWp H1.st hga (aYc h1' hc (by decide)).symm
 have h2a := h2'.kept hga (cW1 h2' h1' (by decide))
 have hbela : Below B w0 wa := H1.bel.grown hga H1.sz (fun j hj => (h1'.lt j hj).1)
 have hszB : B ≤ wa.heap.size := Nat.le_trans H1.sz hga.size
 refine ⟨hwa, ?_⟩
 obtain ⟨gg, cap, hv⟩ : ∃ gg cap, v' = .slice (some ⟨gg, 0, none⟩) (d.ents.length + 1) cap := by
  rcases hoa.2 with ⟨_, h⟩ | ⟨gg, cap, _, h, _⟩
  · omega
  · exact ⟨gg, cap, h⟩
 refine ⟨gg, cap, hv, ?_⟩
 have hgs : wa.grownBy (wa.setCell ⟨k, 1, none⟩ v') (some k) := aX9 _
 refine ⟨aWp hsta hgs (fun e => hkg (Option.some.inj e).symm), h.gB, h.kB, ⟨v', .slice aa d.atts.length ca, set5 hwa 1 _, ?_, ?_⟩, hbela.grown hgs hszB (fun j hj => by cases hj; exact h.kB)⟩
 · have := hoa.kept hgs (.inr (aYc hoa hwa (by decide)))
   rw [aVj, List.length_append]
   exact this
 · exact h2a.kept hgs (.inr (aYc h2a hwa (by decide)))
def bW6 (s : ByteArray) (σ : Option Nat) : Option (ByteArray × Nat) := ((((σ.bind (gapO s)).bind (aJ6 s)).map (·.2)).bind (gapO s)).bind (qtO s)
theorem dK7 (h : (bW6 s σ).map (·.2) = none) : σ.bind (aJs s) = none := by
 unfold bW6 at h
 rw [Option.map_eq_none_iff] at h
 cases σ with
 | none => rfl
 | some p =>
  simp only [Option.bind_some] at h ⊢
  unfold aJs
  cases h1 : gapO s p with
  | none => rfl
  | some a =>
   rw [h1] at h
   simp only [Option.bind_some] at h ⊢
   cases h2 : aJ6 s a with
   | none => rfl
   | some n =>
    rw [h2] at h
    simp only [Option.map_some, Option.bind_some] at h ⊢
    cases h3 : gapO s n.2 with
    | none => rfl
    | some b =>
     rw [h3] at h
     simp only [Option.bind_some] at h ⊢
     rw [h]; rfl
theorem ent_Z {v : ByteArray × Nat} (h : bW6 s σ = some v) : ∃ n, (σ.bind (gapO s)).bind (aJ6 s) = some n ∧ σ.bind (aJs s) = (entO v.1).bind fun t => (bQh s (whiteZ s v.2) [62]).bind fun q => some ([.inl (n.1, strOfNums t)], q) := by
 unfold bW6 at h
 cases σ with
 | none => cases h
 | some p =>
  simp only [Option.bind_some] at h ⊢
  unfold aJs
  cases h1 : gapO s p with
  | none => rw [h1] at h; cases h
  | some a =>
   rw [h1] at h
   simp only [Option.bind_some] at h ⊢
   cases h2 : aJ6 s a with
   | none => rw [h2] at h; cases h
   | some n =>
    rw [h2] at h
    simp only [Option.map_some, Option.bind_some] at h ⊢
    refine ⟨n, rfl, ?_⟩
    cases h3 : gapO s n.2 with
    | none => rw [h3] at h; cases h
    | some b =>
     rw [h3] at h
     simp only [Option.bind_some] at h ⊢
     rw [h]; rfl
theorem cVh (h : Rd B w0 w k g s σ d) (hs : s.size ≤ 1048576) (hd : d.ents.length ≤ 1000000) :
 Calls prog 114 #[.pointer (some ⟨k, 0, none⟩)] w fun e w' => e = .returned (.tuple #[]) ∧ Rd B w0 w' k g s ((σ.bind (aJs s)).map (·.2)) (outD d (σ.bind (aJs s))) := by
 have H0 := aQ0 h
 have HWB : Hid (B ≤ w.heap.size) := aQ0 h.sz
 obtain ⟨ve, va, hb0, _, _⟩ := h.box
 obtain ⟨r0, r1, r2, rf1, rf2⟩ := aZs hb0
 have hgap := bZ0 h.st hs
 clear h hb0 r1 r2 rf1 rf2
 go_enter func114, ntmps114
 go_wp2_with fail
 refine hgap.mono ?_
 rintro e w1 ⟨rfl, hs1, hg1⟩
 have H1 := aQ0 (H0.out.step hs1 hg1)
 clear hgap hs1 hg1 H0 r0
 have hname := bJc H1.out.st hs
 go_wp2_with fail
 refine hname.mono ?_
 rintro e w2 ⟨nm, rfl, hs2, hT2, hg2⟩
 have H2a := aQ0 (H1.out.step hs2 hg2)
 have H2 := aQ0 (H2a.out.alloc (.cells #[.string nm, .string ⟨#[]⟩] 163))
 have E2 := aQ0 (EB.make H2a.out nm ⟨#[]⟩)
 have HB2 : Hid (B ≤ w2.heap.size) := aQ0 H2a.out.sz
 have HT2 := aQ0 hT2
 clear hname hs2 hg2 hT2 H1
 have hgap := bZ0 H2.out.st hs
 go_wp2_with fail
 refine hgap.mono ?_
 rintro e w3 ⟨rfl, hs3, hg3⟩
 have H3 := aQ0 (H2.out.step hs3 hg3)
 have E3 := aQ0 (E2.out.step H2.out hg3)
 clear hgap hs3 hg3 H2 E2
 have hq := cWd H3.out.st hs
 go_wp2_with fail
 refine hq.mono ?_
 rintro e w4 ⟨t, rfl, hs4, hT4, hN4, hg4⟩
 have H4 := aQ0 (H3.out.step hs4 hg4)
 have E4 := aQ0 (E3.out.step H3.out hg4)
 have hts : t.size ≤ 1048576 := by
  cases hR : ((((σ.bind (gapO s)).bind (aJ6 s)).map (·.2)).bind (gapO s)).bind (qtO s) with
  | none => rw [hN4 hR]; simp [ByteArray.size]
  | some v =>
   rw [hT4 v hR]
   obtain ⟨p, _, hp⟩ := Option.bind_eq_some_iff.1 hR
   obtain ⟨_, _, _, q4, _, _, q7⟩ := cX2 hp
   rw [q4]; unfold upT
   simp only [ByteArray.size_extract]
   omega
 have HT4 := aQ0 hT4
 have HN4 := aQ0 hN4
 clear hq hs4 hg4 hT4 hN4 H3 E3
 have htx := dX1 t w4 hts
 go_wp2_with fail
 refine htx.mono ?_
 rintro e w5 ⟨rfl, hb5⟩
 have H5 := aQ0 (H4.out.keep (bQl hb5))
 have E5 := aQ0 (E4.out.grow H4.out (bQl hb5))
 clear htx hb5 H4 E4
 obtain ⟨σ4, hσ4⟩ := nmE ((bW6 s σ).map (·.2))
 have H5 : Hid (Rd B w0 w5 k g s ((bW6 s σ).map (·.2)) d) := H5
 have HT4 : Hid (∀ v, bW6 s σ = some v → t = v.1) := HT4
 have HN4 : Hid (bW6 s σ = none → t = ⟨#[]⟩) := HN4
 rw [hσ4] at H5
 have HS4 := aQ0 hσ4
 clear hσ4
 cases σ4 with
 | none =>
  have hR4 : bW6 s σ = none := Option.map_eq_none_iff.1 HS4.out
  obtain rfl := HN4.out hR4
  have hZ := aQ0 (dK7 HS4.out)
  rw [cYq]
  obtain ⟨bd, c3, f3, hst⟩ := dV8 H5.out.st
  have H6 := aQ0 (H5.out.step hst (aX9 _))
  have E6 := aQ0 (E5.out.step H5.out (aX9 (j := 3) (.bool bd)))
  clear hst H5 E5 hR4
  cases bd
  all_goals
   have hwh := aYn H6.out.st hs
   go_wp2_with fail
   refine hwh.mono ?_
   rintro e w7 ⟨b7, rfl, hs7, _, hg7⟩
   have H7 := aQ0 (H6.out.step hs7 hg7)
   have E7 := aQ0 (E6.out.step H6.out hg7)
   clear hwh hs7 hg7 H6 E6 c3 f3
   have hmu := must_st H7.out.st ⟨#[62]⟩ [62] rfl hs (by decide)
   go_wp2_with fail
   refine hmu.mono ?_
   rintro e w8 ⟨rfl, hs8, hg8⟩
   have H8 := aQ0 (H7.out.step hs8 hg8)
   have E8 := aQ0 (E7.out.step H7.out hg8)
   clear hmu hs8 hg8 H7 E7
   obtain ⟨e0, e1, ef0, ef1⟩ := bV2 E8.out.box
   obtain ⟨H9', E9'⟩ := H8.out.estore E8.out HB2.out (entS (some []))
   have H9 := aQ0 H9'
   clear H9' E9'
   have hok9 := aW9 H9.out.st
   simp only [Option.map_none, Option.bind_none, Option.isSome_none] at hok9
   go_wp2_with fail
   go_quiet ((go_at_call 83; exact Calls.quiet_of_same (hok9 _ rfl)))
   go_wp2
   go_end0
   rw [hZ.out]
   exact ⟨rfl, H9.out.keep (aQs _ nq none)⟩
 | some p4 =>
  cases hok : entO t with
  | none =>
   obtain ⟨c3, f3, hbad, _⟩ := bZa H5.out.st
   have H6 := aQ0 (H5.out.step hbad (aX9 _))
   have E6 := aQ0 (E5.out.step H5.out (aX9 (j := 3) (.bool true)))
   have HOK := aQ0 hok
   clear hok hbad H5 E5
   have hwh := aYn H6.out.st hs
   go_wp2_with fail
   refine hwh.mono ?_
   rintro e w7 ⟨b7, rfl, hs7, _, hg7⟩
   have H7 := aQ0 (H6.out.step hs7 hg7)
   have E7 := aQ0 (E6.out.step H6.out hg7)
   clear hwh hs7 hg7 H6 E6 c3 f3
   have hmu := must_st H7.out.st ⟨#[62]⟩ [62] rfl hs (by decide)
   go_wp2_with fail
   refine hmu.mono ?_
   rintro e w8 ⟨rfl, hs8, hg8⟩
   have H8 := aQ0 (H7.out.step hs8 hg8)
   have E8 := aQ0 (E7.out.step H7.out hg8)
   clear hmu hs8 hg8 H7 E7
   obtain ⟨e0, e1, ef0, ef1⟩ := bV2 E8.out.box
   obtain ⟨H9', E9'⟩ := H8.out.estore E8.out HB2.out (entS none)
   have H9 := aQ0 H9'
   have E9 := aQ0 E9'
   clear H9' E9'
   have hok9 := aW9 H9.out.st
   simp only [Option.map_none, Option.bind_none, Option.isSome_none] at hok9
   go_wp2_with fail
   go_quiet ((go_at_call 83; exact Calls.quiet_of_same (hok9 _ rfl)))
   go_wp2
   go_end0
   have hZ : σ.bind (aJs s) = none := by
    obtain ⟨v, hv, _⟩ := Option.map_eq_some_iff.1 HS4.out
    obtain ⟨n, _, hz⟩ := ent_Z hv
    rw [hz, ← HT4.out v hv, HOK.out]; rfl
   rw [hZ]
   exact ⟨rfl, H9.out.keep (aQs _ nq none)⟩
  | some l =>
   obtain ⟨c3, f3, _, hgood⟩ := bZa H5.out.st
   have H6 := aQ0 (H5.out.step hgood (aX9 _))
   have E6 := aQ0 (E5.out.step H5.out (aX9 (j := 3) (.bool false)))
   have HOK := aQ0 hok
   clear hok hgood H5 E5
   have hwh := aYn H6.out.st hs
   go_wp2_with fail
   refine hwh.mono ?_
   rintro e w7 ⟨b7, rfl, hs7, _, hg7⟩
   have H7 := aQ0 (H6.out.step hs7 hg7)
   have E7 := aQ0 (E6.out.step H6.out hg7)
   clear hwh hs7 hg7 H6 E6 c3 f3
   have hmu := must_st H7.out.st ⟨#[62]⟩ [62] rfl hs (by decide)
   go_wp2_with fail
   refine hmu.mono ?_
   rintro e w8 ⟨rfl, hs8, hg8⟩
   have H8 := aQ0 (H7.out.step hs8 hg8)
   have E8 := aQ0 (E7.out.step H7.out hg8)
   clear hmu hs8 hg8 H7 E7
   obtain ⟨e0, e1, ef0, ef1⟩ := bV2 E8.out.box
   obtain ⟨H9', E9'⟩ := H8.out.estore E8.out HB2.out (entS (some l))
   have H9 := aQ0 H9'
   have E9 := aQ0 E9'
   clear H9' E9'
   obtain ⟨v, hv, hv2⟩ := Option.map_eq_some_iff.1 HS4.out
   obtain ⟨n, hn, hz⟩ := ent_Z hv
   obtain rfl : nm = n.1 := HT2.out n hn
   have htv := HT4.out v hv
   rw [← htv, HOK.out, Option.bind_some, hv2] at hz
   have HZ := aQ0 hz
   have HNM := aQ0 hn
   simp only [Option.map_some, Option.bind_some] at H9
   clear hn hz htv hv hv2
   cases hm : bQh s (whiteZ s p4) [62] with
   | none =>
    rw [hm] at H9 HZ
    have hok9 := aW9 H9.out.st
    simp only [Option.isSome_none] at hok9
    clear hm
    go_wp2_with fail
    go_quiet ((go_at_call 83; exact Calls.quiet_of_same (hok9 _ rfl)))
    go_wp2
    go_end0
    rw [HZ.out]
    exact ⟨rfl, H9.out.keep (aQs _ nq none)⟩
   | some q =>
    rw [hm] at H9 HZ
    have hok9 := aW9 H9.out.st
    simp only [Option.isSome_some] at hok9
    clear hm H8 E8
    obtain ⟨ve, va, hbx, ho1, ho2⟩ := H9.out.box
    obtain ⟨ae, ce, rfl, hEnts⟩ := aWx ho1
    obtain ⟨aa, ca, rfl, hAtts⟩ := aWz ho2
    obtain ⟨r0, r1, r2, rf1, rf2⟩ := aZs hbx
    obtain ⟨x0, x1, xf0, xf1⟩ := bV2 E9.out.box
    go_wp2_with fail
    have hkl := H9.out.kl
    generalize w8.setCell ⟨w2.heap.size, 1, none⟩ (.string (entS (some l))) = W9 at *
    have hent := fun (W : World) (hW : W.heap = W9.heap) => bQr W ae aa d.ents.length ce d.atts.length ca d.ents n.1 rfl (by omega) (hEnts.keep (w' := W) (fun j _ => by rw [hW]))
    have HO1 := aQ0 ho1
    clear hEnts hAtts ho1 ho2 e0 e1 ef0 ef1
    have hns : 1 ≤ n.1.size ∧ n.1.size ≤ 4000 := by
     obtain ⟨p1, _, hp1⟩ := Option.bind_eq_some_iff.1 HNM.out
     obtain ⟨h1, h2, _⟩ := aZj hp1
     have hsp := aZx h1
     rw [h2]; unfold nmT
     rw [aXy (by simp only [nmP] at hsp; omega)]; omega
    obtain ⟨R, hR⟩ := nmE (entR d.ents n.1)
    simp only [hR] at hent
    have hfl := fun wx => fldE R.1 R.2 wx
    cases hfd : (d.ents.find? (aWa n.1)).isSome with
    | true =>
     have hR1 := cYt hns.2 hns.1 hfd
     rw [hR] at hR1
     have HFD := aQ0 hfd
     clear hfd hR
     go_region_held3 (fun W => W.cell? ⟨k, 1, none⟩ = some (.slice ae d.ents.length ce) ∧ W.cell? ⟨k, 2, none⟩ = some (.slice aa d.atts.length ca) ∧ W.cell? ⟨w2.heap.size, 0, none⟩ = some (.string n.1)) (go_keep) (first | (go_at_call 83; refine (hok9 _ (by rfl)).mono ?_; rintro e wk ⟨rfl, rfl⟩) | (go_at_call 112; refine (hent _ (by rfl)).mono ?_; rintro e wz ⟨rfl, hgz⟩; have hbz := aZs (w := wz) (by unfold aZg; rw [hgz.block k hkl (by simp)]; exact hbx); have hez := bV2 (W := wz) (E9.out.box.keep (r := none) (W := W9) ⟨hgz.os, hgz.tape, hgz.output, hgz.size, hgz.block⟩ (by simp)); obtain ⟨_, r1, r2, _, _⟩ := hbz; obtain ⟨x0, x1, _, _⟩ := hez))
     go_wp2
     go_end0
     rw [HZ.out]
     refine ⟨rfl, ?_⟩
     show Rd B w0 wz k g s (some q) (addD d (.inl (n.1, strOfNums l)))
     rw [show addD d (.inl (n.1, strOfNums l)) = d from if_pos HFD.out]
     exact H9.out.keep ⟨hgz.os, hgz.tape, hgz.output, hgz.size, hgz.block⟩
    | false =>
     have hR1 := cYu hns.2 hfd
     rw [hR] at hR1
     have HFD := aQ0 hfd
     clear hfd hR
     rw [hR1] at hent hfl
     go_region_held3 (fun W => W.cell? ⟨k, 1, none⟩ = some (.slice ae d.ents.length ce) ∧ W.cell? ⟨k, 2, none⟩ = some (.slice aa d.atts.length ca) ∧ W.cell? ⟨w2.heap.size, 0, none⟩ = some (.string n.1)) (go_keep) (first | (go_at_call 83; refine (hok9 _ (by rfl)).mono ?_; rintro e wk ⟨rfl, rfl⟩) | (go_at_call 112; refine (hent _ (by rfl)).mono ?_; rintro e wz ⟨rfl, hgz⟩; have hbz := aZs (w := wz) (by unfold aZg; rw [hgz.block k hkl (by simp)]; exact hbx); have hez := bV2 (W := wz) (E9.out.box.keep (r := none) (W := W9) ⟨hgz.os, hgz.tape, hgz.output, hgz.size, hgz.block⟩ (by simp)); obtain ⟨_, r1, r2, _, _⟩ := hbz; obtain ⟨x0, x1, _, _⟩ := hez))
     have hgz' : W9.grownBy wz none := ⟨hgz.os, hgz.tape, hgz.output, hgz.size, hgz.block⟩
     have H10 := aQ0 (H9.out.keep hgz')
     have E10 := aQ0 (E9.out.grow H9.out hgz')
     have HGZ := aQ0 hgz'
     have hbz2 : aZg wz k g (.slice ae d.ents.length ce) (.slice aa d.atts.length ca) := by unfold aZg; rw [hgz'.block k hkl (by simp)]; exact hbx
     have ho1z := bQv HO1.out hgz'
     have hklz := H10.out.kl
     obtain ⟨_, q1, q2, qf1, qf2⟩ := aZs hbz2
     obtain ⟨y0, y1, _, _⟩ := bV2 E10.out.box
     have hElz : w2.heap.size < wz.heap.size := (gLt E10.out.box)
     have q1a : (wz.alloc (.cells #[.string n.1, .string (entS (some l))] 163)).cell? ⟨k, 1, none⟩ = some (.slice ae d.ents.length ce) := (World.cell?_of_block (a := ⟨k, 1, none⟩) (heap_alloc_old _ _ hklz)).trans q1
     clear hgz hgz' hent hok9 hbx H9 E9
     obtain ⟨i0, hi0, hz0, hz1, hz2⟩ := info_parts infoE
     have HRD := aQ0 (fun (wa : World) (v' : Value) (hoa : wa.ownsRow B 163 2 v' (d.ents.length + 1) (aQc d.ents ++ [.string n.1, .string (entS (some l))])) (hga : ((wz.drewN 1).alloc (.cells #[.string n.1, .string (entS (some l))] 163)).grownBy wa (Value.slice ae d.ents.length ce).ownBlock) => H10.out.app hbz2 1 (.cells #[.string n.1, .string (entS (some l))] 163) (e := (n.1, entS (some l))) hoa hga)
     have HROW : Hid ((wz.drew.alloc (.cells #[.string n.1, .string (entS (some l))] 163)).ownsRow B 163 2 (.slice ae d.ents.length ce) d.ents.length (aQc d.ents)) := aQ0 (ho1z.drew.alloc _)
     have hBz := H10.out.sz
     clear hbz2 ho1z H10 E10
     go_wp2_with fail
     go_region_law (refine aQn rfl (.tmp 58) (.tmp 60) 91 rfl B 163 i0 (.agg #[.string ByteArray.empty, .string ByteArray.empty]) 2 32 underlying91 hi0 hz0 hz1 hz2 rfl (by decide) (.slice ae d.ents.length ce) d.ents.length (aQc d.ents) (by simp [Act.eval]) HROW.out ⟨wz.heap.size, 0, none⟩ 1 1 [.string n.1, .string (entS (some l))] (by simp [Act.eval]) rfl (aWy wz.drew _ _ _ wz.heap.size rfl) (by intro u hu; simp at hu; rcases hu with rfl | rfl <;> rfl) (by unfold maxLen; omega) (by omega) (by simp; omega) ?_; intro v' wa hoa hga; obtain ⟨hwa, gg, cap, rfl, hrd⟩ := HRD.out wa v' hoa hga; obtain ⟨r0, r1, r2, rf1, rf2⟩ := aZs hwa; replace hrd := aQ0 hrd; replace hwa := aQ0 hwa; clear hoa hga)
     all_goals
      go_end0
      rw [HZ.out]
      refine ⟨rfl, ?_⟩
      show Rd B w0 _ k g s (some q) (addD d (.inl (n.1, strOfNums l)))
      rw [show addD d (.inl (n.1, strOfNums l)) = ⟨d.ents ++ [(n.1, strOfNums l)], d.atts⟩ from if_neg (by rw [HFD.out]; simp)]
      exact hrd.out
open Go.RowKit Lists Ents Plain23 Go.Lib
variable {B : Nat} {w W W' : World} {k g : Nat} {s : ByteArray} {σ σ' : Option Nat} {d : Dt} {E : Nat} {w0 : World} {a : At5}
def aY4 (a : At5) : Array Value := #[.string a.of, .string a.nm, .bool a.words, .bool a.has, .string a.val]
def ABox (W : World) (E : Nat) (a : At5) : Prop := W.heap[E]? = some (.cells (aY4 a) 146)
theorem bVd {a : At5} (h : ABox W E a) : W.cell? ⟨E, 0, none⟩ = some (.string a.of) ∧ W.cell? ⟨E, 1, none⟩ = some (.string a.nm) ∧ W.cell? ⟨E, 2, none⟩ = some (.bool a.words) ∧ W.cell? ⟨E, 3, none⟩ = some (.bool a.has) ∧ W.cell? ⟨E, 4, none⟩ = some (.string a.val) ∧
 W.frozen? ⟨E, 2, none⟩ = false ∧ W.frozen? ⟨E, 3, none⟩ = false ∧ W.frozen? ⟨E, 4, none⟩ = false := by
 unfold ABox aY4 at h
 simp [World.cell?, World.frozen?, h]
theorem ABox.ng (h : ABox W E a) (hs : aZc W g s σ) : E ≠ g := by
 obtain ⟨c, hc⟩ := aYs hs
 intro e
 subst e
 unfold ABox at h
 rw [hc] at h
 cases h
structure AB (W : World) (k g E : Nat) (a : At5) : Prop where
 box : ABox W E a
 ne : ∀ ve va, aZg W k g ve va → ve.ownBlock ≠ some E ∧ va.ownBlock ≠ some E
theorem AB.keep {r : Option Nat} (h : AB W k g E a) (hr : Rd B w0 W k g s σ d) (hg : W.grownBy W' r) (h1 : some E ≠ r) (h2 : some k ≠ r) : AB W' k g E a :=
 ⟨by unfold ABox; rw [hg.block E (gLt h.box) h1]; exact h.box, fun ve va hb => h.ne ve va (by unfold aZg at hb ⊢; rw [hg.block k hr.kl h2] at hb; exact hb)⟩
theorem AB.step (h : AB W k g E a) (hr : Rd B w0 W k g s σ d) (hg : W.grownBy W' (some g)) : AB W' k g E a :=
 h.keep hr hg (fun e => h.box.ng hr.st (Option.some.inj e)) (fun e => hr.kg (Option.some.inj e))
theorem AB.grow (h : AB W k g E a) (hr : Rd B w0 W k g s σ d) (hg : W.grownBy W' none) : AB W' k g E a := h.keep hr hg (by simp) (by simp)
theorem AB.make (h : Rd B w0 W k g s σ d) (a : At5) : AB (W.alloc (.cells (aY4 a) 146)) k g W.heap.size a := by
 refine ⟨Below.heap_new _ _, fun ve va hb => ?_⟩
 obtain ⟨ve', va', hb', h1, h2⟩ := h.box
 have e : aZg W k g ve va := by unfold aZg at hb ⊢; rw [(aVi W _ none).block k h.kl (by simp)] at hb; exact hb
 unfold aZg at e hb'
 rw [hb'] at e
 cases e
 exact ⟨fun e => by have := (h1.lt _ e).2; omega, fun e => by have := (h2.lt _ e).2; omega⟩
theorem AB.nk (h : AB W k g E a) (hr : Rd B w0 W k g s σ d) : k ≠ E := by
 obtain ⟨ve, va, hb, _, _⟩ := hr.box
 have he := h.box
 intro e
 subst e
 unfold ABox at he
 unfold aZg at hb
 rw [he] at hb
 cases hb
theorem Rd.astore {j : Nat} {u : Value} {a' : At5} (h : Rd B w0 W k g s σ d) (he : AB W k g E a) (hB : B ≤ E) (hc : (aY4 a).setIfInBounds j u = aY4 a') : Rd B w0 (W.setCell ⟨E, j, none⟩ u) k g s σ d ∧ AB (W.setCell ⟨E, j, none⟩ u) k g E a' := by
 have hsz := h.sz
 have hgE := he.box.ng h.st
 have hkE := he.nk h
 have hkl := h.kl
 have hg : W.grownBy (W.setCell ⟨E, j, none⟩ u) (some E) := aX9 _
 have hkk := hg.block k hkl (fun e => hkE (Option.some.inj e))
 obtain ⟨ve, va, hb, h1, h2⟩ := h.box
 obtain ⟨n1, n2⟩ := he.ne ve va hb
 exact ⟨⟨aWp h.st hg (fun e => hgE (Option.some.inj e).symm), h.gB, h.kB, ⟨ve, va, by unfold aZg; rw [hkk]; exact hb, h1.kept hg (.inr n1), h2.kept hg (.inr n2)⟩, h.bel.grown hg hsz (fun j hj => by cases hj; exact hB)⟩,
  ⟨by unfold ABox; rw [← hc]; exact set5 he.box j u, fun ve va hb => he.ne ve va (by unfold aZg at hb ⊢; rw [hkk] at hb; exact hb)⟩⟩
theorem cQp (a : At5) : (aY4 a).setIfInBounds 2 (.bool true) = aY4 { a with words := true } := rfl
theorem bZq (a : At5) : (aY4 a).setIfInBounds 3 (.bool true) = aY4 { a with has := true } := rfl
theorem bZp (a : At5) (v : ByteArray) : (aY4 a).setIfInBounds 4 (.string v) = aY4 { a with val := v } := rfl
theorem Rd.appA (h : Rd B w0 W k g s σ d) {ae aa : Option Addr} {ce ca : Nat} (hb : aZg W k g (.slice ae d.ents.length ce) (.slice aa d.atts.length ca)) (m : Nat) (o : Obj) {wa : World} {v' : Value} {e : At5}
 (hoa : wa.ownsRow B 146 5 v' (d.atts.length + 1) (aJ8 d.atts ++ [.string e.of, .string e.nm, .bool e.words, .bool e.has, .string e.val])) (hga : ((W.drewN m).alloc o).grownBy wa (Value.slice aa d.atts.length ca).ownBlock) :
 aZg wa k g (.slice ae d.ents.length ce) (.slice aa d.atts.length ca) ∧ ∃ gg cap, v' = .slice (some ⟨gg, 0, none⟩) (d.atts.length + 1) cap ∧ Rd B w0 (wa.setCell ⟨k, 2, none⟩ v') k g s σ ⟨d.ents, d.atts ++ [e]⟩ := by
 have hkg := h.kg
 obtain ⟨ve, va, hb', h1, h2⟩ := h.box
 have hbb := hb
 unfold aZg at hb' hbb
 rw [hbb] at hb'
 cases hb'
 have hg0 : W.grownBy ((W.drewN m).alloc o) none := aQ6 (aQs W m none) (aVi _ o none)
 have H1 := h.keep hg0
 have h1' := h1.kept hg0 (by cases (Value.slice ae d.ents.length ce).ownBlock with | none => exact .inl rfl | some _ => exact .inr (by simp))
 have h2' := h2.kept hg0 (by cases (Value.slice aa d.atts.length ca).ownBlock with | none => exact .inl rfl | some _ => exact .inr (by simp))
 have hb1 : aZg ((W.drewN m).alloc o) k g (.slice ae d.ents.length ce) (.slice aa d.atts.length ca) := by unfold aZg; rw [hg0.block k h.kl (by simp)]; exact hb
 obtain ⟨c, hc⟩ := aYs H1.st
 have hwa : aZg wa k g (.slice ae d.ents.length ce) (.slice aa d.atts.length ca) := by unfold aZg; rw [hga.block k H1.kl (aYc h2' hb1 (by decide)).symm]; exact hb1
 have hsta : aZc wa g s σ := aWp H1.st hga (aYc h2' hc (by decide)).symm
 have h1a := h1'.kept hga (cW1 h1' h2' (by decide))
 have hbela : Below B w0 wa := H1.bel.grown hga H1.sz (fun j hj => (h2'.lt j hj).1)
 have hszB : B ≤ wa.heap.size := Nat.le_trans H1.sz hga.size
 refine ⟨hwa, ?_⟩
 obtain ⟨gg, cap, hv⟩ : ∃ gg cap, v' = .slice (some ⟨gg, 0, none⟩) (d.atts.length + 1) cap := by
  rcases hoa.2 with ⟨_, h⟩ | ⟨gg, cap, _, h, _⟩
  · omega
  · exact ⟨gg, cap, h⟩
 refine ⟨gg, cap, hv, ?_⟩
 have hgs : wa.grownBy (wa.setCell ⟨k, 2, none⟩ v') (some k) := aX9 _
 refine ⟨aWp hsta hgs (fun e => hkg (Option.some.inj e).symm), h.gB, h.kB, ⟨.slice ae d.ents.length ce, v', set5 hwa 2 _, ?_, ?_⟩, hbela.grown hgs hszB (fun j hj => by cases hj; exact h.kB)⟩
 · exact h1a.kept hgs (.inr (aYc h1a hwa (by decide)))
 · have := hoa.kept hgs (.inr (aYc hoa hwa (by decide)))
   rw [cQn, List.length_append]
   exact this
theorem fldA (a : At5) (w : World) : (Instr.field 146 (.agg #[.string a.of, .string a.nm, .bool a.words, .bool a.has, .string a.val]) 1).run prog w = .ok (.string a.nm) w := by kernel_rfl
theorem infoA : (prog.info? 146).map (fun i => (i.zero, i.size, i.bytes)) = some (some (.agg #[.string ByteArray.empty, .string ByteArray.empty, .bool false, .bool false, .string ByteArray.empty]), 5, 56) := by kernel_rfl
theorem dQr {l : List At5} {o n : ByteArray} (ho : o.size ≤ 4000) (h : n.size ≤ 4000) (hf : (l.find? (aV1 o n)).isSome = false) : attR l o n = zAtt := by
 unfold attR
 rw [if_neg (by omega)]
 cases hc : l.find? (aV1 o n) with
 | none => rfl
 | some e => rw [hc] at hf; cases hf
theorem dQq {l : List At5} {o n : ByteArray} (ho : o.size ≤ 4000) (h : n.size ≤ 4000) (h1 : 1 ≤ n.size) (hf : (l.find? (aV1 o n)).isSome = true) : ((attR l o n).nm.toList == []) = false := by
 unfold attR
 rw [if_neg (by omega)]
 cases hc : l.find? (aV1 o n) with
 | none => rw [hc] at hf; cases hf
 | some e =>
  have he := List.find?_some hc
  unfold aV1 at he
  have : e.nm.toList = n.toList := by simp at he; exact he.2
  show (e.nm.toList == []) = false
  rw [this, ByteArray.toList_eq]
  cases hl : n.data.toList with
  | nil => rw [Lib.size_eq, hl] at h1; simp at h1
  | cons a b => rfl
open Go.RowKit Strs Lists Ents Plain9 Plain10 Plain23 Go.Lib
variable {B : Nat} {w W W' : World} {k g : Nat} {s : ByteArray} {σ σ' : Option Nat} {d : Dt} {E : Nat} {w0 : World} {a : At5}
def aKt (s o : ByteArray) (σ : Option Nat) : Option (At5 × Nat) := σ.bind fun p => if aQa s (whiteZ s p) [62] = true then none else if whiteZ s p = p then none else attZ s o (whiteZ s p)
def aWo (s o : ByteArray) (σ : Option Nat) : Option Nat := σ.bind fun p => if aQa s (whiteZ s p) [62] = true then some (whiteZ s p) else if whiteZ s p = p then none else (attZ s o (whiteZ s p)).map (·.2)
def outA (d : Dt) (Z : Option (At5 × Nat)) : Dt := match Z with | some r => addD d (.inr r.1) | none => d
theorem bWa (o : ByteArray) (h : Rd B w0 w k g s σ d) (hs : s.size ≤ 1048576) (hstop : ∀ p, σ = some p → s.size ≤ whiteZ s p ∨ aQ1 s (whiteZ s p) = 62) :
 Calls prog 120 #[.pointer (some ⟨k, 0, none⟩), .string o] w fun e w' => e = .returned (.bool (aKt s o σ).isSome) ∧ Rd B w0 w' k g s (aWo s o σ) (outA d (aKt s o σ)) := by
 have H0 := aQ0 h
 obtain ⟨ve, va, hb0, _, _⟩ := h.box
 obtain ⟨r0, r1, r2, rf1, rf2⟩ := aZs hb0
 have hwh := aYn h.st hs
 clear h hb0 r1 r2 rf1 rf2
 go_enter func120, ntmps120
 go_wp2_with fail
 refine hwh.mono ?_
 rintro e w1 ⟨b1, rfl, hs1, hb1, hg1⟩
 have H1 := aQ0 (H0.out.step hs1 hg1)
 clear hwh hs1 hg1 H0 r0
 have hok := aW9 H1.out.st
 have HST := aQ0 hstop
 clear hstop
 cases σ with
 | none =>
  simp only [Option.map_none, Option.isSome_none] at hok
  go_wp2_with fail
  go_quiet ((go_at_call 83; exact Calls.quiet_of_same (hok _ rfl)))
  go_wp2
  go_ret
  exact ⟨rfl, H1.out.keep (aQs _ nq none)⟩
 | some p =>
  simp only [Option.map_some, Option.isSome_some] at hok H1
  have hbe := hb1 p rfl
  obtain ⟨q, hq⟩ := nmE (whiteZ s p)
  rw [hq] at H1 hbe
  have hqs : q ≤ s.size := H1.out.st.1
  have HQ := aQ0 hq
  clear hb1 hq
  by_cases he : s.size ≤ q
  · have hen := fun W' hW => cYw H1.out.st.2 (show q ≤ _ by omega) W' hW
    simp only [decide_eq_true he, aZb (x := ⟨q, 0⟩) (s := s) he rfl] at hen
    have hO : Hid (aKt s o (some p) = none ∧ aWo s o (some p) = none) := by
     show aKt s o (some p) = none ∧ aWo s o (some p) = none
     unfold aKt aWo
     have hno : ¬ aQa s q [62] = true := by rw [bKy he]; simp
     rw [Option.bind_some, Option.bind_some, HQ.out, if_neg hno, if_neg hno]
     by_cases hqp : q = p
     · rw [if_pos hqp, if_pos hqp]; exact ⟨rfl, rfl⟩
     · rw [if_neg hqp, if_neg hqp]
       have : attZ s o q = none := by
        unfold attZ
        rw [bY8 (by rw [Plain15.dVg he]; omega)]; rfl
       rw [this]; exact ⟨rfl, rfl⟩
    go_wp2_with fail
    refine wp_region_any (by kernel_rfl) ?_
    change wpAny _ _ _ _ _ _ _ (World.drew _)
    refine aQh (i := 0) (v := .pointer (some ⟨g, 0, none⟩)) rfl rfl (by kernel_rfl) (by kernel_rfl) (by kernel_rfl) (fun _ _ _ h => h) (Or.inl ⟨by rfl, fun wx => by go_simp⟩) ?_
    refine wpAny_ready (rs := [1]) (by kernel_rfl) (by simp) ?_
    refine AllReady.cons rfl (fun K hK => ?_) AllReady.nil
    go_simp
    refine (hok w1.drew rfl).mono ?_
    rintro e wo ⟨rfl, hww⟩
    subst hww
    refine hK _ _ ?_
    clear hK K
    refine aQh (i := 2) (v := .bool false) rfl rfl (by kernel_rfl) (by kernel_rfl) (by kernel_rfl) (fun _ _ _ h => h) (Or.inl ⟨by rfl, fun wx => by go_simp⟩) ?_
    refine aQh (i := 3) (v := .bool false) rfl rfl (by kernel_rfl) (by kernel_rfl) (by kernel_rfl) (fun _ _ _ h => h) (Or.inl ⟨by rfl, fun wx => by go_simp⟩) ?_
    refine aQh (i := 4) (v := .pointer (some ⟨g, 0, none⟩)) rfl rfl (by kernel_rfl) (by kernel_rfl) (by kernel_rfl) (fun _ _ _ h => h) (Or.inl ⟨by kernel_rfl, fun wx => by go_simp⟩) ?_
    refine wpAny_ready (rs := [5]) (by kernel_rfl) (by simp) ?_
    refine AllReady.cons rfl (fun K hK => ?_) AllReady.nil
    go_simp
    refine (hen w1.drew rfl).mono ?_
    rintro e w4 ⟨rfl, hb4, hg4⟩
    refine hK _ _ ?_
    clear hK K
    refine aQh (i := 6) (v := .bool true) rfl rfl (by kernel_rfl) (by kernel_rfl) (by kernel_rfl) (fun _ _ _ h => h) (Or.inl ⟨by rfl, fun wx => by go_simp⟩) ?_
    refine aQh (i := 7) (v := .bool true) rfl rfl (by kernel_rfl) (by kernel_rfl) (by kernel_rfl) (fun _ _ _ h => h) (Or.inl ⟨by rfl, fun wx => by go_simp⟩) ?_
    refine aQh (i := 8) (v := undef) rfl rfl (by kernel_rfl) (by kernel_rfl) (by kernel_rfl) (fun _ _ _ h => h) (Or.inr ⟨by kernel_rfl, rfl⟩) ?_
    refine aQh (i := 9) (v := undef) rfl rfl (by kernel_rfl) (by kernel_rfl) (by kernel_rfl) (fun _ _ _ h => h) (Or.inr ⟨by kernel_rfl, rfl⟩) ?_
    refine aQh (i := 10) (v := undef) rfl rfl (by kernel_rfl) (by kernel_rfl) (by kernel_rfl) (fun _ _ _ h => h) (Or.inr ⟨by kernel_rfl, rfl⟩) ?_
    refine aQh (i := 11) (v := undef) rfl rfl (by kernel_rfl) (by kernel_rfl) (by kernel_rfl) (fun _ _ _ h => h) (Or.inr ⟨by kernel_rfl, rfl⟩) ?_
    refine aQh (i := 12) (v := undef) rfl rfl (by kernel_rfl) (by kernel_rfl) (by kernel_rfl) (fun _ _ _ h => h) (Or.inr ⟨by kernel_rfl, rfl⟩) ?_
    refine aQh (i := 13) (v := undef) rfl rfl (by kernel_rfl) (by kernel_rfl) (by kernel_rfl) (fun _ _ _ h => h) (Or.inr ⟨by kernel_rfl, rfl⟩) ?_
    refine aQh (i := 14) (v := undef) rfl rfl (by kernel_rfl) (by kernel_rfl) (by kernel_rfl) (fun _ _ _ h => h) (Or.inr ⟨by kernel_rfl, rfl⟩) ?_
    refine aQh (i := 15) (v := undef) rfl rfl (by kernel_rfl) (by kernel_rfl) (by kernel_rfl) (fun _ _ _ h => h) (Or.inr ⟨by kernel_rfl, rfl⟩) ?_
    refine aQh (i := 16) (v := undef) rfl rfl (by kernel_rfl) (by kernel_rfl) (by kernel_rfl) (fun _ _ _ h => h) (Or.inr ⟨by kernel_rfl, rfl⟩) ?_
    refine aQh (i := 17) (v := undef) rfl rfl (by kernel_rfl) (by kernel_rfl) (by kernel_rfl) (fun _ _ _ h => h) (Or.inr ⟨by kernel_rfl, rfl⟩) ?_
    refine aQh (i := 18) (v := .bool true) rfl rfl (by kernel_rfl) (by kernel_rfl) (by kernel_rfl) (fun _ _ _ h => h) (Or.inl ⟨by kernel_rfl, fun wx => by go_simp⟩) ?_
    refine wpAny_done (by kernel_rfl) ?_ _
    go_simp
    have H4 := aQ0 (H1.out.step (σ' := none) (bZ2 hb4 (by simp) hqs) (aQ6 (b := w1.drew) ⟨rfl, rfl, rfl, Nat.le_refl _, fun _ _ _ => rfl⟩ hg4))
    clear hen hok H1 hb4 hg4
    go_wp2
    go_ret
    rw [hO.out.1, hO.out.2]
    exact ⟨rfl, H4.out⟩
  · have hlt : q < s.size := by omega
    have hen := fun W' hW => cJi H1.out.st.2 (show q < s.size by omega) W' hW
    obtain ⟨c, hcb⟩ := nmE (aQ1 s q)
    have hix : ∀ wx, (Instr.index 9 (.string s) (.int .i64 (q : Int))).run prog wx = .ok (.int .u8 c) wx := fun wx => by rw [aQ8 wx 9 s q hlt underlying9, hcb]
    obtain ⟨c0, c1, c2, c3, c4, f1, f2, f3, f4⟩ := aXi H1.out.st.2
    have h62 := aZ3 hlt 62
    rw [hcb] at h62
    have h62c : c = 62 := by
     rcases HST.out p rfl with hx | hx
     · rw [HQ.out] at hx; omega
     · rw [HQ.out, hcb] at hx; exact hx
    subst h62c
    have hh : aQa s q [62] = true := by rw [h62]; rfl
    have hO : Hid (aKt s o (some p) = none ∧ aWo s o (some p) = some q) := by
     show aKt s o (some p) = none ∧ aWo s o (some p) = some q
     unfold aKt aWo
     rw [Option.bind_some, Option.bind_some, HQ.out, if_pos hh, if_pos hh]; exact ⟨rfl, rfl⟩
    clear hh h62 hcb
    go_wp2_with fail
    go_quiet (first | (go_at_call 83; exact Calls.quiet_of_same (hok _ rfl)) | (go_at_call 84; exact Calls.quiet_of (hen _ rfl)))
    go_wp2
    go_ret
    rw [hO.out.1, hO.out.2]
    exact ⟨rfl, H1.out.keep (aQs _ nq none)⟩
open Go.RowKit Strs Ents Plain9 Plain10 Plain11 Plain23 Go.Lib
variable {B : Nat} {w W W' : World} {k g : Nat} {s : ByteArray} {σ σ' : Option Nat} {d : Dt} {E : Nat} {w0 : World} {a : At5}
theorem bWm (h : aZc W g s σ) : ∃ bd : Bool, W.cell? ⟨g, 3, none⟩ = some (.bool bd) ∧ W.frozen? ⟨g, 3, none⟩ = false ∧ aZc (W.setCell ⟨g, 3, none⟩ (.bool true)) g s none := by
 cases σ with
 | some p =>
  obtain ⟨h1, h2, h3, _⟩ := bZa h
  exact ⟨false, h1, h2, h3⟩
 | none =>
  obtain ⟨p, sh, bd, th, hp, hf, hb⟩ := h
  obtain ⟨c0, c1, c2, c3, f1, f3⟩ := bJv hb
  exact ⟨bd, c3, f3, p, sh, true, th, hp, by simp, set5 hb 3 _⟩
theorem cXi (what : ByteArray) (sg : List UInt8) (h : aZc W g s none) (hsg : what.data.toList = sg) (h0 : sg ≠ []) (hs : s.size ≤ 1048576) (hw : what.size ≤ 1048576) :
 Calls prog 113 #[.pointer (some ⟨g, 0, none⟩), .string what] W fun e w' => e = .returned (.bool false) ∧ aZc w' g s none ∧ W.grownBy w' (some g) := dVu h what sg hsg h0 hs hw
theorem bXx (what : ByteArray) (sg : List UInt8) {p : Nat} (h : aZc W g s (some p)) (hsg : what.data.toList = sg) (h0 : sg ≠ []) (hs : s.size ≤ 1048576) (hw : what.size ≤ 1048576) (hh : aQa s p sg = true) :
 Calls prog 113 #[.pointer (some ⟨g, 0, none⟩), .string what] W fun e w' => e = .returned (.bool true) ∧ aZc w' g s (some (p + sg.length)) ∧ W.grownBy w' (some g) := by
 have := dVu h what sg hsg h0 hs hw
 simp only [isB, isS, Option.map_some, hh, if_true] at this
 exact this
theorem bYn (what : ByteArray) (sg : List UInt8) {p : Nat} (h : aZc W g s (some p)) (hsg : what.data.toList = sg) (h0 : sg ≠ []) (hs : s.size ≤ 1048576) (hw : what.size ≤ 1048576) (hh : aQa s p sg = false) :
 Calls prog 113 #[.pointer (some ⟨g, 0, none⟩), .string what] W fun e w' => e = .returned (.bool false) ∧ aZc w' g s (some p) ∧ W.grownBy w' (some g) := by
 have := dVu h what sg hsg h0 hs hw
 simp only [isB, isS, Option.map_some, hh, Bool.false_eq_true, if_false] at this
 exact this
theorem dQp {o nm kd : ByteArray} {σ0 : Option Nat} (hnm : ∀ v, σ0.bind (aJ6 s) = some v → nm = v.1) (hkd : ∀ v, (((σ0.bind (aJ6 s)).map (·.2)).bind (gapO s)).bind (aJ6 s) = some v → kd = v.1) :
 σ0.bind (attZ s o) = (((((((σ0.bind (aJ6 s)).map (·.2)).bind (gapO s)).bind (aJ6 s)).map (·.2)).bind (gapO s)).bind fun x => (bVi kd).map fun wd => (wd, x)).bind fun y => (defZ s y.2).map fun dd => (⟨o, nm, y.1, dd.1, dd.2.1⟩, dd.2.2) := by
 cases σ0 with
 | none => rfl
 | some p =>
  simp only [Option.bind_some] at hnm hkd ⊢
  unfold attZ
  cases h1 : aJ6 s p with
  | none => rfl
  | some n =>
   obtain rfl := hnm n h1
   rw [h1] at hkd
   simp only [Option.map_some, Option.bind_some] at hkd ⊢
   cases h2 : gapO s n.2 with
   | none => rfl
   | some a =>
    rw [h2] at hkd
    simp only [Option.bind_some] at hkd ⊢
    cases h3 : aJ6 s a with
    | none => rfl
    | some kk =>
     obtain rfl := hkd kk h3
     simp only [Option.map_some, Option.bind_some]
     cases h4 : bVi kk.1 with
     | none => cases gapO s kk.2 <;> rfl
     | some wd =>
      simp only [Option.bind_some, Option.map_some]
      cases h5 : gapO s kk.2 with
      | none => rfl
      | some b =>
       simp only [Option.bind_some]
       cases defZ s b <;> rfl
theorem def_go (o : ByteArray) (p q : Nat) (h : Rd B w0 w k g s (some p) d) (hs : s.size ≤ 1048576) (hd : d.atts.length ≤ 1000000) (ho : o.size ≤ 4000) (hq : whiteZ s p = q) (hlt : q < s.size) (h62 : aQ1 s q ≠ 62) :
 Calls prog 120 #[.pointer (some ⟨k, 0, none⟩), .string o] w fun e w' => e = .returned (.bool (aKt s o (some p)).isSome) ∧ Rd B w0 w' k g s (aWo s o (some p)) (outA d (aKt s o (some p))) := by
 have H0 := aQ0 h
 obtain ⟨ve, va, hb0, _, _⟩ := h.box
 obtain ⟨r0, r1, r2, rf1, rf2⟩ := aZs hb0
 have hwh := aYn h.st hs
 have hqp : p ≤ q := by rw [← hq]; exact aXj s p
 have hstep : aKt s o (some p) = (if p < q then some q else none).bind (attZ s o) ∧ aWo s o (some p) = ((if p < q then some q else none).bind (attZ s o)).map (·.2) := by
  have hno : ¬ aQa s q [62] = true := by
   rw [aZ3 hlt]; simp only [decide_eq_true_eq]; exact h62
  unfold aKt aWo
  rw [Option.bind_some, Option.bind_some, hq, if_neg hno, if_neg hno]
  by_cases hpq : p < q
  · rw [if_pos hpq, if_neg (by omega), if_neg (by omega)]; exact ⟨rfl, rfl⟩
  · rw [if_neg hpq, if_pos (by omega), if_pos (by omega)]; exact ⟨rfl, rfl⟩
 obtain ⟨O, hOe⟩ := nmE (aKt s o (some p))
 obtain ⟨S, hSe⟩ := nmE (aWo s o (some p))
 rw [hOe, hSe] at hstep ⊢
 have HSTEP := aQ0 hstep
 clear h hb0 r1 r2 rf1 rf2 hstep hOe hSe
 go_enter func120, ntmps120
 go_wp2_with fail
 refine hwh.mono ?_
 rintro e w1 ⟨b1, rfl, hs1, hb1, hg1⟩
 have hbe := hb1 p rfl
 have H1 : Hid (Rd B w0 w1 k g s (some q) d) := by rw [← hq]; exact aQ0 (H0.out.step hs1 hg1)
 rw [hq] at hbe
 have HQ := aQ0 hq
 clear hwh hs1 hg1 H0 r0 hb1 hq
 have hok := aW9 H1.out.st
 simp only [Option.isSome_some] at hok
 have hen := fun W' hW => cJi H1.out.st.2 (show q < s.size by omega) W' hW
 obtain ⟨c, hcb⟩ := nmE (aQ1 s q)
 have hix : ∀ wx, (Instr.index 9 (.string s) (.int .i64 (q : Int))).run prog wx = .ok (.int .u8 c) wx := fun wx => by rw [aQ8 wx 9 s q hlt underlying9, hcb]
 rw [hcb] at h62
 have h62b : (c == 62) = false := by simpa using h62
 obtain ⟨c0, c1, c2, c3, c4, f1, f2, f3, f4⟩ := aXi H1.out.st.2
 clear h62 hcb
 go_wp2_with fail
 go_quiet (first | (go_at_call 83; exact Calls.quiet_of_same (hok _ rfl)) | (go_at_call 84; exact Calls.quiet_of (hen _ rfl)))
 go_upto_region 5 with fail
 go_cut [] (fun wc => ∃ σ0, Rd B w0 wc k g s σ0 d ∧ O = σ0.bind (attZ s o) ∧ S = (σ0.bind (attZ s o)).map (·.2))
 case first =>
  obtain ⟨d1, d2, hbad, hgood⟩ := bZa (W := w1.drewN nq) (p := q) (bKn H1.out.st rfl)
  have H2 := aQ0 (H1.out.keep (aQs w1 nq none))
  by_cases hpq : p < q
  · rw [decide_eq_true hpq] at hbe
    subst hbe
    go_wp2_with fail
    go_meet
    refine ⟨some q, H2.out.step hgood (aX9 _), ?_⟩
    have := HSTEP.out
    rw [if_pos hpq] at this; exact this
  · rw [decide_eq_false hpq] at hbe
    subst hbe
    go_wp2_with fail
    go_meet
    refine ⟨none, H2.out.step hbad (aX9 _), ?_⟩
    have := HSTEP.out
    rw [if_neg hpq] at this; exact this
 case rest =>
 obtain ⟨σ0, H5', hO, hS⟩ := hcut
 have H5 := aQ0 H5'
 have HO := aQ0 hO
 have HS := aQ0 hS
 clear H5' hO hS H1 hok hen hix c0 c1 c2 c3 c4 f1 f2 f3 f4 h62b HSTEP hbe
 have hname := bJc H5.out.st hs
 go_wp2_with fail
 refine hname.mono ?_
 rintro e w6 ⟨nm, rfl, hs6, hT6, hg6⟩
 have H6a := aQ0 (H5.out.step hs6 hg6)
 have H6 := aQ0 (H6a.out.alloc (.cells (aY4 ⟨o, nm, false, false, ⟨#[]⟩⟩) 146))
 have A6 := aQ0 (AB.make H6a.out ⟨o, nm, false, false, ⟨#[]⟩⟩)
 have HB6 : Hid (B ≤ w6.heap.size) := aQ0 H6a.out.sz
 have HT6 := aQ0 hT6
 clear hname hs6 hg6 hT6 H5 H6a
 have hgap := bZ0 H6.out.st hs
 go_wp2_with fail
 refine hgap.mono ?_
 rintro e w7 ⟨rfl, hs7, hg7⟩
 have H7 := aQ0 (H6.out.step hs7 hg7)
 have A7 := aQ0 (A6.out.step H6.out hg7)
 clear hgap hs7 hg7 H6 A6
 have hname := bJc H7.out.st hs
 go_wp2_with fail
 refine hname.mono ?_
 rintro e w8 ⟨kd, rfl, hs8, hT8, hg8⟩
 have H8 := aQ0 (H7.out.step hs8 hg8)
 have A8 := aQ0 (A7.out.step H7.out hg8)
 have HT8 := aQ0 hT8
 clear hname hs8 hg8 hT8 H7 A7
 have hgap := bZ0 H8.out.st hs
 go_wp2_with fail
 refine hgap.mono ?_
 rintro e w9 ⟨rfl, hs9, hg9⟩
 have H9 := aQ0 (H8.out.step hs9 hg9)
 have A9 := aQ0 (A8.out.step H8.out hg9)
 clear hgap hs9 hg9 H8 A8
 obtain ⟨σ9, hσ9⟩ := nmE ((((((σ0.bind (aJ6 s)).map (·.2)).bind (gapO s)).bind (aJ6 s)).map (·.2)).bind (gapO s))
 rw [hσ9] at H9
 have HS9 := aQ0 hσ9
 clear hσ9
 rename_i K1 hK1 K0 hK0
 refine hK0 _ _ (hK1 _ _ ?_)
 refine wp_seq_k fun K hK => ?_
 clear hK0 hK1 K0 K1
 go_cut [] (fun wc => ∃ (wd : Bool) (σ10 : Option Nat), Rd B w0 wc k g s σ10 d ∧ AB wc k g w6.heap.size ⟨o, nm, wd, false, ⟨#[]⟩⟩ ∧ σ10 = (σ9.bind fun x => (bVi kd).map fun _ => x) ∧ ∀ b, bVi kd = some b → wd = b)
 case first =>
  obtain ⟨a0, a1, a2, a3, a4, af2, af3, af4⟩ := bVd A9.out.box
  cases hk : bVi kd with
  | some wd =>
   have hks : (wd = false ∧ kd = ⟨#[67, 68, 65, 84, 65]⟩) ∨ (wd = true ∧ (kd = ⟨#[73, 68]⟩ ∨ kd = ⟨#[73, 68, 82, 69, 70]⟩ ∨ kd = ⟨#[78, 77, 84, 79, 75, 69, 78]⟩ ∨ kd = ⟨#[78, 77, 84, 79, 75, 69, 78, 83]⟩)) := by
    unfold bVi at hk
    split at hk
    · rename_i e; exact .inl ⟨(Option.some.inj hk).symm, Plain25.bZ3 e⟩
    split at hk
    · rename_i e
      exact .inr ⟨(Option.some.inj hk).symm, e.imp (fun e => Plain25.bZ3 e) (fun e => e.imp (fun e => Plain25.bZ3 e) (fun e => e.imp (fun e => Plain25.bZ3 e) (fun e => Plain25.bZ3 e)))⟩
    · cases hk
   have HK := aQ0 hk
   clear hk
   rcases hks with ⟨rfl, rfl⟩ | ⟨rfl, rfl | rfl | rfl | rfl⟩
   · go_wp2_with fail
     go_meet
     refine ⟨false, σ9, H9.out, A9.out, ?_, fun b hb => Option.some.inj hb⟩
     cases σ9 <;> rfl
   all_goals
    obtain ⟨H10, A10⟩ := H9.out.astore A9.out HB6.out (cQp ⟨o, nm, false, false, ⟨#[]⟩⟩)
    go_wp2_with fail
    go_meet
    refine ⟨true, σ9, H10, A10, ?_, fun b hb => Option.some.inj hb⟩
    cases σ9 <;> rfl
  | none =>
   have hks : kd.toList ≠ [67, 68, 65, 84, 65] ∧ kd.toList ≠ [73, 68] ∧ kd.toList ≠ [73, 68, 82, 69, 70] ∧ kd.toList ≠ [78, 77, 84, 79, 75, 69, 78] ∧ kd.toList ≠ [78, 77, 84, 79, 75, 69, 78, 83] := by
    unfold bVi at hk
    split at hk
    · cases hk
    · rename_i e1
      split at hk
      · cases hk
      · rename_i e2
        rw [ByteArray.toList_eq]
        exact ⟨e1, fun e => e2 (.inl e), fun e => e2 (.inr (.inl e)), fun e => e2 (.inr (.inr (.inl e))), fun e => e2 (.inr (.inr (.inr e)))⟩
   have k1 : (kd.toList == [67, 68, 65, 84, 65]) = false := beq_eq_false_iff_ne.2 hks.1
   have k2 : (kd.toList == [73, 68]) = false := beq_eq_false_iff_ne.2 hks.2.1
   have k3 : (kd.toList == [73, 68, 82, 69, 70]) = false := beq_eq_false_iff_ne.2 hks.2.2.1
   have k4 : (kd.toList == [78, 77, 84, 79, 75, 69, 78]) = false := beq_eq_false_iff_ne.2 hks.2.2.2.1
   have k5 : (kd.toList == [78, 77, 84, 79, 75, 69, 78, 83]) = false := beq_eq_false_iff_ne.2 hks.2.2.2.2
   have HK := aQ0 hk
   clear hk hks
   obtain ⟨bd, d1, d2, hbad⟩ := bWm H9.out.st
   have H10 := aQ0 (H9.out.step hbad (aX9 _))
   have A10 := aQ0 (A9.out.step H9.out (aX9 (j := 3) (.bool true)))
   clear hbad
   go_wp2_with fail
   go_meet
   exact ⟨false, none, H10.out, A10.out, by rw [HK.out]; cases σ9 <;> rfl, fun b hb => (by rw [HK.out] at hb; cases hb)⟩
 case rest =>
 obtain ⟨wd, σ10, H10', A10', hσ10, hwd⟩ := hcut
 have H10 := aQ0 H10'
 have A10 := aQ0 A10'
 have HS10 := aQ0 hσ10
 have HWD := aQ0 hwd
 clear H10' A10' hσ10 hwd H9 A9
 refine hK _ _ ?_
 clear hK K
 refine wp_seq_k fun K hK => ?_
 go_cut [] (fun wc => ∃ (a2 : At5) (σ11 : Option Nat), Rd B w0 wc k g s σ11 d ∧ AB wc k g w6.heap.size a2 ∧ a2.of = o ∧ a2.nm = nm ∧ σ11 = (σ10.bind (defZ s)).map (·.2.2) ∧ ∀ r, σ10.bind (defZ s) = some r → a2 = ⟨o, nm, wd, r.1, r.2.1⟩)
 case first =>
  cases σ10 with
  | none =>
   have hi1 := cXi ⟨#[35, 82, 69, 81, 85, 73, 82, 69, 68]⟩ reqL H10.out.st rfl (by simp [reqL]) hs (by decide)
   go_wp2_with fail
   refine hi1.mono ?_
   rintro e v1 ⟨rfl, hs1, hg1⟩
   have H11 := aQ0 (H10.out.step hs1 hg1)
   have A11 := aQ0 (A10.out.step H10.out hg1)
   clear hi1 hs1 hg1 H10 A10
   have hi1 := cXi ⟨#[35, 73, 77, 80, 76, 73, 69, 68]⟩ impL H11.out.st rfl (by simp [impL]) hs (by decide)
   go_wp2_with fail
   refine hi1.mono ?_
   rintro e v2 ⟨rfl, hs1, hg1⟩
   have H12 := aQ0 (H11.out.step hs1 hg1)
   have A12 := aQ0 (A11.out.step H11.out hg1)
   clear hi1 hs1 hg1 H11 A11
   have hi1 := cXi ⟨#[35, 70, 73, 88, 69, 68]⟩ fixL H12.out.st rfl (by simp [fixL]) hs (by decide)
   go_wp2_with fail
   refine hi1.mono ?_
   rintro e v3 ⟨rfl, hs1, hg1⟩
   have H13 := aQ0 (H12.out.step hs1 hg1)
   have A13 := aQ0 (A12.out.step H12.out hg1)
   clear hi1 hs1 hg1 H12 A12
   obtain ⟨a0, a1, a2, a3, a4, af2, af3, af4⟩ := bVd A13.out.box
   obtain ⟨H14', A14'⟩ := H13.out.astore A13.out HB6.out (bZq ⟨o, nm, wd, false, ⟨#[]⟩⟩)
   have H14 := aQ0 H14'
   have A14 := aQ0 A14'
   clear H14' A14' H13 A13
   have hva := bKj H14.out.st hs
   go_wp2_with fail
   refine hva.mono ?_
   rintro e v4 ⟨t4, rfl, hs1, _, hg1⟩
   have H15 := aQ0 (H14.out.step hs1 hg1)
   have A15 := aQ0 (A14.out.step H14.out hg1)
   clear hva hs1 hg1 H14 A14 a0 a1 a2 a3 a4 af2 af3 af4
   obtain ⟨a0, a1, a2, a3, a4, af2, af3, af4⟩ := bVd A15.out.box
   obtain ⟨H16', A16'⟩ := H15.out.astore A15.out HB6.out (bZp _ t4)
   have H16 := aQ0 H16'
   have A16 := aQ0 A16'
   clear H16' A16'
   go_wp2_with fail
   go_meet
   exact ⟨_, none, H16.out, A16.out, rfl, rfl, rfl, fun r hr => (by cases hr)⟩
  | some b =>
   cases hreq : aQa s b reqL with
   | true =>
    have HD : Hid (defZ s b = some (false, ⟨#[]⟩, b + 9)) := aQ0 (by unfold defZ; rw [if_pos hreq])
    have hi1 := bXx ⟨#[35, 82, 69, 81, 85, 73, 82, 69, 68]⟩ reqL H10.out.st rfl (by simp [reqL]) hs (by decide) hreq
    go_wp2_with fail
    refine hi1.mono ?_
    rintro e v1 ⟨rfl, hs1, hg1⟩
    have H11 := aQ0 (H10.out.step hs1 hg1)
    have A11 := aQ0 (A10.out.step H10.out hg1)
    clear hi1 hs1 hg1 H10 A10
    clear hreq
    go_wp2_with fail
    go_meet
    exact ⟨_, _, H11.out, A11.out, rfl, rfl, by rw [Option.bind_some, HD.out]; rfl, fun r hr => (by rw [Option.bind_some, HD.out] at hr; cases hr; rfl)⟩
   | false =>
    have hi1 := bYn ⟨#[35, 82, 69, 81, 85, 73, 82, 69, 68]⟩ reqL H10.out.st rfl (by simp [reqL]) hs (by decide) hreq
    go_wp2_with fail
    refine hi1.mono ?_
    rintro e v1 ⟨rfl, hs1, hg1⟩
    have H11 := aQ0 (H10.out.step hs1 hg1)
    have A11 := aQ0 (A10.out.step H10.out hg1)
    clear hi1 hs1 hg1 H10 A10
    cases himp : aQa s b impL with
    | true =>
     have HD : Hid (defZ s b = some (false, ⟨#[]⟩, b + 8)) := aQ0 (by unfold defZ; rw [if_neg (by rw [hreq]; simp), if_pos himp])
     have hi1 := bXx ⟨#[35, 73, 77, 80, 76, 73, 69, 68]⟩ impL H11.out.st rfl (by simp [impL]) hs (by decide) himp
     go_wp2_with fail
     refine hi1.mono ?_
     rintro e v2 ⟨rfl, hs1, hg1⟩
     have H12 := aQ0 (H11.out.step hs1 hg1)
     have A12 := aQ0 (A11.out.step H11.out hg1)
     clear hi1 hs1 hg1 H11 A11
     clear hreq himp
     go_wp2_with fail
     go_meet
     exact ⟨_, _, H12.out, A12.out, rfl, rfl, by rw [Option.bind_some, HD.out]; rfl, fun r hr => (by rw [Option.bind_some, HD.out] at hr; cases hr; rfl)⟩
    | false =>
     have hi1 := bYn ⟨#[35, 73, 77, 80, 76, 73, 69, 68]⟩ impL H11.out.st rfl (by simp [impL]) hs (by decide) himp
     go_wp2_with fail
     refine hi1.mono ?_
     rintro e v2 ⟨rfl, hs1, hg1⟩
     have H12 := aQ0 (H11.out.step hs1 hg1)
     have A12 := aQ0 (A11.out.step H11.out hg1)
     clear hi1 hs1 hg1 H11 A11
     cases hfix : aQa s b fixL with
     | true =>
      have HD : Hid (defZ s b = (gapO s (b + 6)).bind fun a => (valO s a).bind fun v => some (true, v.1, v.2)) := aQ0 (by unfold defZ; rw [if_neg (by rw [hreq]; simp), if_neg (by rw [himp]; simp), if_pos hfix])
      have hi1 := bXx ⟨#[35, 70, 73, 88, 69, 68]⟩ fixL H12.out.st rfl (by simp [fixL]) hs (by decide) hfix
      go_wp2_with fail
      refine hi1.mono ?_
      rintro e v3 ⟨rfl, hs1, hg1⟩
      have H13a := aQ0 (H12.out.step hs1 hg1)
      have A13a := aQ0 (A12.out.step H12.out hg1)
      clear hi1 hs1 hg1 H12 A12
      clear hreq himp hfix
      have hgap := bZ0 H13a.out.st hs
      go_wp2_with fail
      refine hgap.mono ?_
      rintro e v5 ⟨rfl, hs5, hg5⟩
      have H13 := aQ0 (H13a.out.step hs5 hg5)
      have A13 := aQ0 (A13a.out.step H13a.out hg5)
      clear hgap hs5 hg5 H13a A13a
      obtain ⟨a0, a1, a2, a3, a4, af2, af3, af4⟩ := bVd A13.out.box
      obtain ⟨H14', A14'⟩ := H13.out.astore A13.out HB6.out (bZq ⟨o, nm, wd, false, ⟨#[]⟩⟩)
      have H14 := aQ0 H14'
      have A14 := aQ0 A14'
      clear H14' A14' H13 A13
      have hva := bKj H14.out.st hs
      go_wp2_with fail
      refine hva.mono ?_
      rintro e v4 ⟨t4, rfl, hs1, ht4, hg1⟩
      have H15 := aQ0 (H14.out.step hs1 hg1)
      have A15 := aQ0 (A14.out.step H14.out hg1)
      have HT4 := aQ0 ht4
      clear hva hs1 hg1 ht4 H14 A14 a0 a1 a2 a3 a4 af2 af3 af4
      obtain ⟨a0, a1, a2, a3, a4, af2, af3, af4⟩ := bVd A15.out.box
      obtain ⟨H16', A16'⟩ := H15.out.astore A15.out HB6.out (bZp _ t4)
      have H16 := aQ0 H16'
      have A16 := aQ0 A16'
      clear H16' A16'
      go_wp2_with fail
      go_meet
      refine ⟨_, _, H16.out, A16.out, rfl, rfl, ?_, fun r hr => ?_⟩
      · rw [show (some b).bind (defZ s) = defZ s b from rfl, HD.out]
        show Option.map _ ((gapO s (b + 6)).bind (valO s)) = _
        cases gapO s (b + 6) with
        | none => rfl
        | some x => simp only [Option.bind_some]; cases valO s x <;> rfl
      · rw [Option.bind_some, HD.out] at hr
        obtain ⟨x, hx, hr⟩ := Option.bind_eq_some_iff.1 hr
        obtain ⟨y, hy, hr⟩ := Option.bind_eq_some_iff.1 hr
        cases hr
        have := HT4.out y (by show ((gapO s (b + 6)).bind (valO s)) = some y; rw [hx]; exact hy)
        rw [this]
     | false =>
      have HD : Hid (defZ s b = (valO s b).bind fun v => some (true, v.1, v.2)) := aQ0 (by unfold defZ; rw [if_neg (by rw [hreq]; simp), if_neg (by rw [himp]; simp), if_neg (by rw [hfix]; simp)])
      have hi1 := bYn ⟨#[35, 70, 73, 88, 69, 68]⟩ fixL H12.out.st rfl (by simp [fixL]) hs (by decide) hfix
      go_wp2_with fail
      refine hi1.mono ?_
      rintro e v3 ⟨rfl, hs1, hg1⟩
      have H13 := aQ0 (H12.out.step hs1 hg1)
      have A13 := aQ0 (A12.out.step H12.out hg1)
      clear hi1 hs1 hg1 H12 A12
      clear hreq himp hfix
      obtain ⟨a0, a1, a2, a3, a4, af2, af3, af4⟩ := bVd A13.out.box
      obtain ⟨H14', A14'⟩ := H13.out.astore A13.out HB6.out (bZq ⟨o, nm, wd, false, ⟨#[]⟩⟩)
      have H14 := aQ0 H14'
      have A14 := aQ0 A14'
      clear H14' A14' H13 A13
      have hva := bKj H14.out.st hs
      go_wp2_with fail
      refine hva.mono ?_
      rintro e v4 ⟨t4, rfl, hs1, ht4, hg1⟩
      have H15 := aQ0 (H14.out.step hs1 hg1)
      have A15 := aQ0 (A14.out.step H14.out hg1)
      have HT4 := aQ0 ht4
      clear hva hs1 hg1 ht4 H14 A14 a0 a1 a2 a3 a4 af2 af3 af4
      obtain ⟨a0, a1, a2, a3, a4, af2, af3, af4⟩ := bVd A15.out.box
      obtain ⟨H16', A16'⟩ := H15.out.astore A15.out HB6.out (bZp _ t4)
      have H16 := aQ0 H16'
      have A16 := aQ0 A16'
      clear H16' A16'
      go_wp2_with fail
      go_meet
      refine ⟨_, _, H16.out, A16.out, rfl, rfl, ?_, fun r hr => ?_⟩
      · rw [show (some b).bind (defZ s) = defZ s b from rfl, HD.out]
        show Option.map _ (valO s b) = _
        cases valO s b <;> rfl
      · rw [Option.bind_some, HD.out] at hr
        obtain ⟨y, hy, hr⟩ := Option.bind_eq_some_iff.1 hr
        cases hr
        have := HT4.out y (by rw [Option.bind_some]; exact hy)
        rw [this]
 case rest =>
 obtain ⟨a2, σ11, H11', A11', hof, hnm, hσ11, ha2⟩ := hcut
 have H11 := aQ0 H11'
 have A11 := aQ0 A11'
 have HS11 := aQ0 hσ11
 have HA2 := aQ0 ha2
 have HOF := aQ0 hof
 have HNM := aQ0 hnm
 clear H11' A11' hσ11 ha2 H10 A10 hof hnm
 refine hK _ _ ?_
 clear hK K
 have hchain := dQp (s := s) (o := o) HT6.out HT8.out
 rw [HS9.out] at hchain
 have HCH := aQ0 hchain
 clear hchain
 have hok := aW9 H11.out.st
 cases σ11 with
 | none =>
  simp only [Option.isSome_none] at hok
  have hN : O = none := by
   rw [HO.out, HCH.out]
   have h1 := HS11.out.symm
   rw [Option.map_eq_none_iff, HS10.out] at h1
   cases σ9 with
   | none => rfl
   | some x =>
    cases hk : bVi kd with
    | none => rfl
    | some wd' =>
     rw [hk] at h1
     simp only [Option.bind_some, Option.map_some] at h1 ⊢
     rw [h1]; rfl
  have hNS : S = none := by rw [HS.out, ← HO.out, hN]; rfl
  subst hN hNS
  go_wp2_with fail
  go_quiet ((go_at_call 83; exact Calls.quiet_of_same (hok _ rfl)))
  go_wp2_with (go_at_call 83; refine (hok _ (by rfl)).mono ?_; rintro e wk ⟨rfl, rfl⟩)
  go_ret
  exact ⟨rfl, H11.out.keep (aQs _ nq none)⟩
 | some r =>
  simp only [Option.isSome_some] at hok
  obtain ⟨dd, hdd, hdr⟩ := Option.map_eq_some_iff.1 HS11.out.symm
  have hae := HA2.out dd hdd
  obtain ⟨y, hy, hyd⟩ := Option.bind_eq_some_iff.1 hdd
  rw [HS10.out] at hy
  obtain ⟨x, hx, hxk⟩ := Option.bind_eq_some_iff.1 hy
  obtain ⟨wd', hk, hxy⟩ := Option.map_eq_some_iff.1 hxk
  have hwd' := HWD.out wd' hk
  have hOs : O = some (a2, r) := by
   rw [HO.out, HCH.out, hx, Option.bind_some, hk, Option.map_some, Option.bind_some]
   simp only
   rw [hxy, hyd, Option.map_some, hae, hwd', hdr]
  have hSs : S = some r := by rw [HS.out, ← HO.out, hOs]; rfl
  have hns : 1 ≤ nm.size ∧ nm.size ≤ 4000 := by
   cases hR1 : σ0.bind (aJ6 s) with
   | none => have h9 := HS9.out; rw [hR1, hx] at h9; cases h9
   | some v =>
    rw [HT6.out v hR1]
    obtain ⟨p1, _, hp1⟩ := Option.bind_eq_some_iff.1 hR1
    obtain ⟨h1, h2, _⟩ := aZj hp1
    have hsp := aZx h1
    rw [h2]; unfold nmT
    rw [aXy (by simp only [nmP] at hsp; omega)]; omega
  subst hOs hSs
  clear hdd hdr hae hy hyd hx hxk hk hxy hwd'
  obtain ⟨ve', va', hbx, ho1, ho2⟩ := H11.out.box
  obtain ⟨ae, ce, rfl, _⟩ := aWx ho1
  obtain ⟨aa, ca, rfl, hAtts⟩ := aWz ho2
  obtain ⟨r0, r1, r2, rf1, rf2⟩ := aZs hbx
  obtain ⟨x0, x1, x2, x3, x4, xf2, xf3, xf4⟩ := bVd A11.out.box
  rw [← HNM.out] at hns
  have hkl := H11.out.kl
  have hatt := fun (W : World) (hW : W.heap = wc.heap) => bQs W ae aa d.ents.length ce d.atts.length ca d.atts o a2.nm rfl (by omega) (hAtts.keep (w' := W) (fun j _ => by rw [hW]))
  have HO2 := aQ0 ho2
  clear hAtts ho1 ho2
  obtain ⟨R, hR⟩ := nmE (attR d.atts o a2.nm)
  simp only [hR] at hatt
  have hfl := fun wx => fldA R wx
  cases hfd : (d.atts.find? (aV1 o a2.nm)).isSome with
  | true =>
   have hR1 := dQq ho hns.2 hns.1 hfd
   rw [hR] at hR1
   have HFD := aQ0 hfd
   clear hfd hR
   go_wp2_with fail
   go_region_held3 (fun W => W.cell? ⟨k, 1, none⟩ = some (.slice ae d.ents.length ce) ∧ W.cell? ⟨k, 2, none⟩ = some (.slice aa d.atts.length ca) ∧ W.cell? ⟨w6.heap.size, 1, none⟩ = some (.string a2.nm)) (go_keep) (first | (go_at_call 83; refine (hok _ (by rfl)).mono ?_; rintro e wk ⟨rfl, rfl⟩) | (go_at_call 110; refine (hatt _ (by rfl)).mono ?_; rintro e wz ⟨rfl, hgz⟩; have hbz := aZs (w := wz) (by unfold aZg; rw [hgz.block k hkl (by simp)]; exact hbx); have hez := bVd (W := wz) (a := a2) (by unfold ABox; rw [hgz.block w6.heap.size (gLt A11.out.box) (by simp)]; exact A11.out.box); obtain ⟨_, r1, r2, _, _⟩ := hbz; obtain ⟨x0, x1, _⟩ := hez))
   have hgz' : wc.grownBy wz none := ⟨hgz.os, hgz.tape, hgz.output, hgz.size, hgz.block⟩
   have H12 := aQ0 (H11.out.keep hgz')
   have hokz := cV5 H12.out.st
   simp only [Option.isSome_some] at hokz
   clear hgz hgz'
   go_wp2_with (go_at_call 83; refine hokz.mono ?_; rintro e wk ⟨rfl, hwk⟩; obtain rfl := hwk.symm)
   go_ret
   refine ⟨rfl, ?_⟩
   show Rd B w0 _ k g s (some r) (addD d (.inr a2))
   rw [show addD d (.inr a2) = d from if_pos (by rw [HOF.out]; exact HFD.out)]
   exact H12.out
  | false =>
   have hR1 := dQr ho hns.2 hfd
   rw [hR] at hR1
   have HFD := aQ0 hfd
   clear hfd hR
   rw [hR1] at hatt hfl
   simp only [zAtt] at hatt hfl
   go_wp2_with fail
   go_region_held3 (fun W => W.cell? ⟨k, 1, none⟩ = some (.slice ae d.ents.length ce) ∧ W.cell? ⟨k, 2, none⟩ = some (.slice aa d.atts.length ca) ∧ W.cell? ⟨w6.heap.size, 1, none⟩ = some (.string a2.nm)) (go_keep) (first | (go_at_call 83; refine (hok _ (by rfl)).mono ?_; rintro e wk ⟨rfl, rfl⟩) | (go_at_call 110; refine (hatt _ (by rfl)).mono ?_; rintro e wz ⟨rfl, hgz⟩; have hbz := aZs (w := wz) (by unfold aZg; rw [hgz.block k hkl (by simp)]; exact hbx); have hez := bVd (W := wz) (a := a2) (by unfold ABox; rw [hgz.block w6.heap.size (gLt A11.out.box) (by simp)]; exact A11.out.box); obtain ⟨_, r1, r2, _, _⟩ := hbz; obtain ⟨x0, x1, _⟩ := hez))
   have hgz' : wc.grownBy wz none := ⟨hgz.os, hgz.tape, hgz.output, hgz.size, hgz.block⟩
   have H12 := aQ0 (H11.out.keep hgz')
   have A12 := aQ0 (A11.out.grow H11.out hgz')
   have hbz2 : aZg wz k g (.slice ae d.ents.length ce) (.slice aa d.atts.length ca) := by unfold aZg; rw [hgz'.block k hkl (by simp)]; exact hbx
   have ho2z := bQv HO2.out hgz'
   have hklz := H12.out.kl
   obtain ⟨_, q1, q2, qf1, qf2⟩ := aZs hbz2
   obtain ⟨y0, y1, y2, y3, y4, _, _, _⟩ := bVd A12.out.box
   have hElz : w6.heap.size < wz.heap.size := (gLt A12.out.box)
   have q2a : (wz.alloc (.cells #[.string a2.of, .string a2.nm, .bool a2.words, .bool a2.has, .string a2.val] 146)).cell? ⟨k, 2, none⟩ = some (.slice aa d.atts.length ca) := (World.cell?_of_block (a := ⟨k, 2, none⟩) (heap_alloc_old _ _ hklz)).trans q2
   clear hgz hgz' hatt hok hbx H11 A11
   obtain ⟨i0, hi0, hz0, hz1, hz2⟩ := info_parts infoA
   have HRD := aQ0 (fun (wa : World) (v' : Value) (hoa : wa.ownsRow B 146 5 v' (d.atts.length + 1) (aJ8 d.atts ++ [.string a2.of, .string a2.nm, .bool a2.words, .bool a2.has, .string a2.val])) (hga : ((wz.drewN 1).alloc (.cells #[.string a2.of, .string a2.nm, .bool a2.words, .bool a2.has, .string a2.val] 146)).grownBy wa (Value.slice aa d.atts.length ca).ownBlock) => H12.out.appA hbz2 1 (.cells #[.string a2.of, .string a2.nm, .bool a2.words, .bool a2.has, .string a2.val] 146) (e := a2) hoa hga)
   have HROW : Hid ((wz.drew.alloc (.cells #[.string a2.of, .string a2.nm, .bool a2.words, .bool a2.has, .string a2.val] 146)).ownsRow B 146 5 (.slice aa d.atts.length ca) d.atts.length (aJ8 d.atts)) := aQ0 (ho2z.drew.alloc _)
   have hBz := H12.out.sz
   clear hbz2 ho2z H12 A12
   go_wp2_with fail
   go_region_law (refine aQn rfl (.tmp 106) (.tmp 108) 92 rfl B 146 i0 (.agg #[.string ByteArray.empty, .string ByteArray.empty, .bool false, .bool false, .string ByteArray.empty]) 5 56 underlying92 hi0 hz0 hz1 hz2 rfl (by decide) (.slice aa d.atts.length ca) d.atts.length (aJ8 d.atts) (by simp [Act.eval]) HROW.out ⟨wz.heap.size, 0, none⟩ 1 1 [.string a2.of, .string a2.nm, .bool a2.words, .bool a2.has, .string a2.val] (by simp [Act.eval]) rfl (bWf wz.drew _ _ _ _ _ _ wz.heap.size rfl) (by intro u hu; simp at hu; rcases hu with rfl | rfl | rfl | rfl | rfl <;> rfl) (by unfold maxLen; omega) (by omega) (by simp; omega) ?_; intro v' wa hoa hga; obtain ⟨hwa, gg, cap, rfl, hrd⟩ := HRD.out wa v' hoa hga; obtain ⟨r0, r1, r2, rf1, rf2⟩ := aZs hwa; replace hrd := aQ0 hrd; replace hwa := aQ0 hwa; clear hoa hga)
   all_goals
    have hokz := aW9 hrd.out.st
    simp only [Option.isSome_some] at hokz
    go_wp2_with (go_at_call 83; refine (hokz _ (by rfl)).mono ?_; rintro e wk ⟨rfl, rfl⟩)
    go_ret
    refine ⟨rfl, ?_⟩
    show Rd B w0 _ k g s (some r) (addD d (.inr a2))
    rw [show addD d (.inr a2) = ⟨d.ents, d.atts ++ [a2]⟩ from if_neg (by rw [HOF.out, HFD.out]; simp)]
    exact hrd.out
theorem dKd (o : ByteArray) (h : Rd B w0 w k g s σ d) (hs : s.size ≤ 1048576) (hd : d.atts.length ≤ 1000000) (ho : o.size ≤ 4000) :
 Calls prog 120 #[.pointer (some ⟨k, 0, none⟩), .string o] w fun e w' => e = .returned (.bool (aKt s o σ).isSome) ∧ Rd B w0 w' k g s (aWo s o σ) (outA d (aKt s o σ)) := by
 cases σ with
 | none => exact bWa o h hs (fun p hp => by cases hp)
 | some p =>
  by_cases hc : s.size ≤ whiteZ s p ∨ aQ1 s (whiteZ s p) = 62
  · exact bWa o h hs (fun q hq => by cases hq; exact hc)
  · exact def_go o p _ h hs hd ho rfl (by omega) (fun e => hc (.inr e))
end Go.Proofs.YtocnfoeaikiecaaGreatDoor
