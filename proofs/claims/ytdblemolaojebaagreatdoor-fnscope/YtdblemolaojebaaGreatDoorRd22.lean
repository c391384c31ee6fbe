import Derived.Test.YtdblemolaojebaaGreatDoorRaH
import Derived.Test.YtdblemolaojebaaGreatDoorPlM
set_option linter.unusedVariables false
set_option linter.unusedSectionVars false
namespace Go.Proofs.YtdblemolaojebaaGreatDoor
open Go.RowKit Lists Plain10 Plain11 Plain23 PlainR PlainM Go.Lib Ents
variable [Inhabited aJ5]
section
variable {f p : Nat} {E : Option ByteArray} {s : ByteArray} {cl : Bool} {st st1 : Rs} {T : Tk}
theorem bVz {c : Int} (h : aXt st s p cl = (st1, .error c)) : aZ3 (f + 1) E s p cl st = (st1, .error c) := by
 unfold aZ3; rw [h]
theorem cg_end (h : aXt st s p cl = (st1, .ok T)) (he : aJr E T = true) : aZ3 (f + 1) E s p cl st = (st1, .ok T.pos) := by
 unfold aZ3; rw [h]; simp only; rw [if_pos he]
theorem cg_el (h : aXt st s p cl = (st1, .ok T)) (he : aJr E T = false) (hk : T.kind = 1 ∨ T.kind = 3) : aZ3 (f + 1) E s p cl st = match aWa f s T cl st1 with | (a, .error c) => (a, .error c) | (a, .ok q) => aZ3 f E s q cl a := by
 conv => lhs; unfold aZ3
 rw [h]; simp only; rw [if_neg (by rw [he]; simp), if_pos hk]
 unfold aWa
 cases hs : aKd st1 T with
 | mk st2 oc =>
  cases oc with
  | some c => rfl
  | none =>
   simp only
   by_cases h1 : T.kind = 1
   · rw [if_pos h1, if_pos h1]
     cases hc : aZ3 f (some T.name) s T.pos cl { st2 with deep := st2.deep + 1 } with
     | mk st3 oc => cases oc <;> rfl
   · rw [if_neg h1, if_neg h1]
theorem cg_aside (h : aXt st s p cl = (st1, .ok T)) (he : aJr E T = false) (hk : T.kind = 6 ∨ T.kind = 7) : aZ3 (f + 1) E s p cl st = aZ3 f E s T.pos cl (bX0 st1 T) := by
 conv => lhs; unfold aZ3
 rw [h]; simp only; rw [if_neg (by rw [he]; simp), if_neg (by omega), if_pos hk]
theorem cg_text (h : aXt st s p cl = (st1, .ok T)) (he : aJr E T = false) (hk : T.kind = 4) : aZ3 (f + 1) E s p cl st = match aX5 false (entC f) (T.text.size + 1) T.text 0 (st1, []) with | (σ, some c) => (σ.1, .error c) | (σ, none) => aZ3 f E s T.pos cl σ.1 := by
 conv => lhs; unfold aZ3
 rw [h]; simp only; rw [if_neg (by rw [he]; simp), if_neg (by omega), if_neg (by omega), if_pos hk]
 rfl
theorem cg_cdata (h : aXt st s p cl = (st1, .ok T)) (he : aJr E T = false) (hk : T.kind = 5) : aZ3 (f + 1) E s p cl st = aZ3 f E s T.pos cl { st1 with txt := st1.txt ++ T.text.data.toList } := by
 conv => lhs; unfold aZ3
 rw [h]; simp only; rw [if_neg (by rw [he]; simp), if_neg (by omega), if_neg (by omega), if_neg (by omega), if_pos hk]
theorem cg_no (h : aXt st s p cl = (st1, .ok T)) (he : aJr E T = false) (h1 : T.kind ≠ 1) (h3 : T.kind ≠ 3) (h6 : T.kind ≠ 6) (h7 : T.kind ≠ 7) (h4 : T.kind ≠ 4) (h5 : T.kind ≠ 5) : aZ3 (f + 1) E s p cl st = (st1, .error 3) := by
 unfold aZ3
 rw [h]; simp only; rw [if_neg (by rw [he]; simp), if_neg (by omega), if_neg (by omega), if_neg h4, if_neg h5]
end
def pt (st : Rs) : Nat := st.txt.length + st.evs.length
structure StOk (k : Nat) (st st' : Rs) : Prop where
 dt : st'.dt = st.dt
 wi : st'.wi = st.wi
 deep : st'.deep = st.deep
 sp : st.spent ≤ st'.spent
 sp4 : st'.spent ≤ 4000
 pot : pt st' + 8 * (4000 - st'.spent) ≤ pt st + k + 8 * (4000 - st.spent)
theorem StOk.trans {k l : Nat} {a b c : Rs} (h1 : StOk k a b) (h2 : StOk l b c) : StOk (k + l) a c :=
 ⟨h2.dt.trans h1.dt, h2.wi.trans h1.wi, h2.deep.trans h1.deep, Nat.le_trans h1.sp h2.sp, h2.sp4, by have := h1.pot; have := h2.pot; omega⟩
theorem StOk.le {k l : Nat} {a b : Rs} (h : StOk k a b) (hl : k ≤ l) : StOk l a b := ⟨h.dt, h.wi, h.deep, h.sp, h.sp4, by have := h.pot; omega⟩
theorem at_ok {st : Rs} {p : Nat} (h : st.spent ≤ 4000) : StOk 0 st (atZ st p) := by
 unfold atZ
 split
 · exact ⟨rfl, rfl, rfl, Nat.le_refl _, h, Nat.le_refl _⟩
 · exact ⟨rfl, rfl, rfl, Nat.le_refl _, h, by omega⟩
theorem bX5 {st : Rs} {e : Ev} (h : st.spent ≤ 4000) : StOk 1 st (bX6 st e) := by
 refine ⟨rfl, rfl, rfl, Nat.le_refl _, h, ?_⟩
 unfold bX6 pt
 cases ht : st.txt with
 | nil => simp
 | cons x l => simp; omega
theorem bQc {st st2 : Rs} {T : Tk} (hD : DOk st.dt) (hs : st.spent ≤ 4000) (h : aKd st T = (st2, none)) : StOk 1 st st2 ∧ st.deep ≠ 30 := by
 unfold aKd at h
 by_cases hd : st.deep = 30
 · rw [if_pos hd] at h; cases h
 · rw [if_neg hd] at h
   cases hv : aKo (ownA st.dt T.name T.attrs ++ defA st.dt T.name T.attrs) st [] with
   | mk st1 oc =>
    rw [hv] at h
    cases oc with
    | error c => cases h
    | ok l =>
     simp only at h
     cases h
     have hvo := vals_ok _ _ _ _ _ hD hs hv
     have h1 : StOk 0 st st1 := ⟨hvo.dt, hvo.wi, hvo.alike.deep, hvo.sp, hvo.sp4, by have := hvo.sp; unfold pt; rw [hvo.alike.txt, hvo.alike.evs]; omega⟩
     exact ⟨(h1.trans (bX5 hvo.sp4)).le (by omega), hd⟩
structure aYa (s : ByteArray) (p q : Nat) (st st' : Rs) : Prop where
 st : StOk (8 * (q - p)) st st'
 pq : p ≤ q
 qs : q ≤ s.size
 vb : VB s q
theorem aYa.trans {s : ByteArray} {p q r : Nat} {a b c : Rs} (h1 : aYa s p q a b) (h2 : aYa s q r b c) : aYa s p r a c :=
 ⟨(h1.st.trans h2.st).le (by have := h1.pq; have := h2.pq; omega), Nat.le_trans h1.pq h2.pq, h2.qs, h2.vb⟩
def ConF (D : Dt) (f : Nat) : Prop := ∀ (E : Option ByteArray) (s : ByteArray) (p : Nat) (cl : Bool) (st st' : Rs) (q : Nat), VB s 0 → p ≤ s.size → VB s p → st.dt = D → st.spent ≤ 4000 → aZ3 f E s p cl st = (st', .ok q) → aYa s p q st st'
theorem entC_deep {D : Dt} {f : Nat} (h : ConF D f) {σ : Sg} {tx : ByteArray} (hd : σ.1.dt = D) (hs : σ.1.spent ≤ 4000) (hn : (entC f σ tx).2 = none) : bJ7 tx = true ∧ ∃ st3 q, aZ3 f none tx 0 true σ.1 = (st3, .ok q) ∧ entC f σ tx = ((st3, σ.2), none) ∧ aYa tx 0 q σ.1 st3 := by
 unfold entC at hn ⊢
 cases hm : bJ7 tx with
 | false => rw [hm, if_pos rfl] at hn; cases hn
 | true =>
  rw [hm, if_neg (by simp)] at hn
  have hvb : VB tx 0 := bK0 (of_decide_eq_true hm).1
  cases hc : aZ3 f none tx 0 true σ.1 with
  | mk st3 oc =>
   rw [hc] at hn
   cases oc with
   | error c => cases hn
   | ok q => exact ⟨rfl, st3, q, rfl, by rw [if_neg (by simp)], h none tx 0 true σ.1 st3 q hvb (Nat.zero_le _) hvb hd hs hc⟩
theorem entC_ok {D : Dt} {f : Nat} (h : ConF D f) : EnOk D (entC f) := ⟨fun σ tx hd hs hn => by
 obtain ⟨_, st3, q, _, he, hk⟩ := entC_deep h hd hs hn
 rw [he]
 have h1 := hk.st.pot
 have h2 := hk.qs
 have h3 := hk.pq
 refine ⟨hk.st.dt.trans hd, hk.st.wi, hk.st.sp, hk.st.sp4, ?_, hk.st.deep⟩
 unfold pot
 unfold pt at h1
 simp only
 omega⟩
theorem elem_ok {D : Dt} (hD : DOk D) {f : Nat} (h : ConF D f) {s : ByteArray} {p : Nat} {T : Tk} {cl : Bool} {st st' : Rs} {q : Nat} (h0 : VB s 0) (hT : TkOk s p T) (hd : st.dt = D) (hs : st.spent ≤ 4000) (he : aWa f s T cl st = (st', .ok q)) : aYa s p q st st' ∧ T.pos ≤ q := by
 have hlt := hT.lt
 cases hst : aKd st T with
 | mk st2 oc =>
  cases oc with
  | some c => unfold aWa at he; rw [hst] at he; cases he
  | none =>
   obtain ⟨h1, _⟩ := bQc (by rw [hd]; exact hD) hs hst
   by_cases hk : T.kind = 1
   · cases hc : aZ3 f (some T.name) s T.pos cl { st2 with deep := st2.deep + 1 } with
     | mk st3 oc =>
      cases oc with
      | error c => rw [el_bad hst hk hc] at he; cases he
      | ok q' =>
       rw [el_ok hst hk hc] at he
       cases he
       have h2 := h (some T.name) s T.pos cl { st2 with deep := st2.deep + 1 } st3 q h0 hT.sz hT.vb (h1.dt.trans hd) h1.sp4 hc
       have h3 : StOk (8 * (q - T.pos)) st2 { st3 with deep := st2.deep } := ⟨h2.st.dt, h2.st.wi, rfl, h2.st.sp, h2.st.sp4, h2.st.pot⟩
       have hpq := h2.pq
       exact ⟨⟨((h1.trans h3).trans (bX5 h3.sp4)).le (by omega), by omega, h2.qs, h2.vb⟩, h2.pq⟩
   · rw [el_no hst hk] at he
     cases he
     exact ⟨⟨(h1.trans (bX5 h1.sp4)).le (by omega), by omega, hT.sz, hT.vb⟩, Nat.le_refl _⟩
theorem aWr {D : Dt} (hD : DOk D) : ∀ f, ConF D f
 | 0 => fun E s p cl st st' q h0 hp hv hd hs h => by cases h
 | f + 1 => fun E s p cl st st' q h0 hp hv hd hs h => by
  have IH := aWr hD f
  cases hn : aXt st s p cl with
  | mk st1 oc =>
   cases oc with
   | error c => rw [bVz hn] at h; cases h
   | ok T =>
    obtain ⟨rfl, hT⟩ := aKg h0 hp hv hn
    have ha := at_ok (st := st) (p := p) hs
    have had : (atZ st p).dt = D := ha.dt.trans hd
    cases he : aJr E T with
    | true =>
     rw [cg_end hn he] at h
     cases h
     rcases hT with hT | ⟨rfl, rfl⟩
     · have := hT.lt
       exact ⟨ha.le (by omega), by omega, hT.sz, hT.vb⟩
     · exact ⟨ha.le (by omega), Nat.le_refl _, Nat.le_refl _, hv⟩
    | false =>
     rcases hT with hT | ⟨rfl, rfl⟩
     · have hlt := hT.lt
       have htx := hT.text
       by_cases hk : T.kind = 1 ∨ T.kind = 3
       · rw [cg_el hn he hk] at h
         cases hel : aWa f s T cl (atZ st p) with
         | mk a oc =>
          rw [hel] at h
          cases oc with
          | error c => cases h
          | ok q' =>
           simp only at h
           obtain ⟨h1, _⟩ := elem_ok hD IH h0 hT had ha.sp4 hel
           have h2 := IH _ _ _ _ _ _ _ h0 h1.qs h1.vb (h1.st.dt.trans had) h1.st.sp4 h
           have h3 : aYa s p q' st a := ⟨(ha.trans h1.st).le (by omega), h1.pq, h1.qs, h1.vb⟩
           exact h3.trans h2
       by_cases hk2 : T.kind = 6 ∨ T.kind = 7
       · rw [cg_aside hn he hk2] at h
         have h1 : aYa s p T.pos st (bX0 (atZ st p) T) := ⟨(ha.trans (bX5 ha.sp4)).le (by omega), by omega, hT.sz, hT.vb⟩
         exact h1.trans (IH _ _ _ _ _ _ _ h0 hT.sz hT.vb (h1.st.dt.trans hd) h1.st.sp4 h)
       by_cases hk4 : T.kind = 4
       · rw [cg_text hn he hk4] at h
         have hpk := aVy (v := false) (entC_ok IH) hD (s := T.text) (T.text.size + 1) 0 (atZ st p, []) (Nat.zero_le _) had ha.sp4
         cases hpg : aX5 false (entC f) (T.text.size + 1) T.text 0 (atZ st p, []) with
         | mk σ oc =>
          rw [hpg] at h hpk
          cases oc with
          | some c => cases h
          | none =>
           simp only at h
           obtain ⟨a1, a2, a3, a4, a5, a6⟩ := hpk rfl
           unfold pot at a5
           simp only [List.length_nil] at a1 a2 a3 a4 a5 a6
           have h1 : aYa s p T.pos st σ.1 := ⟨(ha.trans (⟨a1.trans had.symm, a2, a6, a3, a4, by unfold pt; omega⟩ : StOk (8 * T.text.size) (atZ st p) σ.1)).le (by omega), by omega, hT.sz, hT.vb⟩
           exact h1.trans (IH _ _ _ _ _ _ _ h0 hT.sz hT.vb (h1.st.dt.trans hd) h1.st.sp4 h)
       by_cases hk5 : T.kind = 5
       · rw [cg_cdata hn he hk5] at h
         have hl : T.text.data.toList.length = T.text.size := Array.length_toList
         have h1 : aYa s p T.pos st { atZ st p with txt := (atZ st p).txt ++ T.text.data.toList } := ⟨(ha.trans (⟨rfl, rfl, rfl, Nat.le_refl _, ha.sp4, by unfold pt; simp only [List.length_append]; omega⟩ : StOk T.text.size (atZ st p) { atZ st p with txt := (atZ st p).txt ++ T.text.data.toList })).le (by omega), by omega, hT.sz, hT.vb⟩
         exact h1.trans (IH _ _ _ _ _ _ _ h0 hT.sz hT.vb (h1.st.dt.trans hd) h1.st.sp4 h)
       · rw [cg_no hn he (fun h => hk (.inl h)) (fun h => hk (.inr h)) (fun h => hk2 (.inl h)) (fun h => hk2 (.inr h)) hk4 hk5] at h
         cases h
     · rw [cg_no hn he (show (0 : Int) ≠ 1 by decide) (show (0 : Int) ≠ 3 by decide) (show (0 : Int) ≠ 6 by decide) (show (0 : Int) ≠ 7 by decide) (show (0 : Int) ≠ 4 by decide) (show (0 : Int) ≠ 5 by decide)] at h
       cases h
end Go.Proofs.YtdblemolaojebaaGreatDoor
