/- The model's text between marks (l02Text). -/
import Derived.Test.YtefahocflhlgiaaGreatDoorTok12
namespace Go.Proofs.YtefahocflhlgiaaGreatDoor
open Go.RowKit Plain1 Strs Strs2 Lists Plain3 Plain5 Plain6 Plain9 Plain10 Plain11

/-- What a face that reads a mark hands back. -/
def OutSays (w : World) (O : Out) (e : Ending) (w' : World) : Prop :=
  ∃ v, e = .returned (.agg #[.int .i64 O.tk.kind, .string O.tk.name, .string O.tk.text, v, .int .i64 O.at1, .int .i64 O.code]) ∧ w'.ownsRow w.heap.size 109 2 v O.tk.attrs.length (acells O.tk.attrs) ∧ Below w.heap.size w w'

set_option maxHeartbeats 2000000 in
theorem l02Text_any (s : ByteArray) (p : Nat) (closed : Bool) (w : World) (hs : s.size ≤ 1048576) (hp : p ≤ s.size) :
    Calls Tryz.prog 60 #[.string s, .int .i64 p, .bool closed] w fun e w' => OutSays w (outOf (textZ s p closed) closed) e w' := by
  have hf := fun wx => find_any s p ⟨#[60]⟩ wx hs (by decide) hp
  simp only [findZ_fz (s := s) (what := ⟨#[60]⟩) (by simp) p] at hf
  obtain ⟨E, hE⟩ : ∃ E, textE s p = E := ⟨_, rfl⟩
  have hEb : p ≤ E ∧ E ≤ s.size := by
    rw [← hE]; unfold textE
    rcases fz_spec s p [60] hp with h | ⟨i, h, h1, h2, _⟩
    · rw [if_pos h]; exact ⟨hp, Nat.le_refl _⟩
    · rw [if_neg (by omega), h]; simp at h2 ⊢; omega
  obtain ⟨X, hX⟩ : ∃ X, s.extract p E = X := ⟨_, rfl⟩
  have hXs : X.size ≤ 1048576 := by rw [← hX, ext_size hEb.2]; omega
  have hf2 := fun wx => find_any X 0 ⟨#[93, 93, 62]⟩ wx hXs (by decide) (Nat.zero_le _)
  simp only [findZ_fz (s := X) (what := ⟨#[93, 93, 62]⟩) (by simp) 0] at hf2
  have hsl : ∀ wx, (Instr.slice 9 (.string s) (some (.int .i64 (p : Int))) (some (.int .i64 (E : Int))) none).run Tryz.prog wx = .ok (.string X) wx := fun wx => by rw [← hX]; exact sub_text wx _ s p E _ _ rfl rfl hEb.1 hEb.2 Tryz.underlying9
  have hT : textZ s p closed = if Lib.index X.data.toList [93, 93, 62] ≠ -1 then failT 2 else if E = s.size ∧ closed = false then failT 1 else ⟨0, 4, ByteArray.empty, X, [], E⟩ := by
    unfold textZ; rw [hE, hX]
  have HT := mkHidT hT
  clear hT
  rcases fz_spec s p [60] hp with hz | ⟨i, hz, _, h2, _⟩
  · have hEs : E = s.size := by rw [← hE]; unfold textE; rw [if_pos hz]
    subst hEs
    clear hE hX hEb
    simp only [hz] at hf
    by_cases hi : Lib.index X.data.toList [93, 93, 62] = -1
    · have hz2 : fz X 0 [93, 93, 62] = -1 := (fz_index X 0 _).2 hi
      simp only [hz2] at hf2
      cases closed with
      | false =>
        go_enter Tryz.func60, Tryz.ntmps60
        go_wp2_with fail
        refine (hf _).mono ?_
        rintro e w1 ⟨rfl, hww⟩
        subst hww
        go_wp2_with fail
        refine (hf2 _).mono ?_
        rintro e w1 ⟨rfl, hww⟩
        subst hww
        go_wp2
        refine bodyPost_ret (v := .agg #[.int .i64 0, .string ⟨#[]⟩, .string ⟨#[]⟩, .slice none 0 0, .int .i64 0, .int .i64 4]) (by simp [results, Tryz.results60, go_sem]) rfl ?_
        rw [HT.out, if_neg (by omega), if_pos (by simp)]; rw [show outOf (failT 1) false = codeOut 4 from rfl]
        exact ⟨_, rfl, World.ownsRow_nil _ _ _ _, (Below.refl _ _).alloc (Nat.le_refl _) _⟩
      | true =>
        go_enter Tryz.func60, Tryz.ntmps60
        go_wp2_with fail
        refine (hf _).mono ?_
        rintro e w1 ⟨rfl, hww⟩
        subst hww
        go_wp2_with fail
        refine (hf2 _).mono ?_
        rintro e w1 ⟨rfl, hww⟩
        subst hww
        go_wp2
        refine bodyPost_ret (v := .agg #[.int .i64 4, .string ⟨#[]⟩, .string X, .slice none 0 0, .int .i64 (s.size : Int), .int .i64 0]) (by simp [results, Tryz.results60, go_sem]) rfl ?_
        rw [HT.out, if_neg (by omega), if_neg (by simp)]
        exact ⟨_, rfl, World.ownsRow_nil _ _ _ _, (Below.refl _ _).alloc (Nat.le_refl _) _⟩
    · have hz2 : ¬ fz X 0 [93, 93, 62] = -1 := fun h => hi ((fz_index X 0 _).1 h)
      rcases fz_spec X 0 [93, 93, 62] (Nat.zero_le _) with h0 | ⟨j, h0, _⟩
      · exact absurd h0 hz2
      simp only [h0] at hf2
      clear hz2 h0
      go_enter Tryz.func60, Tryz.ntmps60
      go_wp2_with fail
      refine (hf _).mono ?_
      rintro e w1 ⟨rfl, hww⟩
      subst hww
      go_wp2_with fail
      refine (hf2 _).mono ?_
      rintro e w1 ⟨rfl, hww⟩
      subst hww
      go_wp2
      refine bodyPost_ret (v := .agg #[.int .i64 0, .string ⟨#[]⟩, .string ⟨#[]⟩, .slice none 0 0, .int .i64 0, .int .i64 3]) (by simp [results, Tryz.results60, go_sem]) rfl ?_
      rw [HT.out, if_pos hi]; rw [show outOf (failT 2) closed = codeOut 3 from by cases closed <;> rfl]
      exact ⟨_, rfl, World.ownsRow_nil _ _ _ _, (Below.refl _ _).alloc (Nat.le_refl _) _⟩
  · have hEi : E = i := by rw [← hE]; unfold textE; rw [if_neg (by omega), hz]; rfl
    subst hEi
    clear hE hX hEb
    simp only [hz] at hf
    by_cases hi : Lib.index X.data.toList [93, 93, 62] = -1
    · have hz2 : fz X 0 [93, 93, 62] = -1 := (fz_index X 0 _).2 hi
      simp only [hz2] at hf2
      have hlt : E < s.size := by simp at h2; omega
      have hne : ((E : Int) == (s.size : Int)) = false := beq_eq_false_iff_ne.2 (by omega)
      go_enter Tryz.func60, Tryz.ntmps60
      go_wp2_with fail
      refine (hf _).mono ?_
      rintro e w1 ⟨rfl, hww⟩
      subst hww
      go_wp2_with fail
      refine (hf2 _).mono ?_
      rintro e w1 ⟨rfl, hww⟩
      subst hww
      go_wp2
      refine bodyPost_ret (v := .agg #[.int .i64 4, .string ⟨#[]⟩, .string X, .slice none 0 0, .int .i64 (E : Int), .int .i64 0]) (by simp [results, Tryz.results60, go_sem]) rfl ?_
      rw [HT.out, if_neg (by omega), if_neg (by omega)]
      exact ⟨_, rfl, World.ownsRow_nil _ _ _ _, (Below.refl _ _).alloc (Nat.le_refl _) _⟩
    · have hz2 : ¬ fz X 0 [93, 93, 62] = -1 := fun h => hi ((fz_index X 0 _).1 h)
      rcases fz_spec X 0 [93, 93, 62] (Nat.zero_le _) with h0 | ⟨j, h0, _⟩
      · exact absurd h0 hz2
      simp only [h0] at hf2
      clear hz2 h0
      go_enter Tryz.func60, Tryz.ntmps60
      go_wp2_with fail
      refine (hf _).mono ?_
      rintro e w1 ⟨rfl, hww⟩
      subst hww
      go_wp2_with fail
      refine (hf2 _).mono ?_
      rintro e w1 ⟨rfl, hww⟩
      subst hww
      go_wp2
      refine bodyPost_ret (v := .agg #[.int .i64 0, .string ⟨#[]⟩, .string ⟨#[]⟩, .slice none 0 0, .int .i64 0, .int .i64 3]) (by simp [results, Tryz.results60, go_sem]) rfl ?_
      rw [HT.out, if_pos hi]; rw [show outOf (failT 2) closed = codeOut 3 from by cases closed <;> rfl]
      exact ⟨_, rfl, World.ownsRow_nil _ _ _ _, (Below.refl _ _).alloc (Nat.le_refl _) _⟩
end Go.Proofs.YtefahocflhlgiaaGreatDoor
