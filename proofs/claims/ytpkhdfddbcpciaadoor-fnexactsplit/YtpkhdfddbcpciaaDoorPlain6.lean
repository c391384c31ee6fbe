/- Plain mathematics of names: how many bytes from a place on are a name; whether a text is one. Nothing of the program is named here. -/
import Derived.Test.YtpkhdfddbcpciaaDoorPlain2
import Derived.Test.YtpkhdfddbcpciaaDoorPlain5
namespace Go.Proofs.YtpkhdfddbcpciaaDoor.Plain6
open Plain1 Plain2 Strs Plain3 Plain4 Plain5

abbrev stops (s : ByteArray) (p : Nat) (n : Nat) : Prop := (runeZ s (p + n)).2 = 0 ∨ (n = 0 ∧ startB (runeZ s (p + n)).1 = false) ∨ partB (runeZ s (p + n)).1 = false
def nameGo (s : ByteArray) (p : Nat) : Nat → Nat → Nat
  | 0, n => n
  | f + 1, n => if p + n < s.size then (if stops s p n then n else nameGo s p f (n + (runeZ s (p + n)).2)) else n
/-- How many bytes of a text from a place on are a name. -/
def nameZ (s : ByteArray) (p : Nat) : Nat := nameGo s p (s.size + 1) 0

theorem nameGo_end {s : ByteArray} {p f n : Nat} (h : s.size ≤ p + n) : nameGo s p f n = n := by
  cases f with
  | zero => rfl
  | succ f => unfold nameGo; rw [if_neg (by omega)]
theorem nameGo_stop {s : ByteArray} {p f n : Nat} (h : p + n < s.size) (hs : stops s p n) : nameGo s p (f + 1) n = n := by
  unfold nameGo; rw [if_pos h, if_pos hs]
theorem nameGo_on {s : ByteArray} {p f n : Nat} (h : p + n < s.size) (hs : ¬ stops s p n) : nameGo s p (f + 1) n = nameGo s p f (n + (runeZ s (p + n)).2) := by
  conv => lhs; unfold nameGo
  rw [if_pos h, if_neg hs]

/-- The characters from a place on, if all are. -/
def scanR (s : ByteArray) : Nat → Nat → Option (List Int)
  | 0, _ => some []
  | f + 1, i => if i < s.size then (if (runeZ s i).2 = 0 then none else (scanR s f (i + (runeZ s i).2)).map ((runeZ s i).1 :: ·)) else some []
theorem scan_R {s : ByteArray} : ∀ (f i : Nat) (acc : List Int), (∃ l, scanR s f i = some l ∧ scan s f i acc = (acc ++ l, -1)) ∨ (scanR s f i = none ∧ 0 ≤ (scan s f i acc).2)
  | 0, i, acc => .inl ⟨[], rfl, by simp [scan]⟩
  | f + 1, i, acc => by
    by_cases hi : i < s.size
    · by_cases hb : (runeZ s i).2 = 0
      · right
        rw [scan_bad hi hb]
        refine ⟨?_, by simp only []; omega⟩
        unfold scanR; rw [if_pos hi, if_pos hb]
      · rw [scan_good hi hb]
        have hR : scanR s (f + 1) i = (scanR s f (i + (runeZ s i).2)).map ((runeZ s i).1 :: ·) := by
          conv => lhs; unfold scanR
          rw [if_pos hi, if_neg hb]
        rw [hR]
        rcases scan_R f (i + (runeZ s i).2) (acc ++ [(runeZ s i).1]) with ⟨l, h1, h2⟩ | ⟨h1, h2⟩
        · left; rw [h1, h2]; exact ⟨_, rfl, by simp⟩
        · right; rw [h1]; exact ⟨rfl, h2⟩
    · left
      rw [scan_end (by omega)]
      refine ⟨[], ?_, by simp⟩
      unfold scanR; rw [if_neg hi]

/-- A list that a name is made of, from its byte n on. -/
def nameL (n : Nat) (l : List Int) : Bool := l.all partB && (n != 0 || startB (l.headD 0))
theorem start_part {c : Int} (h : startB c = true) : partB c = true := by unfold partB; rw [h]; simp

theorem name_R {s : ByteArray} (h1 : 1 ≤ s.size) : ∀ (f n : Nat), n ≤ s.size → s.size < n + f → (nameGo s 0 f n = s.size ↔ ∃ l, scanR s f n = some l ∧ nameL n l = true)
  | 0, n, hn, hf => by omega
  | f + 1, n, hn, hf => by
    by_cases hi : n < s.size
    · have hi' : 0 + n < s.size := by omega
      by_cases hb : (runeZ s n).2 = 0
      · rw [nameGo_stop hi' (by unfold stops; rw [Nat.zero_add]; exact .inl hb)]
        have hR : scanR s (f + 1) n = none := by unfold scanR; rw [if_pos hi, if_pos hb]
        rw [hR]
        constructor
        · intro h; omega
        · rintro ⟨l, h, _⟩; cases h
      · have hR : scanR s (f + 1) n = (scanR s f (n + (runeZ s n).2)).map ((runeZ s n).1 :: ·) := by
          conv => lhs; unfold scanR
          rw [if_pos hi, if_neg hb]
        have hle := rune_le hb
        by_cases hs : stops s 0 n
        · rw [nameGo_stop hi' hs, hR]
          constructor
          · intro h; omega
          · rintro ⟨l, h, hl⟩
            exfalso
            unfold stops at hs
            rw [Nat.zero_add] at hs
            cases hr : scanR s f (n + (runeZ s n).2) with
            | none => rw [hr] at h; cases h
            | some l' =>
              rw [hr] at h
              simp at h
              subst h
              simp [nameL] at hl
              rcases hs with hs | ⟨h0, hs⟩ | hs
              · exact hb hs
              · rcases hl.2 with h | h
                · exact h h0
                · rw [hs] at h; cases h
              · rw [hl.1.1] at hs; cases hs
        · rw [nameGo_on hi' hs, hR, Nat.zero_add]
          rw [name_R h1 f (n + (runeZ s n).2) hle (by omega)]
          unfold stops at hs
          rw [Nat.zero_add] at hs
          have hp : partB (runeZ s n).1 = true := by
            cases h : partB (runeZ s n).1 with
            | true => rfl
            | false => exact absurd (.inr (.inr h)) hs
          constructor
          · rintro ⟨l, h, hl⟩
            rw [h]
            refine ⟨_, rfl, ?_⟩
            simp [nameL] at hl ⊢
            refine ⟨⟨hp, hl.1⟩, ?_⟩
            by_cases h0 : n = 0
            · right
              cases h : startB (runeZ s n).1 with
              | true => rfl
              | false => exact absurd (.inr (.inl ⟨h0, h⟩)) hs
            · exact .inl h0
          · rintro ⟨l, h, hl⟩
            cases hr : scanR s f (n + (runeZ s n).2) with
            | none => rw [hr] at h; cases h
            | some l' =>
              rw [hr] at h
              simp at h
              subst h
              refine ⟨l', rfl, ?_⟩
              simp [nameL] at hl ⊢
              exact ⟨hl.1.2, .inl (by omega)⟩
    · rw [nameGo_end (by omega)]
      have hR : scanR s (f + 1) n = some [] := by unfold scanR; rw [if_neg hi]
      rw [hR]
      constructor
      · intro h
        refine ⟨[], rfl, ?_⟩
        simp [nameL]
        omega
      · intro _; omega

/-- Is a text a name? -/
def nameB (s : ByteArray) : Bool := decide (1 ≤ s.size ∧ s.size ≤ 60) && decide ((scanAll s).2 < 0) && nameL 0 (scanAll s).1
theorem nameB_spec {s : ByteArray} (h1 : 1 ≤ s.size) (h2 : s.size ≤ 60) : nameB s = decide (nameZ s 0 = s.size) := by
  apply Bool.eq_iff_iff.2
  simp only [nameB, Bool.and_eq_true, decide_eq_true_eq]
  unfold nameZ
  rw [name_R h1 (s.size + 1) 0 (by omega) (by omega)]
  have hR := scan_R (s := s) (s.size + 1) 0 []
  unfold scanAll
  rcases hR with ⟨l, e1, e2⟩ | ⟨e1, e2⟩
  · rw [e1, e2]
    simp
    omega
  · rw [e1]
    constructor
    · rintro ⟨⟨_, h⟩, _⟩; omega
    · rintro ⟨l, h, _⟩; cases h
theorem nameB_empty {s : ByteArray} (h : s.size < 1) : nameB s = false := by unfold nameB; rw [decide_eq_false (by omega)]; rfl
theorem nameB_long {s : ByteArray} (h : 60 < s.size) : nameB s = false := by unfold nameB; rw [decide_eq_false (by omega)]; rfl
/-- A text that has bytes, all of them characters', has a character. -/
theorem scan_some {s : ByteArray} (h1 : 1 ≤ s.size) (h : (scanAll s).2 < 0) : 1 ≤ (scanAll s).1.length := by
  unfold scanAll at h ⊢
  have hi : 0 < s.size := by omega
  by_cases hb : (runeZ s 0).2 = 0
  · rw [scan_bad hi hb] at h; simp at h
  · rw [scan_good hi hb] at h ⊢
    rcases scan_R (s := s) s.size (0 + (runeZ s 0).2) ([] ++ [(runeZ s 0).1]) with ⟨l, _, e2⟩ | ⟨_, e2⟩
    · rw [e2]; simp
    · omega
end Go.Proofs.YtpkhdfddbcpciaaDoor.Plain6
