/- Plain mathematics of UTF-8: the model's reading of the character at a place against the language's own decoding. Nothing of the program is named here. -/
import Derived.Test.YtpkhdfddbcpciaaDoorPlain3
namespace Go.Proofs.YtpkhdfddbcpciaaDoor.Plain4
open Plain1 Strs Plain3

/-- The language's decoding over plain numbers: four bytes, and whether the second, third and fourth are there and go on. -/
def decP (b0 b1 b2 b3 : Nat) (c1 c2 c3 : Bool) : Nat × Nat :=
  if b0 < 0x80 then (b0, 1)
  else if b0 / 32 == 6 && c1 then
    (if (b0 % 32) * 64 + b1 % 64 ≥ 0x80 then ((b0 % 32) * 64 + b1 % 64, 2) else (Utf8.runeError, 1))
  else if b0 / 16 == 14 && c1 && c2 then
    (if (b0 % 16) * 4096 + (b1 % 64) * 64 + b2 % 64 ≥ 0x800 && Utf8.valid (((b0 % 16) * 4096 + (b1 % 64) * 64 + b2 % 64 : Nat) : Int) then ((b0 % 16) * 4096 + (b1 % 64) * 64 + b2 % 64, 3) else (Utf8.runeError, 1))
  else if b0 / 8 == 30 && c1 && c2 && c3 then
    (if (b0 % 8) * 262144 + (b1 % 64) * 4096 + (b2 % 64) * 64 + b3 % 64 ≥ 0x10000 && Utf8.valid (((b0 % 8) * 262144 + (b1 % 64) * 4096 + (b2 % 64) * 64 + b3 % 64 : Nat) : Int) then ((b0 % 8) * 262144 + (b1 % 64) * 4096 + (b2 % 64) * 64 + b3 % 64, 4) else (Utf8.runeError, 1))
  else (Utf8.runeError, 1)

theorem cont_iff (s : ByteArray) (pos k : Nat) : (decide (pos + k < s.size) && (s.get! (pos + k)).toNat / 64 == 2) = true ↔ pos + k < s.size ∧ goesOn s (pos + k) := by
  by_cases h : pos + k < s.size
  · have e := get_byteAt s (pos + k) h
    unfold goesOn
    simp [h]
    omega
  · simp [h]

theorem decode_eq (s : ByteArray) (pos : Nat) (hp : pos < s.size) : ∃ (b0 b1 b2 b3 : Nat) (c1 c2 c3 : Bool), Utf8.decode s pos = decP b0 b1 b2 b3 c1 c2 c3 ∧ (b0 : Int) = byteAt s pos ∧
    (pos + 1 < s.size → (b1 : Int) = byteAt s (pos + 1)) ∧ (pos + 2 < s.size → (b2 : Int) = byteAt s (pos + 2)) ∧ (pos + 3 < s.size → (b3 : Int) = byteAt s (pos + 3)) ∧
    (c1 = true ↔ pos + 1 < s.size ∧ goesOn s (pos + 1)) ∧ (c2 = true ↔ pos + 2 < s.size ∧ goesOn s (pos + 2)) ∧ (c3 = true ↔ pos + 3 < s.size ∧ goesOn s (pos + 3)) :=
  ⟨_, _, _, _, _, _, _, rfl, get_byteAt s pos hp, get_byteAt s (pos + 1), get_byteAt s (pos + 2), get_byteAt s (pos + 3), cont_iff s pos 1, cont_iff s pos 2, cont_iff s pos 3⟩

theorem vz1 (s : ByteArray) (pos : Nat) (a : Int) : vz s pos a 1 = 64 * a + byteAt s (pos + 1) - 128 := rfl
theorem vz2 (s : ByteArray) (pos : Nat) (a : Int) : vz s pos a 2 = 64 * (64 * a + byteAt s (pos + 1) - 128) + byteAt s (pos + 2) - 128 := rfl
theorem vz3 (s : ByteArray) (pos : Nat) (a : Int) : vz s pos a 3 = 64 * (64 * (64 * a + byteAt s (pos + 1) - 128) + byteAt s (pos + 2) - 128) + byteAt s (pos + 3) - 128 := rfl

/-- The error of the decoding. -/
def err : Nat × Nat := (65533, 1)

theorem conts2 {s : ByteArray} {pos : Nat} : conts s pos 2 ↔ goesOn s (pos + 1) :=
  ⟨fun h => conts_iff.1 h 1 (by omega) (by omega), fun h => conts_snoc (conts_one _ _) h⟩
theorem conts3 {s : ByteArray} {pos : Nat} : conts s pos 3 ↔ goesOn s (pos + 1) ∧ goesOn s (pos + 2) :=
  ⟨fun h => ⟨conts_iff.1 h 1 (by omega) (by omega), conts_iff.1 h 2 (by omega) (by omega)⟩, fun h => conts_snoc (conts_snoc (conts_one _ _) h.1) h.2⟩
theorem conts4 {s : ByteArray} {pos : Nat} : conts s pos 4 ↔ goesOn s (pos + 1) ∧ goesOn s (pos + 2) ∧ goesOn s (pos + 3) :=
  ⟨fun h => ⟨conts_iff.1 h 1 (by omega) (by omega), conts_iff.1 h 2 (by omega) (by omega), conts_iff.1 h 3 (by omega) (by omega)⟩, fun h => conts_snoc (conts_snoc (conts_snoc (conts_one _ _) h.1) h.2.1) h.2.2⟩

/-- What holds of the decoding at a place, by the class of the first byte: it gives the number that the model gives, or the error. -/
def Agree (d : Nat × Nat) (s : ByteArray) (pos : Nat) (x0 : Int) (n : Nat) (low : Int) : Prop :=
  (pos + n ≤ s.size ∧ conts s pos n ∧ low ≤ vz s pos x0 (n - 1) ∧ Utf8.valid (vz s pos x0 (n - 1)) = true ∧ (d.1 : Int) = vz s pos x0 (n - 1) ∧ d.2 = n) ∨
  (¬ (pos + n ≤ s.size ∧ conts s pos n ∧ low ≤ vz s pos x0 (n - 1) ∧ Utf8.valid (vz s pos x0 (n - 1)) = true) ∧ d = err)

theorem valid_iff (r : Int) : Utf8.valid r = true ↔ ((0 ≤ r ∧ r < 55296) ∨ (57344 ≤ r ∧ r ≤ 1114111)) := by
  unfold Utf8.valid; simp

theorem agree1 {s : ByteArray} {pos : Nat} (hp : pos < s.size) (h : byteAt s pos < 128) : Agree (Utf8.decode s pos) s pos (byteAt s pos) 1 0 := by
  obtain ⟨b0, b1, b2, b3, c1, c2, c3, e, e0, -⟩ := decode_eq s pos hp
  rw [e]
  have hb := (byteAt_bd s pos).1
  have hd : decP b0 b1 b2 b3 c1 c2 c3 = (b0, 1) := by unfold decP; rw [if_pos (by omega)]
  rw [hd]
  exact .inl ⟨by omega, conts_one _ _, hb, (valid_iff _).2 (by rw [show vz s pos (byteAt s pos) (1 - 1) = byteAt s pos from rfl]; omega), e0, rfl⟩

theorem agree2 {s : ByteArray} {pos : Nat} (hp : pos < s.size) (h0 : 192 ≤ byteAt s pos) (h1 : byteAt s pos < 224) : Agree (Utf8.decode s pos) s pos (byteAt s pos - 192) 2 128 := by
  obtain ⟨b0, b1, b2, b3, c1, c2, c3, e, e0, e1, -, -, k1, -, -⟩ := decode_eq s pos hp
  rw [e]
  unfold Agree
  simp only [show 2 - 1 = 1 from rfl, vz1, conts2, valid_iff, err]
  unfold decP
  rw [if_neg (by omega)]
  by_cases hc : c1 = true
  · obtain ⟨q1, q2⟩ := k1.1 hc
    have e1' := e1 q1
    have q3 := q2
    unfold goesOn at q3
    rw [if_pos (by rw [hc]; simp; omega)]
    by_cases hl : 128 ≤ 64 * (byteAt s pos - 192) + byteAt s (pos + 1) - 128
    · rw [if_pos (by omega)]
      exact .inl ⟨by omega, q2, hl, by omega, by simp only []; omega, rfl⟩
    · rw [if_neg (by omega)]
      exact .inr ⟨by omega, rfl⟩
  · rw [if_neg (by simp [hc]), if_neg (by simp [hc]), if_neg (by simp [hc])]
    refine .inr ⟨fun x => hc (k1.2 ⟨by omega, x.2.1⟩), rfl⟩

theorem agree3 {s : ByteArray} {pos : Nat} (hp : pos < s.size) (h0 : 224 ≤ byteAt s pos) (h1 : byteAt s pos < 240) : Agree (Utf8.decode s pos) s pos (byteAt s pos - 224) 3 2048 := by
  obtain ⟨b0, b1, b2, b3, c1, c2, c3, e, e0, e1, e2, -, k1, k2, -⟩ := decode_eq s pos hp
  rw [e]
  unfold Agree
  simp only [show 3 - 1 = 2 from rfl, vz2, conts3, valid_iff, err]
  unfold decP
  rw [if_neg (by omega), if_neg (by simp; omega)]
  by_cases hc : c1 = true ∧ c2 = true
  · obtain ⟨q1, q2⟩ := k1.1 hc.1
    obtain ⟨r1, r2⟩ := k2.1 hc.2
    have e1' := e1 q1
    have e2' := e2 r1
    have q3 := q2
    have r3 := r2
    unfold goesOn at q3 r3
    rw [if_pos (by rw [hc.1, hc.2]; simp; omega)]
    have ev : (((b0 % 16) * 4096 + (b1 % 64) * 64 + b2 % 64 : Nat) : Int) = 64 * (64 * (byteAt s pos - 224) + byteAt s (pos + 1) - 128) + byteAt s (pos + 2) - 128 := by omega
    by_cases hl : 2048 ≤ 64 * (64 * (byteAt s pos - 224) + byteAt s (pos + 1) - 128) + byteAt s (pos + 2) - 128 ∧ Utf8.valid (64 * (64 * (byteAt s pos - 224) + byteAt s (pos + 1) - 128) + byteAt s (pos + 2) - 128) = true
    · rw [if_pos (by rw [ev, hl.2]; simp; omega)]
      exact .inl ⟨by omega, ⟨q2, r2⟩, hl.1, (valid_iff _).1 hl.2, ev, rfl⟩
    · rw [if_neg (by rw [ev]; simp only [Bool.and_eq_true, decide_eq_true_eq]; rintro ⟨x, y⟩; exact hl ⟨by omega, y⟩)]
      exact .inr ⟨fun x => hl ⟨x.2.2.1, (valid_iff _).2 x.2.2.2⟩, rfl⟩
  · have hcf : (c1 && c2) = false := by
      cases c1 <;> cases c2 <;> simp_all
    rw [if_neg (by rw [Bool.and_assoc, hcf]; simp), if_neg (by simp; omega)]
    refine .inr ⟨fun x => hc ⟨k1.2 ⟨by omega, x.2.1.1⟩, k2.2 ⟨by omega, x.2.1.2⟩⟩, rfl⟩

theorem agree4 {s : ByteArray} {pos : Nat} (hp : pos < s.size) (h0 : 240 ≤ byteAt s pos) (h1 : byteAt s pos < 248) : Agree (Utf8.decode s pos) s pos (byteAt s pos - 240) 4 65536 := by
  obtain ⟨b0, b1, b2, b3, c1, c2, c3, e, e0, e1, e2, e3, k1, k2, k3⟩ := decode_eq s pos hp
  rw [e]
  unfold Agree
  simp only [show 4 - 1 = 3 from rfl, vz3, conts4, valid_iff, err]
  unfold decP
  rw [if_neg (by omega), if_neg (by simp; omega), if_neg (by simp; omega)]
  by_cases hc : c1 = true ∧ c2 = true ∧ c3 = true
  · obtain ⟨q1, q2⟩ := k1.1 hc.1
    obtain ⟨r1, r2⟩ := k2.1 hc.2.1
    obtain ⟨t1, t2⟩ := k3.1 hc.2.2
    have e1' := e1 q1
    have e2' := e2 r1
    have e3' := e3 t1
    have q3 := q2
    have r3 := r2
    have t3 := t2
    unfold goesOn at q3 r3 t3
    rw [if_pos (by rw [hc.1, hc.2.1, hc.2.2]; simp; omega)]
    have ev : (((b0 % 8) * 262144 + (b1 % 64) * 4096 + (b2 % 64) * 64 + b3 % 64 : Nat) : Int) = 64 * (64 * (64 * (byteAt s pos - 240) + byteAt s (pos + 1) - 128) + byteAt s (pos + 2) - 128) + byteAt s (pos + 3) - 128 := by omega
    by_cases hl : 65536 ≤ 64 * (64 * (64 * (byteAt s pos - 240) + byteAt s (pos + 1) - 128) + byteAt s (pos + 2) - 128) + byteAt s (pos + 3) - 128 ∧ Utf8.valid (64 * (64 * (64 * (byteAt s pos - 240) + byteAt s (pos + 1) - 128) + byteAt s (pos + 2) - 128) + byteAt s (pos + 3) - 128) = true
    · rw [if_pos (by rw [ev, hl.2]; simp; omega)]
      exact .inl ⟨by omega, ⟨q2, r2, t2⟩, hl.1, (valid_iff _).1 hl.2, ev, rfl⟩
    · rw [if_neg (by rw [ev]; simp only [Bool.and_eq_true, decide_eq_true_eq]; rintro ⟨x, y⟩; exact hl ⟨by omega, y⟩)]
      exact .inr ⟨fun x => hl ⟨x.2.2.1, (valid_iff _).2 x.2.2.2⟩, rfl⟩
  · have hcf : (c1 && c2 && c3) = false := by
      cases c1 <;> cases c2 <;> cases c3 <;> simp_all
    rw [if_neg (by rw [Bool.and_assoc, Bool.and_assoc, ← Bool.and_assoc c1, hcf]; simp)]
    refine .inr ⟨fun x => hc ⟨k1.2 ⟨by omega, x.2.1.1⟩, k2.2 ⟨by omega, x.2.1.2.1⟩, k3.2 ⟨by omega, x.2.1.2.2⟩⟩, rfl⟩

theorem agree_none {s : ByteArray} {pos : Nat} (hp : pos < s.size) (h : (128 ≤ byteAt s pos ∧ byteAt s pos < 192) ∨ 248 ≤ byteAt s pos) : Utf8.decode s pos = err := by
  obtain ⟨b0, b1, b2, b3, c1, c2, c3, e, e0, -⟩ := decode_eq s pos hp
  rw [e]
  unfold decP err
  rw [if_neg (by omega), if_neg (by simp; omega), if_neg (by simp; omega), if_neg (by simp; omega)]
  rfl

theorem char_valid {r : Int} (h : charB r = true) : Utf8.valid r = true := by
  rw [charB_iff] at h; rw [valid_iff]; omega

/-- By a class: the model's answer against the decoding. -/
theorem fin_agree {d : Nat × Nat} {s : ByteArray} {pos n : Nat} {x0 low : Int} (hn : 1 ≤ n) (h : Agree d s pos x0 n low) :
    ((fin s pos x0 n low).2 ≠ 0 ∧ (d.1 : Int) = (fin s pos x0 n low).1 ∧ d.2 = (fin s pos x0 n low).2 ∧ charB (d.1 : Int) = true) ∨ ((fin s pos x0 n low) = (0, 0) ∧ (d = err ∨ charB (d.1 : Int) = false)) := by
  rcases h with ⟨a, b, c, v, e1, e2⟩ | ⟨hno, he⟩
  · by_cases hch : charB (vz s pos x0 (n - 1)) = true
    · rw [fin_good a b c hch]
      exact .inl ⟨by simp only []; omega, e1, e2, by rw [e1]; exact hch⟩
    · have hch' : charB (vz s pos x0 (n - 1)) = false := by simpa using hch
      rw [fin_char hch']
      exact .inr ⟨rfl, .inr (by rw [e1]; exact hch')⟩
  · refine .inr ⟨?_, .inl he⟩
    unfold fin
    rw [if_neg]
    rintro ⟨a, b, c, v⟩
    exact hno ⟨a, b, c, char_valid v⟩

theorem rune_agree {s : ByteArray} {pos : Nat} (hp : pos < s.size) :
    ((runeZ s pos).2 ≠ 0 ∧ ((Utf8.decode s pos).1 : Int) = (runeZ s pos).1 ∧ (Utf8.decode s pos).2 = (runeZ s pos).2 ∧ charB ((Utf8.decode s pos).1 : Int) = true) ∨ (runeZ s pos = (0, 0) ∧ (Utf8.decode s pos = err ∨ charB ((Utf8.decode s pos).1 : Int) = false)) := by
  unfold runeZ
  by_cases c1 : byteAt s pos < 128
  · rw [if_pos c1]; exact fin_agree (by omega) (agree1 hp c1)
  rw [if_neg c1]
  by_cases c2 : 192 ≤ byteAt s pos ∧ byteAt s pos < 224
  · rw [if_pos c2]; exact fin_agree (by omega) (agree2 hp c2.1 c2.2)
  rw [if_neg c2]
  by_cases c3 : 224 ≤ byteAt s pos ∧ byteAt s pos < 240
  · rw [if_pos c3]; exact fin_agree (by omega) (agree3 hp c3.1 c3.2)
  rw [if_neg c3]
  by_cases c4 : 240 ≤ byteAt s pos ∧ byteAt s pos < 248
  · rw [if_pos c4]; exact fin_agree (by omega) (agree4 hp c4.1 c4.2)
  rw [if_neg c4]
  exact .inr ⟨rfl, .inl (agree_none hp (by omega))⟩

/-- The three bytes of U+FFFD stand there. -/
def fffd (s : ByteArray) (pos : Nat) : Prop := pos + 3 ≤ s.size ∧ byteAt s pos = 239 ∧ byteAt s (pos + 1) = 191 ∧ byteAt s (pos + 2) = 189
theorem rune_fffd {s : ByteArray} {pos : Nat} (h : fffd s pos) : runeZ s pos = (65533, 3) := by
  obtain ⟨a, b0, b1, b2⟩ := h
  unfold runeZ
  rw [b0, if_neg (by omega), if_neg (by omega), if_pos (by omega)]
  have e : vz s pos (239 - 224) 2 = 65533 := by rw [vz2, b1, b2]; rfl
  rw [fin_good a (conts3.2 ⟨by unfold goesOn; omega, by unfold goesOn; omega⟩) (by rw [show 3 - 1 = 2 from rfl, e]; omega) (by rw [show 3 - 1 = 2 from rfl, e]; rfl)]
  rw [show 3 - 1 = 2 from rfl, e]
theorem fffd_of_rune {s : ByteArray} {pos : Nat} (h : (runeZ s pos).2 ≠ 0) (hr : (runeZ s pos).1 = 65533) : fffd s pos := by
  have hb := byteAt_bd s pos
  unfold runeZ at h hr
  by_cases c1 : byteAt s pos < 128
  · rw [if_pos c1] at h hr
    unfold fin at h hr
    split at h
    · rename_i hh; rw [if_pos hh, show vz s pos (byteAt s pos) (1 - 1) = byteAt s pos from rfl] at hr; simp only [] at hr; omega
    · simp at h
  rw [if_neg c1] at h hr
  by_cases c2 : 192 ≤ byteAt s pos ∧ byteAt s pos < 224
  · rw [if_pos c2] at h hr
    unfold fin at h hr
    split at h
    · rename_i hh; rw [if_pos hh] at hr
      have g := conts2.1 hh.2.1
      unfold goesOn at g
      simp only [show 2 - 1 = 1 from rfl, vz1] at hr
      omega
    · simp at h
  rw [if_neg c2] at h hr
  by_cases c3 : 224 ≤ byteAt s pos ∧ byteAt s pos < 240
  · rw [if_pos c3] at h hr
    unfold fin at h hr
    split at h
    · rename_i hh; rw [if_pos hh] at hr
      have g := conts3.1 hh.2.1
      unfold goesOn at g
      simp only [show 3 - 1 = 2 from rfl, vz2] at hr
      exact ⟨hh.1, by omega, by omega, by omega⟩
    · simp at h
  rw [if_neg c3] at h hr
  by_cases c4 : 240 ≤ byteAt s pos ∧ byteAt s pos < 248
  · rw [if_pos c4] at h hr
    unfold fin at h hr
    split at h
    · rename_i hh; rw [if_pos hh] at hr
      have := hh.2.2.1
      simp only [] at hr
      omega
    · simp at h
  rw [if_neg c4] at h
  simp at h
end Go.Proofs.YtpkhdfddbcpciaaDoor.Plain4
