/- Plain mathematics of UTF-8 there and back: characters come back from their bytes, and bytes from their characters; lines' ends made alike stay so. Nothing of the program is named here. -/
import Derived.Test.YtpkhdfddbcpciaaDoorPlain5
import Derived.Test.YtpkhdfddbcpciaaDoorPlain7
import Derived.Test.YtpkhdfddbcpciaaDoorBytes
namespace Go.Proofs.YtpkhdfddbcpciaaDoor.Plain8
open Plain1 Strs Plain3 Plain4 Plain5 Plain7 Bytes Go.Lib

/-- The bytes of a text from a place on are these. -/
def At (s : ByteArray) (pos : Nat) (l : List Int) : Prop := pos + l.length ≤ s.size ∧ ∀ i, i < l.length → byteAt s (pos + i) = l.getD i 0

theorem rune_enc {s : ByteArray} {pos : Nat} {c : Int} (hc : charB c = true) (h : At s pos (encodeRuneZ c)) : runeZ s pos = (c, (encodeRuneZ c).length) := by
  have hr := (charB_iff c).1 hc
  obtain ⟨hl, hb⟩ := h
  by_cases h1 : c ≤ 127
  · rw [encodeRuneZ_one (by omega) h1] at hl hb ⊢
    have b0 := hb 0 (by simp)
    simp at b0 hl
    unfold runeZ
    rw [b0, if_pos (by omega)]
    have e : vz s pos c 0 = c := rfl
    rw [fin_good (by omega) (conts_one _ _) (by rw [show 1 - 1 = 0 from rfl, e]; omega) (by rw [show 1 - 1 = 0 from rfl, e]; exact hc), show 1 - 1 = 0 from rfl, e]
    simp
  by_cases h2 : c ≤ 2047
  · rw [encodeRuneZ_two (by omega) h2] at hl hb ⊢
    have b0 := hb 0 (by simp)
    have b1 := hb 1 (by simp)
    simp at b0 b1 hl
    unfold runeZ
    rw [b0, if_neg (by omega), if_pos (by omega)]
    have e : vz s pos (192 + c / 64 - 192) 1 = c := by rw [vz1, b1]; omega
    rw [fin_good (by omega) (conts2.2 (by unfold goesOn; rw [b1]; omega)) (by rw [show 2 - 1 = 1 from rfl, e]; omega) (by rw [show 2 - 1 = 1 from rfl, e]; exact hc), show 2 - 1 = 1 from rfl, e]
    simp
  by_cases h3 : c ≤ 65535
  · rw [encodeRuneZ_three (by omega)] at hl hb ⊢
    have b0 := hb 0 (by simp)
    have b1 := hb 1 (by simp)
    have b2 := hb 2 (by simp)
    simp at b0 b1 b2 hl
    unfold runeZ
    rw [b0, if_neg (by omega), if_neg (by omega), if_pos (by omega)]
    have e : vz s pos (224 + c / 4096 - 224) 2 = c := by rw [vz2, b1, b2]; omega
    rw [fin_good (by omega) (conts3.2 ⟨by unfold goesOn; rw [b1]; omega, by unfold goesOn; rw [b2]; omega⟩) (by rw [show 3 - 1 = 2 from rfl, e]; omega) (by rw [show 3 - 1 = 2 from rfl, e]; exact hc), show 3 - 1 = 2 from rfl, e]
    simp
  · rw [encodeRuneZ_four (by omega) (by omega)] at hl hb ⊢
    have b0 := hb 0 (by simp)
    have b1 := hb 1 (by simp)
    have b2 := hb 2 (by simp)
    have b3 := hb 3 (by simp)
    simp at b0 b1 b2 b3 hl
    unfold runeZ
    rw [b0, if_neg (by omega), if_neg (by omega), if_neg (by omega), if_pos (by omega)]
    have e : vz s pos (240 + c / 262144 - 240) 3 = c := by rw [vz3, b1, b2, b3]; omega
    rw [fin_good (by omega) (conts4.2 ⟨by unfold goesOn; rw [b1]; omega, by unfold goesOn; rw [b2]; omega, by unfold goesOn; rw [b3]; omega⟩) (by rw [show 4 - 1 = 3 from rfl, e]; omega) (by rw [show 4 - 1 = 3 from rfl, e]; exact hc), show 4 - 1 = 3 from rfl, e]
    simp

theorem At.left {s : ByteArray} {pos : Nat} {l m : List Int} (h : At s pos (l ++ m)) : At s pos l := by
  obtain ⟨h1, h2⟩ := h
  refine ⟨by simp at h1; omega, fun i hi => ?_⟩
  rw [h2 i (by simp; omega)]
  simp [List.getD, List.getElem?_append_left hi]
theorem At.right {s : ByteArray} {pos : Nat} {l m : List Int} (h : At s pos (l ++ m)) : At s (pos + l.length) m := by
  obtain ⟨h1, h2⟩ := h
  refine ⟨by simp at h1; omega, fun i hi => ?_⟩
  have := h2 (l.length + i) (by simp; omega)
  rw [← Nat.add_assoc] at this
  rw [this]
  simp [List.getD, List.getElem?_append_right]

/-- A text of characters' bytes is read as these. -/
theorem scan_enc {s : ByteArray} : ∀ (l : List Int) (f pos : Nat) (acc : List Int), l.all charB = true → At s pos (encAll l) → pos + (encAll l).length = s.size → s.size < pos + f → scan s f pos acc = (acc ++ l, -1)
  | [], f, pos, acc, _, _, he, _ => by rw [scan_end (by simp [encAll] at he; omega)]; simp
  | c :: l, f, pos, acc, hall, hat, he, hf => by
    simp only [List.all_cons, Bool.and_eq_true] at hall
    have e : encAll (c :: l) = encodeRuneZ c ++ encAll l := by simp [encAll]
    rw [e] at hat he
    have hr := rune_enc hall.1 hat.left
    have hlen := (encodeRuneZ_len c).1
    obtain ⟨f', rfl⟩ : ∃ f', f = f' + 1 := ⟨f - 1, by simp at he; omega⟩
    have hlt : pos < s.size := by simp at he; omega
    rw [scan_good hlt (by rw [hr]; simp only []; omega), hr]
    simp only []
    rw [scan_enc l f' (pos + (encodeRuneZ c).length) (acc ++ [c]) hall.2 hat.right (by simp at he; omega) (by omega)]
    simp

theorem byteAt_str (xs : List Int) (i : Nat) (h : i < xs.length) (hb : ∀ i, i < xs.length → 0 ≤ xs.getD i 0 ∧ xs.getD i 0 ≤ 255) : byteAt (strOfNums xs) i = xs.getD i 0 := by
  unfold byteAt
  rw [strOfNums_data]
  have := hb i h
  simp [List.getD, h] at this ⊢
  omega
theorem enc_bd (c : Int) (hc : charB c = true) : ∀ x ∈ encodeRuneZ c, 0 ≤ x ∧ x ≤ 255 := by
  have hr := (charB_iff c).1 hc
  intro x hx
  by_cases h1 : c ≤ 127
  · rw [encodeRuneZ_one (by omega) h1] at hx; simp at hx; omega
  by_cases h2 : c ≤ 2047
  · rw [encodeRuneZ_two (by omega) h2] at hx; simp at hx; omega
  by_cases h3 : c ≤ 65535
  · rw [encodeRuneZ_three (by omega)] at hx; simp at hx; omega
  · rw [encodeRuneZ_four (by omega) (by omega)] at hx; simp at hx; omega
theorem encAll_bd (l : List Int) (h : l.all charB = true) : ∀ i, i < (encAll l).length → 0 ≤ (encAll l).getD i 0 ∧ (encAll l).getD i 0 ≤ 255 := by
  intro i hi
  have hm : (encAll l).getD i 0 ∈ encAll l := by simp [List.getD, hi]
  generalize (encAll l).getD i 0 = x at hm ⊢
  unfold encAll at hm
  rw [List.mem_flatMap] at hm
  obtain ⟨c, hc, hx⟩ := hm
  rw [List.all_eq_true] at h
  exact enc_bd c (h c hc) x hx
theorem scanAll_enc (l : List Int) (h : l.all charB = true) : scanAll (strOfNums (encAll l)) = (l, -1) := by
  unfold scanAll
  have hs := strOfNums_size (encAll l)
  have := scan_enc (s := strOfNums (encAll l)) l ((strOfNums (encAll l)).size + 1) 0 [] h ⟨by rw [hs]; omega, fun i hi => by rw [Nat.zero_add]; exact byteAt_str _ i hi (encAll_bd l h)⟩ (by rw [hs]; omega) (by omega)
  simpa using this

/-- The character that is read has just the bytes that stand there. -/
theorem enc_rune {s : ByteArray} {pos : Nat} (h : (runeZ s pos).2 ≠ 0) : charB (runeZ s pos).1 = true ∧ (encodeRuneZ (runeZ s pos).1).length = (runeZ s pos).2 ∧ At s pos (encodeRuneZ (runeZ s pos).1) := by
  have hb := byteAt_bd s pos
  have key : ∀ {x0 low : Int} {n : Nat}, (fin s pos x0 n low).2 ≠ 0 → pos + n ≤ s.size ∧ conts s pos n ∧ low ≤ vz s pos x0 (n - 1) ∧ charB (vz s pos x0 (n - 1)) = true ∧ fin s pos x0 n low = (vz s pos x0 (n - 1), n) := by
    intro x0 low n hf
    unfold fin at hf ⊢
    split at hf
    · rename_i hh; rw [if_pos hh]; exact ⟨hh.1, hh.2.1, hh.2.2.1, hh.2.2.2, rfl⟩
    · simp at hf
  unfold runeZ at h ⊢
  by_cases c1 : byteAt s pos < 128
  · rw [if_pos c1] at h ⊢
    obtain ⟨k1, k2, k3, k4, k5⟩ := key h
    rw [k5]
    have e : vz s pos (byteAt s pos) (1 - 1) = byteAt s pos := rfl
    rw [e] at k4 ⊢
    simp only
    rw [encodeRuneZ_one hb.1 (by omega)]
    refine ⟨k4, rfl, by simpa using k1, fun i hi => ?_⟩
    simp at hi; subst hi; simp
  rw [if_neg c1] at h ⊢
  by_cases c2 : 192 ≤ byteAt s pos ∧ byteAt s pos < 224
  · rw [if_pos c2] at h ⊢
    obtain ⟨k1, k2, k3, k4, k5⟩ := key h
    rw [k5]
    have g := conts2.1 k2
    unfold goesOn at g
    rw [show 2 - 1 = 1 from rfl, vz1] at k3 k4 ⊢
    simp only
    generalize hx : 64 * (byteAt s pos - 192) + byteAt s (pos + 1) - 128 = x at k3 k4 ⊢
    rw [encodeRuneZ_two (by omega) (by omega)]
    refine ⟨k4, rfl, by simpa using k1, fun i hi => ?_⟩
    simp at hi
    have : i = 0 ∨ i = 1 := by omega
    rcases this with rfl | rfl
    · simp; omega
    · simp; omega
  rw [if_neg c2] at h ⊢
  by_cases c3 : 224 ≤ byteAt s pos ∧ byteAt s pos < 240
  · rw [if_pos c3] at h ⊢
    obtain ⟨k1, k2, k3, k4, k5⟩ := key h
    rw [k5]
    have g := conts3.1 k2
    unfold goesOn at g
    rw [show 3 - 1 = 2 from rfl, vz2] at k3 k4 ⊢
    simp only
    generalize hx : 64 * (64 * (byteAt s pos - 224) + byteAt s (pos + 1) - 128) + byteAt s (pos + 2) - 128 = x at k3 k4 ⊢
    have hr := (charB_iff x).1 k4
    rw [encodeRuneZ_three (by omega)]
    refine ⟨k4, rfl, by simpa using k1, fun i hi => ?_⟩
    simp at hi
    have : i = 0 ∨ i = 1 ∨ i = 2 := by omega
    rcases this with rfl | rfl | rfl
    · simp; omega
    · simp; omega
    · simp; omega
  rw [if_neg c3] at h ⊢
  by_cases c4 : 240 ≤ byteAt s pos ∧ byteAt s pos < 248
  · rw [if_pos c4] at h ⊢
    obtain ⟨k1, k2, k3, k4, k5⟩ := key h
    rw [k5]
    have g := conts4.1 k2
    unfold goesOn at g
    rw [show 4 - 1 = 3 from rfl, vz3] at k3 k4 ⊢
    simp only
    generalize hx : 64 * (64 * (64 * (byteAt s pos - 240) + byteAt s (pos + 1) - 128) + byteAt s (pos + 2) - 128) + byteAt s (pos + 3) - 128 = x at k3 k4 ⊢
    have hr := (charB_iff x).1 k4
    rw [encodeRuneZ_four (by omega) (by omega)]
    refine ⟨k4, rfl, by simpa using k1, fun i hi => ?_⟩
    simp at hi
    have : i = 0 ∨ i = 1 ∨ i = 2 ∨ i = 3 := by omega
    rcases this with rfl | rfl | rfl | rfl
    · simp; omega
    · simp; omega
    · simp; omega
    · simp; omega
  rw [if_neg c4] at h
  simp at h

theorem At.append {s : ByteArray} {l m : List Int} (h1 : At s 0 l) (h2 : At s l.length m) : At s 0 (l ++ m) := by
  refine ⟨by have := h2.1; simp; omega, fun i hi => ?_⟩
  by_cases h : i < l.length
  · rw [h1.2 i h]; simp [List.getD, List.getElem?_append_left h]
  · have := h2.2 (i - l.length) (by simp at hi; omega)
    rw [show l.length + (i - l.length) = 0 + i by omega] at this
    rw [this]
    simp [List.getD, List.getElem?_append_right (show l.length ≤ i by omega)]

/-- What has been read up to a place, or up to the first that is no character. -/
theorem scan_back {s : ByteArray} : ∀ (f i : Nat) (acc : List Int), i ≤ s.size → acc.all charB = true → At s 0 (encAll acc) → (encAll acc).length = i → s.size < i + f →
    (∃ l, scan s f i acc = (l, -1) ∧ l.all charB = true ∧ At s 0 (encAll l) ∧ (encAll l).length = s.size) ∨ (∃ (p : Nat) (l : List Int), scan s f i acc = ([], (p : Int)) ∧ p < s.size ∧ l.all charB = true ∧ At s 0 (encAll l) ∧ (encAll l).length = p)
  | 0, i, acc, h, _, _, _, hf => by omega
  | f + 1, i, acc, h, hall, hat, hlen, hf => by
    by_cases hi : i < s.size
    · by_cases hb : (runeZ s i).2 = 0
      · right; exact ⟨i, acc, scan_bad hi hb, hi, hall, hat, hlen⟩
      · obtain ⟨e1, e2, e3⟩ := enc_rune hb
        rw [scan_good hi hb]
        refine scan_back f (i + (runeZ s i).2) (acc ++ [(runeZ s i).1]) (rune_le hb) ?_ ?_ ?_ (by omega)
        · rw [List.all_append, hall]; simp [e1]
        · rw [encAll_snoc]; exact hat.append (by rw [hlen]; exact e3)
        · rw [encAll_snoc, List.length_append, hlen, e2]
    · left
      rw [scan_end (by omega)]
      exact ⟨acc, rfl, hall, hat, by omega⟩

theorem str_of_at {s : ByteArray} {l : List Int} (hl : l.all charB = true) (h : At s 0 (encAll l)) (he : (encAll l).length = s.size) : strOfNums (encAll l) = s := by
  have : (strOfNums (encAll l)).data.toList = s.data.toList := by
    apply List.ext_getElem?
    intro i
    have hs : s.data.toList.length = s.size := by simp
    by_cases hi : i < s.size
    · have hx := h.2 i (by omega)
      rw [Nat.zero_add] at hx
      have hy := byteAt_str (encAll l) i (by omega) (encAll_bd l hl)
      have hz : byteAt (strOfNums (encAll l)) i = byteAt s i := by rw [hx, hy]
      unfold byteAt at hz
      have hz' := (u8_toNat_eq _ _).1 hz
      have h1 : i < (strOfNums (encAll l)).data.toList.length := by rw [strOfNums_data]; simp; omega
      have h2 : i < s.data.toList.length := by omega
      rw [List.getElem?_eq_getElem h1, List.getElem?_eq_getElem h2]
      simp only [List.getD, List.getElem?_eq_getElem h1, List.getElem?_eq_getElem h2, Option.getD_some] at hz'
      rw [hz']
    · rw [List.getElem?_eq_none (by rw [strOfNums_data]; simp; omega), List.getElem?_eq_none (by omega)]
  have h2 : (strOfNums (encAll l)).data = s.data := Array.toList_inj.1 this
  exact congrArg ByteArray.mk h2

theorem pre_of_at {s : ByteArray} {l : List Int} {p : Nat} (hl : l.all charB = true) (h : At s 0 (encAll l)) (he : (encAll l).length = p) (hp : p ≤ s.size) : s.extract 0 p = strOfNums (encAll l) := by
  refine (str_of_at (s := s.extract 0 p) hl ⟨by simp [ByteArray.size_extract]; omega, fun i hi => ?_⟩ (by simp [ByteArray.size_extract]; omega)).symm
  rw [← h.2 i hi]
  unfold byteAt
  rw [Nat.zero_add, extract_data]
  simp [List.getD, show i < p by omega]

theorem endsE_no13 (l : List UInt8) : ∀ c ∈ endsE l, c ≠ 13 := by
  induction l with
  | nil => simp [endsE]
  | cons c t ih =>
    intro x hx
    unfold endsE at hx
    split at hx
    · rename_i h
      simp at hx
      rcases hx with rfl | hx
      · exact h
      · exact ih x hx
    · split at hx
      · exact ih x hx
      · simp at hx
        rcases hx with rfl | hx
        · decide
        · exact ih x hx
theorem endsE_same {l : List UInt8} (h : ∀ c ∈ l, c ≠ 13) : endsE l = l := by
  induction l with
  | nil => rfl
  | cons c t ih =>
    unfold endsE
    rw [if_pos (h c (by simp)), ih (fun x hx => h x (by simp [hx]))]
end Go.Proofs.YtpkhdfddbcpciaaDoor.Plain8
