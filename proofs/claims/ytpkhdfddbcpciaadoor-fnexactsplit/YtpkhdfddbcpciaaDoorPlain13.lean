/- Plain mathematics: a text cut at a sign, as the library cuts it. Nothing of the program is named here. -/
import Derived.Test.YtpkhdfddbcpciaaDoorPlain12
namespace Go.Proofs.YtpkhdfddbcpciaaDoor.Plain13
open Plain1 Plain2 Strs Plain3 Plain4 Plain5 Plain6 Plain9 Plain10 Plain11 Plain12

theorem take_ext {s : ByteArray} {p q : Nat} (hpq : p ≤ q) : (⟨((rest s p).take (q - p)).toArray⟩ : ByteArray) = s.extract p q := by
  apply ByteArray.ext
  apply Array.toList_inj.1
  rw [Lib.extract_data]
  unfold rest
  simp [List.take_drop, Nat.add_sub_cancel' hpq]
theorem cut_yes {s : ByteArray} {p : Nat} {sg : List UInt8} (hp : p ≤ s.size) (h : upF s p sg = 0) :
    (Lib.cut (rest s p) sg).2.2 = true ∧ (⟨(Lib.cut (rest s p) sg).1.toArray⟩ : ByteArray) = upT s p sg ∧ p + ((upT s p sg).size + sg.length) = upP s p sg := by
  unfold upF at h
  rcases fz_spec s p sg hp with h0 | ⟨i, h0, h1, h2, h3, h4⟩
  · rw [if_pos h0] at h; cases h
  · have hc : Lib.cut (rest s p) sg = ((rest s p).take (i - p), (rest s p).drop ((i - p) + sg.length), true) := by
      unfold Lib.cut
      rw [h4, if_pos (by omega), Int.toNat_natCast]
    rw [hc]
    have hu : upT s p sg = s.extract p i := by unfold upT; rw [h0, Int.toNat_natCast]
    refine ⟨rfl, ?_, ?_⟩
    · rw [hu]; exact take_ext h1
    · rw [hu, ext_size (by omega)]; unfold upP; rw [h0, Int.toNat_natCast]; omega
theorem cut_no {s : ByteArray} {p : Nat} {sg : List UInt8} (h : upF s p sg ≠ 0) : Lib.cut (rest s p) sg = (rest s p, [], false) ∧ upF s p sg = 1 := by
  unfold upF at h ⊢
  by_cases h0 : fz s p sg = -1
  · rw [if_pos h0]
    have := (fz_index s p sg).1 h0
    unfold Lib.cut
    rw [this, if_neg (by omega)]
    exact ⟨rfl, rfl⟩
  · rw [if_neg h0] at h; exact absurd rfl h
theorem upT_size {s : ByteArray} {p : Nat} {sg : List UInt8} (hp : p ≤ s.size) (h : upF s p sg = 0) : (upT s p sg).size ≤ s.size ∧ upP s p sg ≤ s.size := by
  have h1 := (cut_yes hp h).2.2
  have h2 := (up_le hp h).1
  omega
end Go.Proofs.YtpkhdfddbcpciaaDoor.Plain13
