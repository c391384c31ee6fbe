/- Plain mathematics: a fault is one of three. -/
import Derived.Test.YtefahocflhlgiaaGreatDoorPlain10
namespace Go.Proofs.YtefahocflhlgiaaGreatDoor.Plain16
open Plain1 Plain2 Strs Plain3 Plain4 Plain5 Plain6 Plain9 Plain10

theorem mustF_le (s : ByteArray) (p : Nat) (sg : List UInt8) : mustF s p sg ≤ 3 := by unfold mustF lackZ; split <;> (try split) <;> omega
theorem upF_le (s : ByteArray) (p : Nat) (sg : List UInt8) : upF s p sg ≤ 3 := by unfold upF; split <;> omega
theorem nmF_le (s : ByteArray) (p : Nat) : nmF s p ≤ 3 := by unfold nmF; split <;> (try split) <;> (try split) <;> omega
theorem valGo_le (s : ByteArray) (q : Int) : ∀ f i, (valGo s q f i).1 ≤ 3
  | 0, i => by simp [valGo]
  | f + 1, i => by
    unfold valGo
    split
    · split
      · simp
      · split
        · simp
        · exact valGo_le s q f (i + 1)
    · simp
theorem valF_le (s : ByteArray) (p : Nat) : valF s p ≤ 3 := by
  unfold valF; split
  · omega
  · split
    · exact valGo_le _ _ _ _
    · omega
theorem subGo_le (s : ByteArray) : ∀ f p, (subGo s f p).1 ≤ 3
  | 0, p => by simp [subGo]
  | f + 1, p => by
    unfold subGo
    repeat' split
    all_goals first | exact subGo_le s f _ | simp
theorem subF_le (s : ByteArray) (p : Nat) : subF s p ≤ 3 := subGo_le _ _ _
theorem fail_fl (f : Nat) : (failT f).fl = f := rfl
theorem tagGo_le (s nm : ByteArray) : ∀ f p acc, (tagGo s nm f p acc).fl ≤ 3
  | 0, p, acc => by simp [tagGo, failT]
  | f + 1, p, acc => by
    unfold tagGo
    dsimp only
    repeat' split
    all_goals first | exact tagGo_le s nm f _ _ | exact mustF_le _ _ _ | exact nmF_le _ _ | exact valF_le _ _ | (simp [failT]; done) | (simp [fail_fl])
theorem markZ_le (s : ByteArray) (p : Nat) : (markZ s p).fl ≤ 3 := by
  unfold markZ commentZ cdataZ doctypeZ piZ endZ tagZ
  dsimp only
  repeat' split
  all_goals first | exact tagGo_le _ _ _ _ _ | exact mustF_le _ _ _ | exact nmF_le _ _ | exact upF_le _ _ _ | exact subF_le _ _ | (simp [failT]; done) | (simp [fail_fl])
theorem textZ_le (s : ByteArray) (p : Nat) (closed : Bool) : (textZ s p closed).fl ≤ 3 := by
  unfold textZ; repeat' split
  all_goals simp [failT]
end Go.Proofs.YtefahocflhlgiaaGreatDoor.Plain16
