/- The contract of the model's NameRight. -/
import Derived.Test.YtpkhdfddbcpciaaDoorNameModel
namespace Go.Proofs.YtpkhdfddbcpciaaDoor
open Go.RowKit Plain1 Plain2 Strs Plain3 Plain5 Plain6

theorem specName_any (s : ByteArray) (w : World) :
    Calls Tryd.prog 26 #[.string s] w fun e w' => e = .returned (.bool (nameB s)) ∧ Below w.heap.size w w' := by
  by_cases h1 : s.size < 1
  · rw [nameB_empty h1]
    go_enter Tryd.func26, Tryd.ntmps26
    go_wp2_with fail
    go_ret
    exact ⟨rfl, Below.refl _ _⟩
  by_cases h2 : 60 < s.size
  · rw [nameB_long h2]
    go_enter Tryd.func26, Tryd.ntmps26
    go_wp2_with fail
    go_ret
    exact ⟨rfl, Below.refl _ _⟩
  rw [nameB_spec (by omega) (by omega)]
  have hcall := l01Name_any s 0 w (by omega) (by omega)
  obtain ⟨R, hR⟩ : ∃ R, nameZ s 0 = R := ⟨_, rfl⟩
  rw [hR] at hcall ⊢
  clear hR
  go_enter Tryd.func26, Tryd.ntmps26
  go_wp2_with (go_at_call 44; refine hcall.mono ?_; rintro e w1 ⟨rfl, hb1⟩)
  go_ret
  refine ⟨ret_bool ?_, hb1⟩
  apply Bool.eq_iff_iff.2
  simp
  try omega
end Go.Proofs.YtpkhdfddbcpciaaDoor
