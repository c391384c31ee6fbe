/- The contract of the laws' helper lwNums at two lists that are alike: it answers true. -/
import Derived.Test.YtpkhdfddbcpciaaDoorProg
import Derived.Test.YtpkhdfddbcpciaaDoorPlain1
import Derived.Test.YtpkhdfddbcpciaaDoorLists
import Derived.Deep.QuietTactic
import Derived.BigQuiet
namespace Go.Proofs.YtpkhdfddbcpciaaDoor
open Go.RowKit Plain1 Lists

theorem nums_same (a a' : Option Addr) (n cap cap' : Nat) (l : List Int) (w : World) (hn : n = l.length) (hl : l.length ≤ 1048576) (hA : Ints .i64 w a l) (hA' : Ints .i64 w a' l) :
    Calls Tryd.prog 12 #[.slice a n cap, .slice a' n cap'] w fun e w' => e = .returned (.bool true) ∧ Below w.heap.size w w' := by
  obtain ⟨b, off, ha, hc⟩ := hA
  obtain ⟨b', off', ha', hc'⟩ := hA'
  rw [← hn] at ha hc ha' hc' hl
  clear hn
  go_enter Tryd.func12, Tryd.ntmps12
  go_wp2
  go_loopw [5] (fun i wr => ∃ (k : Nat), k ≤ n ∧ i = .int .i64 k ∧ Below w.heap.size w wr) (fun i _ => n - (intOf i).toNat)
  case atStart => exact ⟨0, Nat.zero_le _, rfl, Below.refl _ _⟩
  case round =>
    obtain ⟨k, hk, rfl, hb⟩ := hrel
    by_cases hlt : k < n
    · obtain rfl := ha (by omega)
      obtain rfl := ha' (by omega)
      have c1 := (hb.cell (p := ⟨b, off + k, none⟩) (block_lt (hc k hlt))).trans (hc k hlt)
      have c2 := (hb.cell (p := ⟨b', off' + k, none⟩) (block_lt (hc' k hlt))).trans (hc' k hlt)
      obtain ⟨c, hce⟩ : ∃ c, c = l.getD k 0 := ⟨_, rfl⟩
      rw [← hce] at c1 c2
      clear hc hc' ha ha' hce
      go_wp2_with fail
      go_quiet (fail)
      go_wp2
      go_roundw
      case rel => exact ⟨k + 1, by omega, by go_num, below_drewN hb _⟩
      case measure => simp [intOf]; omega
    · clear hc hc' ha ha'
      go_wp2
      go_ret
      exact ⟨rfl, hb⟩
end Go.Proofs.YtpkhdfddbcpciaaDoor
