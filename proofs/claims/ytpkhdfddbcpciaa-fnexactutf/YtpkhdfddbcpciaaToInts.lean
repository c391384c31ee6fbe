/- The contracts of the laws' helpers toInt64S (a copy) and eqInt64S (are two lists alike?). -/
import Derived.Test.YtpkhdfddbcpciaaProg
import Derived.Test.YtpkhdfddbcpciaaPlain1
import Derived.Test.YtpkhdfddbcpciaaLists
import Derived.Deep.OwnRows
import Derived.Deep.QuietTactic
import Derived.BigQuiet
namespace Go.Proofs.Ytpkhdfddbcpciaa
open Go.RowKit Plain1 Lists

theorem info64 : (Try.prog.info? 2).map (fun i => (i.zero, i.size, i.bytes)) = some (some (.int .i64 0), 1, 8) := by kernel_rfl

theorem toInts_any (a : Option Addr) (n cap : Nat) (l : List Int) (w : World) (hn : n = l.length) (hl : l.length ≤ 1048576) (ha : Ints .i64 w a l) :
    Calls Try.prog 16 #[.slice a n cap] w fun e w' => (∃ v, e = .returned v ∧ w'.ownsRow w.heap.size 2 1 v l.length (l.map (Value.int .i64))) ∧ Below w.heap.size w w' := by
  obtain ⟨b, off, ha, hc⟩ := ha
  rw [← hn] at ha hc hl
  have HL : Hid (n = l.length) := hn
  clear hn
  have hmk := run_make_row' (P := Try.prog) 23 2 (.int .i64 0) 8 Try.underlying23 info64 rfl .i64 .i64 n (by omega) (by omega)
  go_enter Try.func16, Try.ntmps16
  go_wp2
  go_loopw [4] (fun i wr => ∃ (k : Nat) (xs : List Value), k ≤ n ∧ i = .int .i64 k ∧ wr.ownsRow w.heap.size 2 1 (.slice (some ⟨w.heap.size, 0, none⟩) n n) n xs ∧ Below w.heap.size w wr ∧ ∀ j, j < k → xs[j]? = some (.int .i64 (l.getD j 0))) (fun i _ => n - (intOf i).toNat)
  case atStart => exact ⟨0, _, Nat.zero_le _, rfl, World.ownsRow_lit w _ n (Nat.le_refl _) (by unfold maxLen; omega) (by simp [madeCells]), (Below.refl _ _).alloc (Nat.le_refl _) _, fun j hj => absurd hj (by omega)⟩
  case round =>
    obtain ⟨k, xs, hk, rfl, hown, hb, hxs⟩ := hrel
    by_cases hlt : k < n
    · obtain rfl := ha (by omega)
      have c1 := (hb.cell (p := ⟨b, off + k, none⟩) (block_lt (hc k hlt))).trans (hc k hlt)
      have hxl : xs.length = n := by have := hown.1; omega
      have c2 := hown.cellAt k (by omega)
      rw [List.getElem?_eq_getElem (by omega)] at c2
      have f2 := hown.frozenAt k
      have HO := hown.stored k (.int .i64 (l.getD k 0))
      have HX : Hid (∀ j, j < k → xs[j]? = some (.int .i64 (l.getD j 0))) := hxs
      have HB : Hid (Below w.heap.size w wr) := hb
      have HH : Hid ((wr.setCell ⟨w.heap.size, k, none⟩ (.int .i64 (l.getD k 0))).ownsRow w.heap.size 2 1 (.slice (some ⟨w.heap.size, 0, none⟩) n n) n (xs.set k (.int .i64 (l.getD k 0)))) := HO.1
      clear HO hown hxs hb hc hmk ha
      go_wp2
      go_roundw
      case rel =>
        refine ⟨k + 1, _, by omega, by go_num, HH.out, HB.out.setCell (Nat.le_refl _) _, fun j hj => ?_⟩
        by_cases hjk : j = k
        · subst hjk
          rw [List.getElem?_set_self (by omega)]
        · rw [List.getElem?_set_ne (by omega)]
          exact HX.out j (by omega)
      case measure => simp [intOf]; omega
    · have hkn : k = n := by omega
      subst hkn
      clear hc ha hmk
      have HX : Hid (∀ j, j < k → xs[j]? = some (.int .i64 (l.getD j 0))) := hxs
      clear hxs
      go_wp2
      go_ret
      refine ⟨⟨_, rfl, ?_⟩, hb⟩
      have hxl : xs.length = k := by have := hown.1; omega
      have e : xs = l.map (Value.int .i64) := by
        apply List.ext_getElem?
        intro j
        by_cases hj : j < k
        · rw [HX.out j hj]
          have : j < l.length := by have := HL.out; omega
          simp [List.getD, this]
        · rw [List.getElem?_eq_none (by omega), List.getElem?_eq_none (by have := HL.out; simp; omega)]
      rw [← e, ← HL.out]
      exact hown
end Go.Proofs.Ytpkhdfddbcpciaa
