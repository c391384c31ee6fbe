/- The laws' helpers over entities: their sizes, a copy, are two alike? -/
import Derived.Test.YtpkhdfddbcpciaaProg
import Derived.Test.YtpkhdfddbcpciaaEnts
import Derived.WalkKit
import Derived.WalkSmall
import Derived.Deep.OwnRows
import Derived.Deep.QuietTactic
import Derived.BigQuiet
import Derived.Deep.RegionHeld3
import Derived.Laws.BitsLemmas
namespace Go.Proofs.Ytpkhdfddbcpciaa
open Go.RowKit Lists Ents

theorem mkHidEa {p : Prop} (h : p) : Hid p := h
theorem wrapBig {z : Int} (h0 : -9223372036854775808 ≤ z) (h1 : z ≤ 9223372036854775807) : IntKind.i64.wrap z = z := by
  rw [IntKind.wrap_i64]; omega
theorem gnT {a b c : World} (h : a.grownBy b none) (k : b.grownBy c none) : a.grownBy c none :=
  ⟨k.os.trans h.os, k.tape.trans h.tape, k.output.trans h.output, Nat.le_trans h.size k.size, fun i hi hr => (k.block i (Nat.lt_of_lt_of_le hi h.size) hr).trans (h.block i hi hr)⟩
theorem gnA (w : World) (o : Obj) : w.grownBy (w.alloc o) none := ⟨rfl, rfl, rfl, by simp, fun _ hk _ => heap_alloc_old w o hk⟩
theorem gnR (w : World) : w.grownBy w none := ⟨rfl, rfl, rfl, Nat.le_refl _, fun _ _ _ => rfl⟩
theorem gnD (w : World) (n : Nat) : w.grownBy (w.drewN n) none := ⟨rfl, rfl, rfl, Nat.le_refl _, fun _ _ _ => rfl⟩

set_option maxHeartbeats 1000000 in
theorem szEnt_any (n t : ByteArray) (L : Int) (w : World) (h0 : 0 ≤ L) (h1 : L ≤ 1048576) (hn : n.size ≤ maxLen) (ht : t.size ≤ maxLen) :
    Calls Try.prog 45 #[.agg #[.string n, .string t], .int .i64 L] w fun e w' => (∃ z, e = .returned (.int .i64 z) ∧ -1 ≤ z ∧ z ≤ L ∧ (0 ≤ z → n.size ≤ 1048576 ∧ t.size ≤ 1048576)) ∧ w.grownBy w' none := by
  unfold maxLen at hn ht
  have w1 : IntKind.i64.wrap (L - (n.size : Int)) = L - (n.size : Int) := wrapBig (by omega) (by omega)
  by_cases c1 : L - (n.size : Int) < 0
  · go_enter Try.func45, Try.ntmps45
    go_wp2
    go_ret
    exact ⟨⟨-1, rfl, by omega, by omega, by omega⟩, gnA _ _⟩
  have w2 : IntKind.i64.wrap (L - (n.size : Int) - (t.size : Int)) = L - (n.size : Int) - (t.size : Int) := wrapBig (by omega) (by omega)
  by_cases c2 : L - (n.size : Int) - (t.size : Int) < 0
  · go_enter Try.func45, Try.ntmps45
    go_wp2
    go_ret
    exact ⟨⟨-1, rfl, by omega, by omega, by omega⟩, gnA _ _⟩
  · go_enter Try.func45, Try.ntmps45
    go_wp2
    go_ret
    exact ⟨⟨L - (n.size : Int) - (t.size : Int), rfl, by omega, by omega, by omega⟩, gnA _ _⟩

set_option maxHeartbeats 2000000 in
theorem szEntS_any (w : World) (a : Option Addr) (n c : Nat) (l : List (ByteArray × ByteArray)) (L : Int) (hn : n = l.length) (hl : l.length ≤ maxLen) (h0 : 0 ≤ L) (h1 : L ≤ 1048576) (hz : ∀ e ∈ l, e.1.size ≤ maxLen ∧ e.2.size ≤ maxLen) (h : EntsAt w a l) :
    Calls Try.prog 35 #[.slice a n c, .int .i64 L] w fun e w' => (∃ z, e = .returned (.int .i64 z) ∧ -1 ≤ z ∧ z ≤ L ∧ (0 ≤ z → l.length ≤ 1048576 ∧ ∀ e ∈ l, e.1.size ≤ 1048576 ∧ e.2.size ≤ 1048576)) ∧ w.grownBy w' none := by
  subst hn
  unfold maxLen at hl
  have w1 : IntKind.i64.wrap (L - (l.length : Int)) = L - (l.length : Int) := wrapBig (by omega) (by omega)
  by_cases c1 : L - (l.length : Int) < 0
  · go_enter Try.func35, Try.ntmps35
    go_wp2
    go_ret
    exact ⟨⟨-1, rfl, by omega, by omega, by omega⟩, gnR _⟩
  have HA := mkHidEa h
  have HZ := mkHidEa hz
  clear h hz
  go_enter Try.func35, Try.ntmps35
  go_wp2
  go_loopw [5, 1] (fun i lf wr => ∃ (k : Nat) (z : Int), k ≤ l.length ∧ i = .int .i64 k ∧ lf = .int .i64 z ∧ 0 ≤ z ∧ z ≤ L ∧ (∀ j (hj : j < l.length), j < k → (l[j]'hj).1.size ≤ 1048576 ∧ (l[j]'hj).2.size ≤ 1048576) ∧ w.grownBy wr none) (fun i _ _ => l.length - (intOf i).toNat)
  case atStart => exact ⟨0, _, Nat.zero_le _, rfl, rfl, by omega, by omega, fun j _ hj => absurd hj (by omega), gnR _⟩
  case round =>
    obtain ⟨k, z, hk, rfl, rfl, z0, z1, hsz, hgr⟩ := hrel
    have HS := mkHidEa hsz
    have HG := mkHidEa hgr
    clear hsz hgr
    by_cases hlt : k < l.length
    · obtain ⟨b, off, ha, hc⟩ := HA.out.grown HG.out
      obtain rfl := ha (by omega)
      obtain ⟨c1', c2'⟩ := hc k hlt
      have hzk := HZ.out _ (List.getElem_mem hlt)
      obtain ⟨E, hE⟩ : ∃ E, l[k]'hlt = E := ⟨_, rfl⟩
      rw [hE] at c1' c2' hzk
      have HE := mkHidEa hE
      have hcall := szEnt_any E.1 E.2 z wr z0 (by omega) hzk.1 hzk.2
      clear hc ha hE
      go_wp2_with fail
      refine hcall.mono ?_
      rintro e w' ⟨⟨z', rfl, y0, y1, y2⟩, hg'⟩
      have HG' := mkHidEa (gnT HG.out hg')
      clear hcall hg' c1' c2'
      by_cases hneg : z' < 0
      · go_wp2
        go_ret
        exact ⟨⟨-1, rfl, by omega, by omega, by omega⟩, HG'.out⟩
      · have HY := mkHidEa (y2 (by omega))
        clear y2
        go_wp2
        go_roundw
        case rel =>
          refine ⟨k + 1, z', by omega, by go_num, rfl, by omega, by omega, fun j hj hjk => ?_, HG'.out⟩
          by_cases hjk' : j = k
          · subst hjk'; rw [HE.out]; exact HY.out
          · exact HS.out j hj (by omega)
        case measure => simp [intOf]; omega
    · go_wp2
      go_ret
      refine ⟨⟨z, rfl, by omega, by omega, fun _ => ⟨by omega, fun e he => ?_⟩⟩, HG.out⟩
      obtain ⟨j, hj, rfl⟩ := List.getElem_of_mem he
      exact HS.out j hj (by omega)

theorem toEnt_any (n t : ByteArray) (w : World) :
    Calls Try.prog 47 #[.agg #[.string n, .string t]] w fun e w' => e = .returned (.agg #[.string n, .string t]) ∧ w.grownBy w' none := by
  go_enter Try.func47, Try.ntmps47
  go_wp2
  refine bodyPost_ret (v := .agg #[.string n, .string t]) (by simp [results, Try.results47, go_sem]) rfl ⟨rfl, ?_⟩
  exact gnT (gnT (gnA _ _) (gnA _ _)) (gnA _ _)

theorem eqEnt_any (n t : ByteArray) (w : World) :
    Calls Try.prog 23 #[.agg #[.string n, .string t], .agg #[.string n, .string t]] w fun e w' => e = .returned (.bool true) ∧ w.grownBy w' none := by
  go_enter Try.func23, Try.ntmps23
  go_wp2
  go_ret
  exact ⟨rfl, gnT (gnA _ _) (gnA _ _)⟩
end Go.Proofs.Ytpkhdfddbcpciaa
