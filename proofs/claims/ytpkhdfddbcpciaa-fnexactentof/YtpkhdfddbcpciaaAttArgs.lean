/- The laws' helpers over attributes: their sizes, a copy, are two alike? -/
import Derived.Test.YtpkhdfddbcpciaaEntArgs2
namespace Go.Proofs.Ytpkhdfddbcpciaa
open Go.RowKit Lists Ents

set_option maxHeartbeats 1000000 in
theorem szAtt_any (o n t : ByteArray) (x y : Bool) (L : Int) (w : World) (h0 : 0 ≤ L) (h1 : L ≤ 1048576) (ho : o.size ≤ maxLen) (hn : n.size ≤ maxLen) (ht : t.size ≤ maxLen) :
    Calls Try.prog 46 #[.agg #[.string o, .string n, .bool x, .bool y, .string t], .int .i64 L] w fun e w' => (∃ z, e = .returned (.int .i64 z) ∧ -1 ≤ z ∧ z ≤ L ∧ (0 ≤ z → o.size ≤ 1048576 ∧ n.size ≤ 1048576 ∧ t.size ≤ 1048576)) ∧ w.grownBy w' none := by
  unfold maxLen at ho hn ht
  have w0 : IntKind.i64.wrap (L - (o.size : Int)) = L - (o.size : Int) := wrapBig (by omega) (by omega)
  by_cases c0 : L - (o.size : Int) < 0
  · go_enter Try.func46, Try.ntmps46
    go_wp2
    go_ret
    exact ⟨⟨-1, rfl, by omega, by omega, by omega⟩, gnA _ _⟩
  have w1 : IntKind.i64.wrap (L - (o.size : Int) - (n.size : Int)) = L - (o.size : Int) - (n.size : Int) := wrapBig (by omega) (by omega)
  by_cases c1 : L - (o.size : Int) - (n.size : Int) < 0
  · go_enter Try.func46, Try.ntmps46
    go_wp2
    go_ret
    exact ⟨⟨-1, rfl, by omega, by omega, by omega⟩, gnA _ _⟩
  have w2 : IntKind.i64.wrap (L - (o.size : Int) - (n.size : Int) - (t.size : Int)) = L - (o.size : Int) - (n.size : Int) - (t.size : Int) := wrapBig (by omega) (by omega)
  by_cases c2 : L - (o.size : Int) - (n.size : Int) - (t.size : Int) < 0
  · go_enter Try.func46, Try.ntmps46
    go_wp2
    go_ret
    exact ⟨⟨-1, rfl, by omega, by omega, by omega⟩, gnA _ _⟩
  · go_enter Try.func46, Try.ntmps46
    go_wp2
    go_ret
    exact ⟨⟨L - (o.size : Int) - (n.size : Int) - (t.size : Int), rfl, by omega, by omega, by omega⟩, gnA _ _⟩

set_option maxHeartbeats 2000000 in
theorem szAttS_any (w : World) (a : Option Addr) (n c : Nat) (l : List At5) (L : Int) (hn : n = l.length) (hl : l.length ≤ maxLen) (h0 : 0 ≤ L) (h1 : L ≤ 1048576) (hz : ∀ e ∈ l, e.of.size ≤ maxLen ∧ e.nm.size ≤ maxLen ∧ e.val.size ≤ maxLen) (h : AttsAt w a l) :
    Calls Try.prog 36 #[.slice a n c, .int .i64 L] w fun e w' => (∃ z, e = .returned (.int .i64 z) ∧ -1 ≤ z ∧ z ≤ L ∧ (0 ≤ z → l.length ≤ 1048576 ∧ ∀ e ∈ l, e.of.size ≤ 1048576 ∧ e.nm.size ≤ 1048576 ∧ e.val.size ≤ 1048576)) ∧ w.grownBy w' none := by
  subst hn
  unfold maxLen at hl
  have w1 : IntKind.i64.wrap (L - (l.length : Int)) = L - (l.length : Int) := wrapBig (by omega) (by omega)
  by_cases c1 : L - (l.length : Int) < 0
  · go_enter Try.func36, Try.ntmps36
    go_wp2
    go_ret
    exact ⟨⟨-1, rfl, by omega, by omega, by omega⟩, gnR _⟩
  have HA := mkHidEa h
  have HZ := mkHidEa hz
  clear h hz
  go_enter Try.func36, Try.ntmps36
  go_wp2
  go_loopw [5, 1] (fun i lf wr => ∃ (k : Nat) (z : Int), k ≤ l.length ∧ i = .int .i64 k ∧ lf = .int .i64 z ∧ 0 ≤ z ∧ z ≤ L ∧ (∀ j (hj : j < l.length), j < k → (l[j]'hj).of.size ≤ 1048576 ∧ (l[j]'hj).nm.size ≤ 1048576 ∧ (l[j]'hj).val.size ≤ 1048576) ∧ w.grownBy wr none) (fun i _ _ => l.length - (intOf i).toNat)
  case atStart => exact ⟨0, _, Nat.zero_le _, rfl, rfl, by omega, by omega, fun j _ hj => absurd hj (by omega), gnR _⟩
  case round =>
    obtain ⟨k, z, hk, rfl, rfl, z0, z1, hsz, hgr⟩ := hrel
    have HS := mkHidEa hsz
    have HG := mkHidEa hgr
    clear hsz hgr
    by_cases hlt : k < l.length
    · obtain ⟨b, off, ha, hc⟩ := HA.out.grown HG.out
      obtain rfl := ha (by omega)
      obtain ⟨d1, d2, d3, d4, d5⟩ := hc k hlt
      have hzk := HZ.out _ (List.getElem_mem hlt)
      obtain ⟨E, hE⟩ : ∃ E, l[k]'hlt = E := ⟨_, rfl⟩
      rw [hE] at d1 d2 d3 d4 d5 hzk
      have HE := mkHidEa hE
      have hcall := szAtt_any E.of E.nm E.val E.words E.has z wr z0 (by omega) hzk.1 hzk.2.1 hzk.2.2
      clear hc ha hE
      go_wp2_with fail
      refine hcall.mono ?_
      rintro e w' ⟨⟨z', rfl, y0, y1, y2⟩, hg'⟩
      have HG' := mkHidEa (gnT HG.out hg')
      clear hcall hg' d1 d2 d3 d4 d5
      by_cases hneg : z' < 0
      · go_wp2
        go_ret
        exact ⟨⟨-1, rfl, by omega, by omega, by omega⟩, HG'.out⟩
      · have HY := mkHidEa (y2 (by omega))
        clear y2
        go_wp2
        go_roundw
        case rel =>
          refine ⟨k + 1, z', by omega, by go_num, rfl, by omega, by omega, fun j hj hjk => ?_, HG'.out⟩
          by_cases hjk' : j = k
          · subst hjk'; rw [HE.out]; exact HY.out
          · exact HS.out j hj (by omega)
        case measure => simp [intOf]; omega
    · go_wp2
      go_ret
      refine ⟨⟨z, rfl, by omega, by omega, fun _ => ⟨by omega, fun e he => ?_⟩⟩, HG.out⟩
      obtain ⟨j, hj, rfl⟩ := List.getElem_of_mem he
      exact HS.out j hj (by omega)

theorem toAtt_any (o n t : ByteArray) (x y : Bool) (w : World) :
    Calls Try.prog 48 #[.agg #[.string o, .string n, .bool x, .bool y, .string t]] w fun e w' => e = .returned (.agg #[.string o, .string n, .bool x, .bool y, .string t]) ∧ w.grownBy w' none := by
  go_enter Try.func48, Try.ntmps48
  go_wp2
  refine bodyPost_ret (v := .agg #[.string o, .string n, .bool x, .bool y, .string t]) (by simp [results, Try.results48, go_sem]) rfl ⟨rfl, ?_⟩
  exact gnT (gnT (gnA _ _) (gnA _ _)) (gnA _ _)

theorem eqAtt_any (o n t : ByteArray) (x y : Bool) (w : World) :
    Calls Try.prog 27 #[.agg #[.string o, .string n, .bool x, .bool y, .string t], .agg #[.string o, .string n, .bool x, .bool y, .string t]] w fun e w' => e = .returned (.bool true) ∧ w.grownBy w' none := by
  go_enter Try.func27, Try.ntmps27
  go_wp2
  go_ret
  exact ⟨rfl, gnT (gnA _ _) (gnA _ _)⟩
end Go.Proofs.Ytpkhdfddbcpciaa
