/- The contract of the model's AttOf. -/
import Derived.Test.YtpkhdfddbcpciaaAttP
namespace Go.Proofs.Ytpkhdfddbcpciaa
open Go.RowKit Lists Ents

set_option maxHeartbeats 2000000 in
theorem specAttOf_any (w : World) (a a' : Option Addr) (n c n' c' : Nat) (l : List At5) (o nm : ByteArray) (hn : n' = l.length) (hl : l.length ≤ 1048576) (h : AttsAt w a' l) :
    Calls Try.prog 25 #[.agg #[.slice a n c, .slice a' n' c'], .string o, .string nm] w fun e w' =>
      e = .returned (.agg #[.string (attR l o nm).of, .string (attR l o nm).nm, .bool (attR l o nm).words, .bool (attR l o nm).has, .string (attR l o nm).val]) ∧ w.grownBy w' none := by
  subst hn
  obtain ⟨R, hR⟩ : ∃ R, attR l o nm = R := ⟨_, rfl⟩
  rw [hR]
  have HR := mkHidEn hR
  clear hR
  have HA := mkHidEn h
  clear h
  have HB := mkHidEn (dbox_start w a n c a' l.length c' zObj5)
  unfold zObj5 at HB
  by_cases hbig : 4000 < o.size ∨ 4000 < nm.size
  · have hR0 : R = zAtt := by rw [← HR.out]; exact att_long hbig
    subst hR0
    clear HR HA
    by_cases h1 : 4000 < o.size
    · clear hbig
      go_enter Try.func25, Try.ntmps25
      go_wp2
      exact bodyPost_ret (v := .agg #[.string ⟨#[]⟩, .string ⟨#[]⟩, .bool false, .bool false, .string ⟨#[]⟩]) (by simp [results, Try.results25, go_sem]) rfl ⟨rfl, HB.out.grown⟩
    · have h2 : 4000 < nm.size := by omega
      clear hbig
      go_enter Try.func25, Try.ntmps25
      go_wp2
      exact bodyPost_ret (v := .agg #[.string ⟨#[]⟩, .string ⟨#[]⟩, .bool false, .bool false, .string ⟨#[]⟩]) (by simp [results, Try.results25, go_sem]) rfl ⟨rfl, HB.out.grown⟩
  have h1 : ¬ 4000 < o.size := by omega
  have h2 : ¬ 4000 < nm.size := by omega
  have HBIG := mkHidEn hbig
  clear hbig
  go_enter Try.func25, Try.ntmps25
  go_wp2
  go_loopw [7] (fun i wr => ∃ k : Nat, k ≤ l.length ∧ i = .int .i64 k ∧ (l.take k).find? (isAtt o nm) = none ∧ DBox w wr a n c a' l.length c' zObj5) (fun i _ => l.length - (intOf i).toNat)
  case atStart => exact ⟨0, Nat.zero_le _, rfl, rfl, HB.out⟩
  case round =>
    obtain ⟨k, hk, rfl, hno, hbx⟩ := hrel
    have HNO := mkHidEn hno
    have HX := mkHidEn hbx
    obtain ⟨_, d0⟩ := hbx.cells
    obtain ⟨r0, r1, r2, r3, r4, f0, f1, f2, f3, f4⟩ := res5 hbx
    clear hno hbx HB
    by_cases hlt : k < l.length
    · obtain ⟨b, off, ha, hc⟩ := HA.out.grown HX.out.grown
      obtain rfl := ha (by omega)
      obtain ⟨c1, c2, c3, c4, c5⟩ := hc k hlt
      obtain ⟨E, hE⟩ : ∃ E, l[k]'hlt = E := ⟨_, rfl⟩
      rw [hE] at c1 c2 c3 c4 c5
      have HE := mkHidEn hE
      clear hc ha hE HA
      cases hst : (E.of.toList == o.toList) with
      | true =>
        cases hsu : (E.nm.toList == nm.toList) with
        | true =>
          have hRE : R = E := by rw [← HR.out, att_hit HBIG.out hlt HNO.out (by rw [HE.out]; exact att_yes hst hsu), HE.out]
          subst hRE
          go_wp2
          refine bodyPost_ret (v := .agg #[.string R.of, .string R.nm, .bool R.words, .bool R.has, .string R.val]) (by simp [results, Try.results25, go_sem, r0, r1, r2, r3, r4]) rfl ⟨rfl, ?_⟩
          exact grown5 HX.out.grown (by omega) _ _ _ _ _
        | false =>
          have hno2 := find_on hlt HNO.out (p := isAtt o nm) (by rw [HE.out]; exact att_no2 hsu)
          have HN2 := mkHidEn hno2
          clear hno2
          go_wp2
          go_roundw
          case rel => exact ⟨k + 1, by omega, by go_num, HN2.out, HX.out⟩
          case measure => simp [intOf]; omega
      | false =>
        have hno2 := find_on hlt HNO.out (p := isAtt o nm) (by rw [HE.out]; exact att_no1 hst)
        have HN2 := mkHidEn hno2
        clear hno2
        go_wp2
        go_roundw
        case rel => exact ⟨k + 1, by omega, by go_num, HN2.out, HX.out⟩
        case measure => simp [intOf]; omega
    · have hR0 : R = zAtt := by rw [← HR.out]; exact att_none HBIG.out (by omega) HNO.out
      subst hR0
      clear HA
      go_wp2
      refine bodyPost_ret (v := .agg #[.string ⟨#[]⟩, .string ⟨#[]⟩, .bool false, .bool false, .string ⟨#[]⟩]) (by simp [results, Try.results25, go_sem, r0, r1, r2, r3, r4]) rfl ⟨rfl, ?_⟩
      exact grown5 HX.out.grown (by omega) _ _ _ _ _
end Go.Proofs.Ytpkhdfddbcpciaa
