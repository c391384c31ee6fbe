/- The contract of the model's EntOf. -/
import Derived.Test.YtpkhdfddbcpciaaEntP
namespace Go.Proofs.Ytpkhdfddbcpciaa
open Go.RowKit Lists Ents

set_option maxHeartbeats 2000000 in
theorem specEntOf_any (w : World) (a a' : Option Addr) (n c n' c' : Nat) (l : List (ByteArray × ByteArray)) (nm : ByteArray) (hn : n = l.length) (hl : l.length ≤ 1048576) (h : EntsAt w a l) :
    Calls Try.prog 20 #[.agg #[.slice a n c, .slice a' n' c'], .string nm] w fun e w' => e = .returned (.agg #[.string (entR l nm).1, .string (entR l nm).2]) ∧ w.grownBy w' none := by
  subst hn
  obtain ⟨R, hR⟩ : ∃ R, entR l nm = R := ⟨_, rfl⟩
  rw [hR]
  have HR := mkHidEn hR
  clear hR
  have HA := mkHidEn h
  clear h
  have hb0 := dbox_start w a l.length c a' n' c' (.cells #[.string ⟨#[]⟩, .string ⟨#[]⟩] 40)
  have HB := mkHidEn hb0
  clear hb0
  by_cases hbig : 4000 < nm.size
  · have hR0 : R = (⟨#[]⟩, ⟨#[]⟩) := by rw [← HR.out]; exact ent_long hbig
    subst hR0
    go_enter Try.func20, Try.ntmps20
    go_wp2
    exact bodyPost_ret (v := .agg #[.string ⟨#[]⟩, .string ⟨#[]⟩]) (by simp [results, Try.results20, go_sem]) rfl ⟨rfl, HB.out.grown⟩
  go_enter Try.func20, Try.ntmps20
  go_wp2
  go_loopw [5] (fun i wr => ∃ k : Nat, k ≤ l.length ∧ i = .int .i64 k ∧ (l.take k).find? (isEnt nm) = none ∧ DBox w wr a l.length c a' n' c' (.cells #[.string ⟨#[]⟩, .string ⟨#[]⟩] 40)) (fun i _ => l.length - (intOf i).toNat)
  case atStart => exact ⟨0, Nat.zero_le _, rfl, rfl, HB.out⟩
  case round =>
    obtain ⟨k, hk, rfl, hno, hbx⟩ := hrel
    have HNO := mkHidEn hno
    have HX := mkHidEn hbx
    obtain ⟨d0, _⟩ := hbx.cells
    have hr0 : wr.cell? ⟨w.heap.size + 1, 0, none⟩ = some (.string ⟨#[]⟩) := by simp [World.cell?, hbx.res]
    have hr1 : wr.cell? ⟨w.heap.size + 1, 1, none⟩ = some (.string ⟨#[]⟩) := by simp [World.cell?, hbx.res]
    have hf0 : wr.frozen? ⟨w.heap.size + 1, 0, none⟩ = false := by simp [World.frozen?, hbx.res]
    have hf1 : wr.frozen? ⟨w.heap.size + 1, 1, none⟩ = false := by simp [World.frozen?, hbx.res]
    clear hno hbx HB
    by_cases hlt : k < l.length
    · obtain ⟨b, off, ha, hc⟩ := HA.out.grown HX.out.grown
      obtain rfl := ha (by omega)
      obtain ⟨c1, c2⟩ := hc k hlt
      obtain ⟨E, hE⟩ : ∃ E, l[k]'hlt = E := ⟨_, rfl⟩
      rw [hE] at c1 c2
      have HE := mkHidEn hE
      clear hc ha hE HA
      cases hst : (E.1.toList == nm.toList) with
      | true =>
        have hRE : R = E := by rw [← HR.out, ent_hit hbig hlt HNO.out (by rw [HE.out]; exact hst), HE.out]
        subst hRE
        go_wp2
        refine bodyPost_ret (v := .agg #[.string R.1, .string R.2]) (by simp [results, Try.results20, go_sem, hr0, hr1]) rfl ⟨rfl, ?_⟩
        exact grown_new (grown_new HX.out.grown (by omega) _) (by omega) _
      | false =>
        have hno2 := find_on hlt HNO.out (p := isEnt nm) (by rw [HE.out]; exact hst)
        have HN2 := mkHidEn hno2
        clear hno2
        go_wp2
        go_roundw
        case rel => exact ⟨k + 1, by omega, by go_num, HN2.out, HX.out⟩
        case measure => simp [intOf]; omega
    · have hR0 : R = (⟨#[]⟩, ⟨#[]⟩) := by rw [← HR.out]; exact ent_none hbig (by omega) HNO.out
      subst hR0
      clear HA
      go_wp2
      refine bodyPost_ret (v := .agg #[.string ⟨#[]⟩, .string ⟨#[]⟩]) (by simp [results, Try.results20, go_sem, hr0, hr1]) rfl ⟨rfl, ?_⟩
      exact grown_new (grown_new HX.out.grown (by omega) _) (by omega) _
end Go.Proofs.Ytpkhdfddbcpciaa
