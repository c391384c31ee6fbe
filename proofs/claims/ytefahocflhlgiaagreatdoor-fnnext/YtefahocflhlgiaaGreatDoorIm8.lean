/- The program's scanner: ends, a name behind white, plain text. -/
import Derived.Test.YtefahocflhlgiaaGreatDoorIm7
namespace Go.Proofs.YtefahocflhlgiaaGreatDoor
open Go.RowKit Plain1 Plain2 Strs Strs2 Lists Plain3 Plain5 Plain6 Plain9 Plain10 Plain11 Plain12 Plain13 Plain14

theorem nmF_012 (s : ByteArray) (p : Nat) : nmF s p = 0 ∨ nmF s p = 1 ∨ nmF s p = 2 := by
  unfold nmF; split <;> (try split) <;> (try split) <;> simp
theorem partF_012 (s : ByteArray) (p : Nat) : partF s p = 0 ∨ partF s p = 1 ∨ partF s p = 2 := by
  unfold partF lackZ; split <;> (try split) <;> simp

set_option maxHeartbeats 2000000 in
theorem imEnd_any {w : World} {g : Nat} {s : ByteArray} {p : Nat} {m : Int} (h : ImBox w g s p) (he : Env w m) (hF : Far g) (hv : VB s p) (hs : s.size ≤ 1048576) (hp : p ≤ s.size) :
    Calls Tryz.prog 55 #[.pointer (some ⟨g, 0, none⟩)] w fun e w' => TtSays w g s (endZ s p) e w' := by
  have F0 := mkHidI1 (Ir.start h he hF)
  have hc := imName_any F0.out.sc F0.out.env.tabs hv hs hp
  obtain ⟨Z, hZ⟩ : ∃ Z, endZ s p = Z := ⟨_, rfl⟩
  rw [hZ]
  have HZ := mkHidI1 hZ
  clear h he hF hZ
  go_enter Tryz.func55, Tryz.ntmps55
  go_wp2_with fail
  refine hc.mono ?_
  rintro e w1 ⟨t, q, rfl, hb1, hq, hT, hg1⟩
  have F1 := mkHidI1 (F0.out.step hb1 hg1)
  clear hc F0 hb1 hg1
  obtain ⟨r0, r1, r2, r3, s0, s1, s2, s3⟩ := tkcells F1.out.res
  by_cases hf : nmF s p = 0
  · obtain ⟨ht, hq'⟩ := hT hf
    have hwh := imWhite_any F1.out.sc hs hq
    have hZ1 : Z = if mustF s (whiteZ s q) [62] = 0 then ⟨0, 2, t, ByteArray.empty, [], whiteZ s q + 1⟩ else failT (mustF s (whiteZ s q) [62]) := by
      rw [← HZ.out]; unfold endZ; rw [if_neg (by omega)]; rw [ht, hq']
    have HZ1 := mkHidI1 hZ1
    simp only [hf, errV0]
    clear hT ht hq' hZ1 hf HZ
    go_wp2_with fail
    refine hwh.mono ?_
    rintro e w2 ⟨rfl, hb2, hg2⟩
    have F2 := mkHidI1 (F1.out.step hb2 hg2)
    have hr := whiteZ_le (s := s) hq
    obtain ⟨r, hrd⟩ : ∃ r, whiteZ s q = r := ⟨_, rfl⟩
    rw [hrd] at F2 hr HZ1
    have hm := imMust_any (sg := ⟨#[62]⟩) F2.out.sc hs hr
    clear hwh F1 hb2 hg2 r0 r1 r2 r3 s0 s1 s2 s3 hrd
    go_wp2_with fail
    refine hm.mono ?_
    rintro e w3 ⟨rfl, hb3, hg3⟩
    have F3 := mkHidI1 (F2.out.step hb3 hg3)
    clear hm F2 hb3 hg3
    obtain ⟨r0, r1, r2, r3, s0, s1, s2, s3⟩ := tkcells F3.out.res
    go_wp2
    refine bodyPost_ret (v := .tuple #[.agg #[.int .i64 2, .string t, .string ⟨#[]⟩, .slice none 0 0], errV (mustF s r [62])]) (by simp [results, Tryz.results55, go_sem, r0, r1, r2, r3]) rfl ?_
    rw [HZ1.out]
    exact Ir.must (T := ⟨0, 2, t, ByteArray.empty, [], r + 1⟩) F3.out hr (fun h0 => by have := has_room (must_has.1 h0) hr; simpa using this) ⟨rfl, rfl⟩
  · have hZ1 : Z = failT (nmF s p) := by rw [← HZ.out]; unfold endZ; rw [if_pos hf]
    rcases nmF_012 s p with h0 | h0 | h0
    · exact absurd h0 hf
    all_goals
      rw [h0] at hZ1
      have HZ1 := mkHidI1 hZ1
      simp only [h0, errV1, errV2]
      clear hT hZ1 hf HZ h0
      go_wp2
      refine bodyPost_ret (v := .tuple #[.agg #[.int .i64 0, .string ⟨#[]⟩, .string ⟨#[]⟩, .slice none 0 0], _]) (by simp [results, Tryz.results55, go_sem, r0, r1, r2, r3]; rfl) rfl ?_
      rw [HZ1.out]
      exact F1.out.fails (by omega) hq 0 ByteArray.empty ByteArray.empty (.slice none 0 0)

/-- White that must be there, and a name. -/
def pnF (s : ByteArray) (p : Nat) : Nat := if partF s p = 0 then nmF s (whiteZ s p) else partF s p

set_option maxHeartbeats 2000000 in
theorem imPartedName_any {w : World} {g : Nat} {s : ByteArray} {p : Nat} {m : Int} (h : ImBox w g s p) (he : Env w m) (hF : Far g) (hv0 : VB s 0) (hv : VB s p) (hs : s.size ≤ 1048576) (hp : p ≤ s.size) :
    Calls Tryz.prog 76 #[.pointer (some ⟨g, 0, none⟩)] w fun e w' => StSays w g s (pnF s p) (nmT s (whiteZ s p)) (nmP s (whiteZ s p)) e w' := by
  have hc := imParted_any h hs hp
  have hq := whiteZ_le (s := s) hp
  have hvq := whiteZ_VB hv0 hv
  obtain ⟨q, hqd⟩ : ∃ q, whiteZ s p = q := ⟨_, rfl⟩
  unfold pnF
  rw [hqd] at hc hq hvq ⊢
  clear hqd h
  by_cases hf : partF s p = 0
  · rw [if_pos hf]
    rw [hf, errV0] at hc
    clear hf
    go_enter Tryz.func76, Tryz.ntmps76
    go_wp2_with fail
    refine hc.mono ?_
    rintro e w1 ⟨rfl, hb1, hg1⟩
    have HG1 := mkHidI1 hg1
    have hn := imName_any hb1 (he.keep hF hg1).tabs hvq hs hq
    clear hc hb1 hg1
    go_wp2_with fail
    refine hn.mono ?_
    rintro e w2 ⟨t, q2, rfl, hb2, hq2, hT, hg2⟩
    have HB2 := mkHidI1 hb2
    have HT := mkHidI1 hT
    have HG2 := mkHidI1 (im_gtrans HG1.out hg2)
    clear hn hb2 hT hg2
    go_wp2
    go_ret2
    exact ⟨t, q2, rfl, HB2.out, hq2, HT.out, HG2.out⟩
  · rw [if_neg hf]
    generalize nmT s q = T
    generalize nmP s q = P
    rcases partF_012 s p with h0 | h0 | h0
    · exact absurd h0 hf
    all_goals
      rw [h0] at hc ⊢
      clear hf h0
      simp only [errV1, errV2] at hc
      go_enter Tryz.func76, Tryz.ntmps76
      go_wp2_with fail
      refine hc.mono ?_
      rintro e w1 ⟨rfl, hb1, hg1⟩
      have HB1 := mkHidI1 hb1
      have HG1 := mkHidI1 hg1
      clear hc hb1 hg1
      go_wp2
      go_ret2
      exact st_fail (by omega) HB1.out hq HG1.out
end Go.Proofs.YtefahocflhlgiaaGreatDoor
