/- The program's scanner: an instruction. -/
import Derived.Test.YtefahocflhlgiaaGreatDoorImF2
namespace Go.Proofs.YtefahocflhlgiaaGreatDoor
open Go.RowKit Plain1 Plain2 Strs Strs2 Lists Plain3 Plain5 Plain6 Plain9 Plain10 Plain11 Plain12 Plain13 Plain14

set_option maxHeartbeats 2000000 in
theorem imPi_any {w : World} {g : Nat} {s : ByteArray} {p : Nat} {m : Int} (h : ImBox w g s p) (he : Env w m) (hF : Far g) (hv : VB s p) (hs : s.size ≤ 1048576) (hp : p ≤ s.size) :
    Calls Tryz.prog 54 #[.pointer (some ⟨g, 0, none⟩)] w fun e w' => TtSays w g s (piZ s p) e w' := by
  have F0 := mkHidI1 (Ir.start h he hF)
  have hc := imName_any F0.out.sc F0.out.env.tabs hv hs hp
  obtain ⟨Z, hZ⟩ : ∃ Z, piZ s p = Z := ⟨_, rfl⟩
  rw [hZ]
  have HZ := mkHidI1 hZ
  clear h he hF hZ
  go_enter Tryz.func54, Tryz.ntmps54
  go_wp2_with fail
  refine hc.mono ?_
  rintro e w1 ⟨t, q, rfl, hb1, hq, hT, hg1⟩
  have F1 := mkHidI1 (F0.out.step hb1 hg1)
  clear hc F0 hb1 hg1
  by_cases hf : nmF s p = 0
  · obtain ⟨ht, hq'⟩ := hT hf
    have hns := nm_spec hf
    have hts : t.size ≤ 1048576 := by rw [ht]; unfold nmT; rw [ext_size (by omega)]; omega
    have hfo := fold_any t w1 hts F1.out.env.fo
    have hZ0 : Z = if xmlB t = true then failT 2 else if q < whiteZ s q then (if upF s (whiteZ s q) [63, 62] = 0 then ⟨0, 7, t, upT s (whiteZ s q) [63, 62], [], upP s (whiteZ s q) [63, 62]⟩ else failT (upF s (whiteZ s q) [63, 62]))
        else if mustF s (whiteZ s q) [63, 62] = 0 then ⟨0, 7, t, ByteArray.empty, [], whiteZ s q + 2⟩ else failT (mustF s (whiteZ s q) [63, 62]) := by
      rw [← HZ.out]; unfold piZ; rw [if_neg (by omega)]; rw [ht, hq']
    have HZ0 := mkHidI1 hZ0
    simp only [hf, errV0]
    clear hT ht hq' hf hns hZ0 HZ hts
    cases hxm : xmlB t with
    | true =>
      rw [hxm] at hfo
      have hZ1 := HZ0.out
      rw [hxm, if_pos rfl] at hZ1
      have HZ1 := mkHidI1 hZ1
      clear hZ1 HZ0 hxm
      go_wp2_with fail
      refine hfo.mono ?_
      rintro e w2 ⟨rfl, hg2⟩
      have F2 := mkHidI1 (F1.out.step (im_grown F1.out.sc hg2) (gnone hg2))
      clear hfo F1 hg2
      obtain ⟨r0, r1, r2, r3, s0, s1, s2, s3⟩ := tkcells F2.out.res
      go_wp2
      refine bodyPost_ret (v := .tuple #[.agg #[.int .i64 0, .string ⟨#[]⟩, .string ⟨#[]⟩, .slice none 0 0], errV 2]) (by simp [results, Tryz.results54, go_sem, r0, r1, r2, r3, errV2]) rfl ?_
      rw [HZ1.out]
      exact F2.out.fails (by omega) hq 0 ByteArray.empty ByteArray.empty (.slice none 0 0)
    | false =>
      rw [hxm] at hfo
      have hZ1 := HZ0.out
      rw [hxm, if_neg (by simp)] at hZ1
      clear HZ0 hxm
      go_wp2_with fail
      refine hfo.mono ?_
      rintro e w2 ⟨rfl, hg2⟩
      have F2 := mkHidI1 (F1.out.step (im_grown F1.out.sc hg2) (gnone hg2))
      have hwh := imWhite_any F2.out.sc hs hq
      have hr := whiteZ_le (s := s) hq
      obtain ⟨r, hrd⟩ : ∃ r, whiteZ s q = r := ⟨_, rfl⟩
      rw [hrd] at hwh hr hZ1
      clear hfo F1 hg2 hrd
      by_cases hw : q < r
      · rw [decide_eq_true hw] at hwh
        rw [if_pos hw] at hZ1
        have HZ1 := mkHidI1 hZ1
        clear hZ1
        go_wp2_with fail
        refine hwh.mono ?_
        rintro e w3 ⟨rfl, hb3, hg3⟩
        have F3 := mkHidI1 (F2.out.step hb3 hg3)
        have hu := upTo_any (sg := ⟨#[63, 62]⟩) F3.out.sc F3.out.env.mx hs hr
        clear hwh F2 hb3 hg3
        go_wp2_with fail
        refine hu.mono ?_
        rintro e w4 ⟨x, q4, rfl, hb4, hq4, hT4, hg4⟩
        have F4 := mkHidI1 (F3.out.step hb4 hg4)
        clear hu F3 hb4 hg4
        obtain ⟨r0, r1, r2, r3, s0, s1, s2, s3⟩ := tkcells F4.out.res
        go_wp2
        refine bodyPost_ret (v := .tuple #[.agg #[.int .i64 7, .string t, .string x, .slice none 0 0], errV (upF s r [63, 62])]) (by simp [results, Tryz.results54, go_sem, r0, r1, r2, r3]) rfl ?_
        rw [HZ1.out]
        by_cases hf4 : upF s r [63, 62] = 0
        · obtain ⟨hx, hq4'⟩ := hT4 hf4
          rw [if_pos hf4, hf4]
          have hx' : x = upT s r [63, 62] := hx
          have hq5 : q4 = upP s r [63, 62] := hq4'
          rw [← hx', ← hq5]
          exact F4.out.tells hq4 7 t x
        · rw [if_neg hf4]
          exact F4.out.fails hf4 hq4 7 t x (.slice none 0 0)
      · rw [decide_eq_false hw] at hwh
        rw [if_neg hw] at hZ1
        have HZ1 := mkHidI1 hZ1
        clear hZ1
        go_wp2_with fail
        refine hwh.mono ?_
        rintro e w3 ⟨rfl, hb3, hg3⟩
        have F3 := mkHidI1 (F2.out.step hb3 hg3)
        have hm := imMust_any (sg := ⟨#[63, 62]⟩) F3.out.sc hs hr
        clear hwh F2 hb3 hg3
        go_wp2_with fail
        refine hm.mono ?_
        rintro e w4 ⟨rfl, hb4, hg4⟩
        have F4 := mkHidI1 (F3.out.step hb4 hg4)
        clear hm F3 hb4 hg4
        obtain ⟨r0, r1, r2, r3, s0, s1, s2, s3⟩ := tkcells F4.out.res
        go_wp2
        refine bodyPost_ret (v := .tuple #[.agg #[.int .i64 7, .string t, .string ⟨#[]⟩, .slice none 0 0], errV (mustF s r [63, 62])]) (by simp [results, Tryz.results54, go_sem, r0, r1, r2, r3]) rfl ?_
        rw [HZ1.out]
        exact Ir.must (T := ⟨0, 7, t, ByteArray.empty, [], r + 2⟩) F4.out hr (fun h0 => by have := has_room (must_has.1 h0) hr; simpa using this) ⟨rfl, rfl⟩
  · have hZ1 : Z = failT (nmF s p) := by rw [← HZ.out]; unfold piZ; rw [if_pos hf]
    obtain ⟨r0, r1, r2, r3, s0, s1, s2, s3⟩ := tkcells F1.out.res
    rcases nmF_012 s p with h0 | h0 | h0
    · exact absurd h0 hf
    all_goals
      rw [h0] at hZ1
      have HZ1 := mkHidI1 hZ1
      simp only [h0, errV1, errV2]
      clear hT hZ1 hf HZ h0
      go_wp2
      refine bodyPost_ret (v := .tuple #[.agg #[.int .i64 0, .string ⟨#[]⟩, .string ⟨#[]⟩, .slice none 0 0], _]) (by simp [results, Tryz.results54, go_sem, r0, r1, r2, r3]; rfl) rfl ?_
      rw [HZ1.out]
      exact F1.out.fails (by omega) hq 0 ByteArray.empty ByteArray.empty (.slice none 0 0)
end Go.Proofs.YtefahocflhlgiaaGreatDoor
