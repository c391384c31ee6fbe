/- The model's scanner: a mark. -/
import Derived.Test.YtefahocflhlgiaaGreatDoorTok13
import Derived.Test.YtefahocflhlgiaaGreatDoorTok9b
import Derived.Test.YtefahocflhlgiaaGreatDoorPlain12
namespace Go.Proofs.YtefahocflhlgiaaGreatDoor
open Go.RowKit Plain1 Strs Strs2 Lists Plain3 Plain5 Plain6 Plain9 Plain10 Plain11 Plain12

theorem mustGo_short {s what : ByteArray} : ∀ (f i p : Nat), (mustGo s what f i ⟨p, 0⟩).fl = 1 → s.size ≤ (mustGo s what f i ⟨p, 0⟩).pos
  | 0, i, p, h => by simp [mustGo] at h
  | f + 1, i, p, h => by
    by_cases hi : i < what.size
    · by_cases he : s.size ≤ p
      · rw [must_end ⟨hi, rfl⟩ he, ended_end he rfl]; exact he
      · by_cases hb : byteAt s p = byteAt what i
        · rw [must_on ⟨hi, rfl⟩ he hb] at h ⊢; exact mustGo_short f _ _ h
        · rw [must_bad ⟨hi, rfl⟩ he hb] at h; cases h
    · rw [must_stop (fun hh => hi hh.1)] at h; cases h
theorem mustF_012 (s : ByteArray) (p : Nat) (sg : List UInt8) : mustF s p sg = 0 ∨ mustF s p sg = 1 ∨ mustF s p sg = 2 := by
  unfold mustF lackZ; split <;> (try split) <;> simp
theorem must_call2 (w : World) (g : Nat) (s what : ByteArray) (p : Nat) (sg : List UInt8) (hsg : what.data.toList = sg) (h : ScBox w g s ⟨p, 0⟩) (hs : s.size ≤ 1048576) (hw : what.size ≤ 1048576) (hp : p ≤ s.size) :
    Calls Tryz.prog 87 #[.pointer (some ⟨g, 0, none⟩), .string what] w fun e w' => ∃ q, e = .returned (.tuple #[]) ∧ ScBox w' g s ⟨q, mustF s p sg⟩ ∧ q ≤ s.size ∧ (mustF s p sg = 0 → q = p + sg.length) ∧ (mustF s p sg = 1 → s.size ≤ q) ∧ w.grownBy w' (some g) := by
  subst hsg
  refine (must_any w g s what ⟨p, 0⟩ h hs hw hp).mono ?_
  rintro e w' ⟨he, hb, hg⟩
  have hfl := must_fl (s := s) (what := what) hp
  refine ⟨((Sc.mk p 0).must s what).pos, he, ?_, must_le hp, must_pos hp, fun h1 => mustGo_short _ _ _ (hfl.trans h1), hg⟩
  rw [← hfl]; exact hb
theorem Fr0.drew {w W : World} {g : Nat} {s : ByteArray} {x : Sc} (h : Fr0 w W g s x) (n : Nat) : Fr0 w (W.drewN n) g s x := h.step h.sc (gdrew5 W n _)
theorem Fr0.pos {w W : World} {g : Nat} {s : ByteArray} {p f : Nat} (h : Fr0 w W g s ⟨p, f⟩) {z : Int} (q : Nat) (hz : z = (q : Int)) : Fr0 w (W.setCell ⟨g, 1, none⟩ (.int .i64 z)) g s ⟨q, f⟩ := h.step (box_posI h.sc q hz) (gset5 _)
/-- A mark that a function of its own has read, handed on. -/
theorem Fr0.pass {w W w' : World} {g : Nat} {s : ByteArray} {x : Sc} (h : Fr0 w W g s x) {kd : Int} {nm tx : ByteArray} {ao : Option Addr} {an ac : Nat} {q : Nat} {T : Tk} (hb : ScBox w' g s ⟨q, T.fl⟩) (hq : q ≤ s.size)
    (hT : T.fl = 0 → kd = T.kind ∧ nm = T.name ∧ tx = T.text ∧ q = T.pos ∧ w'.ownsRow W.heap.size 109 2 (.slice ao an ac) T.attrs.length (acells T.attrs)) (hg : W.grownBy w' (some g)) :
    TkSays w g s T (.returned (.agg #[.int .i64 kd, .string nm, .string tx, .slice ao an ac])) ((((w'.setCell ⟨w.heap.size, 0, none⟩ (.int .i64 kd)).setCell ⟨w.heap.size, 1, none⟩ (.string nm)).setCell ⟨w.heap.size, 2, none⟩ (.string tx)).setCell ⟨w.heap.size, 3, none⟩ (.slice ao an ac)) := by
  have h' := h.step hb hg
  have hF := fin4 h'.sc h'.grown h'.lt (.int .i64 kd) (.string nm) (.string tx) (.slice ao an ac)
  have ha := tk_lt h.res
  refine ⟨kd, nm, tx, ao, an, ac, q, rfl, hF.1, hq, fun h0 => ?_, hF.2⟩
  obtain ⟨e1, e2, e3, e4, hr0⟩ := hT h0
  have hs : ∀ {W0 : World} (j : Nat) (u : Value), W0.ownsRow W.heap.size 109 2 (.slice ao an ac) T.attrs.length (acells T.attrs) → (W0.setCell ⟨w.heap.size, j, none⟩ u).ownsRow W.heap.size 109 2 (.slice ao an ac) T.attrs.length (acells T.attrs) :=
    fun j u h0 => h0.kept (gset5 (g := w.heap.size) (j := j) u) (.inr fun e => by have := h0.lt _ e; omega)
  have hr := hs 3 (.slice ao an ac) (hs 2 (.string tx) (hs 1 (.string nm) (hs 0 (.int .i64 kd) hr0)))
  refine ⟨e1, e2, e3, e4, ?_⟩
  rcases hr with ⟨h1, h2⟩
  refine ⟨h1, ?_⟩
  rcases h2 with h2 | ⟨b, cap, cur, h3, h4, h5⟩
  · exact .inl h2
  · exact .inr ⟨b, cap, cur, h3, by omega, h5⟩

set_option maxHeartbeats 4000000 in
theorem mark_ok (w : World) (g : Nat) (s : ByteArray) (p : Nat) (h : ScBox w g s ⟨p, 0⟩) (hs : s.size ≤ 1048576) (hp : p < s.size) (h60 : byteAt s p = 60) :
    Calls Tryz.prog 61 #[.pointer (some ⟨g, 0, none⟩)] w fun e w' => TkSays w g s (markZ s p) e w' := by
  obtain ⟨Z, hZd⟩ : ∃ Z, markZ s p = Z := ⟨_, rfl⟩
  rw [hZd]
  have F0 := mkHidT (Fr0.start h)
  have hm := must_call _ g s ⟨#[60]⟩ p [60] rfl F0.out.sc hs (by decide) (by omega)
  have hm0 : mustF s p [60] = 0 := by
    rw [must_has, has_cons hp, has_nil, (u8At_is 60 60 rfl).1 h60]; rfl
  rw [hm0] at hm
  have HZ := mkHidT hZd
  have H60 := mkHidT h60
  clear h hm0 hZd h60
  go_enter Tryz.func61, Tryz.ntmps61
  go_wp2_with fail
  refine hm.mono ?_
  rintro e w1 ⟨q, rfl, hb1, hq, hq1, hg1⟩
  have hqq : q = p + 1 := by simpa using hq1
  have HQ := mkHidT hqq
  have F1 := mkHidT (F0.out.step hb1 hg1)
  clear hm F0 hb1 hg1 hq1 hqq
  have ho := ok_any _ g s _ F1.out.sc
  simp only [decide_true] at ho
  have hen := end_any _ g s _ F1.out.sc (by show q ≤ _; omega)
  go_wp2_with fail
  refine ho.mono ?_
  rintro e w2 ⟨rfl, hww⟩
  obtain rfl := hww.symm
  clear ho
  by_cases he : s.size ≤ q
  · simp only [decide_eq_true he, ended_end (x := ⟨q, 0⟩) (s := s) he rfl] at hen
    go_wp2_with fail
    refine hen.mono ?_
    rintro e w3 ⟨rfl, hb3, hg3⟩
    have F3 := mkHidT (F1.out.step hb3 hg3)
    clear hen F1 hb3 hg3
    obtain ⟨r0, r1, r2, r3, s0, s1, s2, s3⟩ := tkcells F3.out.res
    go_wp2
    refine bodyPost_ret (v := .agg #[.int .i64 0, .string ⟨#[]⟩, .string ⟨#[]⟩, .slice none 0 0]) (by simp [results, Tryz.results61, go_sem, r0, r1, r2, r3]) rfl ?_
    rw [← HZ.out, mark_end1 hp H60.out (by rw [← HQ.out]; exact he)]
    exact F3.out.fails (by simp) hq 0 ByteArray.empty ByteArray.empty (.slice none 0 0)
  · simp only [decide_eq_false he, ended_in (x := ⟨q, 0⟩) (s := s) (show q < s.size by omega)] at hen
    go_wp2_with fail
    refine hen.mono ?_
    rintro e w3 ⟨rfl, hb3, hg3⟩
    have F3 := mkHidT (F1.out.step hb3 hg3)
    clear hen F1 hb3 hg3
    have hp1 : q < s.size := by omega
    obtain ⟨c, hcb⟩ : ∃ c, byteAt s q = c := ⟨_, rfl⟩
    have hix : ∀ wx, (Instr.index 9 (.string s) (.int .i64 (q : Int))).run Tryz.prog wx = .ok (.int .u8 c) wx := fun wx => by rw [run_index_byte wx 9 s q (by omega) Tryz.underlying9, hcb]
    have HC : Hid (byteAt s (p + 1) = c) := by rw [← HQ.out]; exact mkHidT hcb
    have hw1 : IntKind.i64.wrap ((q : Int) + 1) = (q : Int) + 1 := wrapSm (by omega) (by omega)
    clear hcb
    obtain ⟨b0, b1, b2, b3, b4, f1, f2, f3, f4⟩ := block0 F3.out.sc
    go_wp2_with fail
    go_quiet (fail)
    have F4 := mkHidT (F3.out.drew nq)
    clear F3 b0 b1 b2 b3 b4 f1 f2 f3 f4 hix
    generalize w3.drewN nq = w4 at F4 ⊢
    obtain ⟨b0, b1, b2, b3, b4, f1, f2, f3, f4⟩ := block0 F4.out.sc
    by_cases h47 : c = 47
    · subst h47
      have HZ1 : Hid (Z = endZ s (q + 1)) := by rw [← HZ.out, mark_slash (by have := HQ.out; omega) H60.out HC.out, HQ.out]; exact mkHidT rfl
      go_wp2_with fail
      have F5 := mkHidT (F4.out.pos (q + 1) (by omega : (q : Int) + 1 = ((q + 1 : Nat) : Int)))
      have hnm := name_ok _ g s (q + 1) F5.out.sc hs (by omega)
      refine hnm.mono ?_
      rintro e w5 ⟨nm, q2, rfl, hb5, hq5, hT, hg5⟩
      have F6 := mkHidT (F5.out.step hb5 hg5)
      clear hnm F4 F5 hb5 hg5 b0 b1 b2 b3 b4 f1 f2 f3 f4
      have F7 := mkHidT (F6.out.new 2 nm ByteArray.empty (.slice none 0 0))
      have hwh := white_any _ g s _ F7.out.fr.sc hs hq5
      go_wp2_with fail
      refine hwh.mono ?_
      rintro e w6 ⟨rfl, hbw, hgw⟩
      have F8 := mkHidT (F7.out.step hbw hgw)
      have hr := whiteZ_le (s := s) hq5
      clear hwh F6 F7 hbw hgw
      by_cases hf : nmF s (q + 1) = 0
      · obtain ⟨hn, hq'⟩ := hT hf
        rw [hf] at F8
        have HZ2 : Hid (Z = if mustF s (whiteZ s q2) [62] = 0 then ⟨0, 2, nm, ByteArray.empty, [], whiteZ s q2 + 1⟩ else failT (mustF s (whiteZ s q2) [62])) := by
          rw [HZ1.out]; unfold endZ; rw [if_neg (by omega), ← hn, ← hq']; exact mkHidT rfl
        clear hT hn hq' hf HZ1
        have hm := must_call _ g s ⟨#[62]⟩ _ [62] rfl F8.out.fr.sc hs (by decide) hr
        go_wp2_with fail
        refine hm.mono ?_
        rintro e w7 ⟨q3, rfl, hb7, hl7, hp7, hg7⟩
        have F9 := mkHidT (F8.out.step hb7 hg7)
        clear hm F8 hb7 hg7
        obtain ⟨k0, k1, k2, k3, _, _, _, _⟩ := tkcells F9.out.box
        obtain ⟨r0, r1, r2, r3, s0, s1, s2, s3⟩ := tkcells F9.out.fr.res
        go_wp2
        refine bodyPost_ret (v := .agg #[.int .i64 2, .string nm, .string ByteArray.empty, .slice none 0 0]) (by simp [results, Tryz.results61, go_sem, r0, r1, r2, r3]) rfl ?_
        rw [HZ2.out]
        by_cases hf2 : mustF s (whiteZ s q2) [62] = 0
        · have hq2 := hp7 hf2
          have F10 := F9.out.fr
          rw [hf2] at F10
          rw [if_pos hf2]
          subst hq2
          exact F10.tells hl7 2 nm ByteArray.empty
        · rw [if_neg hf2]
          exact F9.out.fr.fails hf2 hl7 2 nm ByteArray.empty (.slice none 0 0)
      · have HZ2 : Hid (Z = failT (nmF s (q + 1))) := by
          rw [HZ1.out]; unfold endZ; rw [if_pos hf]; exact mkHidT rfl
        have hm := must_fails _ g s ⟨#[62]⟩ _ F8.out.fr.sc hf hs (by decide) hr
        clear hT HZ1
        go_wp2_with fail
        refine hm.mono ?_
        rintro e w7 ⟨rfl, hb7, hg7⟩
        have F9 := mkHidT (F8.out.step hb7 hg7)
        clear hm F8 hb7 hg7
        obtain ⟨k0, k1, k2, k3, _, _, _, _⟩ := tkcells F9.out.box
        obtain ⟨r0, r1, r2, r3, s0, s1, s2, s3⟩ := tkcells F9.out.fr.res
        go_wp2
        refine bodyPost_ret (v := .agg #[.int .i64 2, .string nm, .string ByteArray.empty, .slice none 0 0]) (by simp [results, Tryz.results61, go_sem, r0, r1, r2, r3]) rfl ?_
        rw [HZ2.out]
        exact F9.out.fr.fails hf hr 2 nm ByteArray.empty (.slice none 0 0)
    by_cases h63 : c = 63
    · subst h63
      have HZ1 : Hid (piZ s (q + 1) = Z) := by rw [← HZ.out, mark_pi (by have := HQ.out; omega) H60.out HC.out, HQ.out]; exact mkHidT rfl
      go_wp2_with fail
      have F5 := mkHidT (F4.out.pos (q + 1) (by omega : (q : Int) + 1 = ((q + 1 : Nat) : Int)))
      have hc := pi_ok _ g s (q + 1) F5.out.sc hs (by omega)
      rw [HZ1.out] at hc
      refine hc.mono ?_
      rintro e w5 ⟨kd, nm, tx, ao, an, ac, q5, rfl, hb5, hq5, hT, hg5⟩
      have F6 := mkHidT (F5.out.step hb5 hg5)
      clear hc F4 b0 b1 b2 b3 b4 f1 f2 f3 f4
      obtain ⟨r0, r1, r2, r3, s0, s1, s2, s3⟩ := tkcells F6.out.res
      have HP := mkHidT (F5.out.pass hb5 hq5 hT hg5)
      clear F5 F6 hb5 hT hg5
      go_wp2
      refine bodyPost_ret (v := .agg #[.int .i64 kd, .string nm, .string tx, .slice ao an ac]) (by simp [results, Tryz.results61, go_sem, r0, r1, r2, r3]) rfl ?_
      exact HP.out
    by_cases h33 : c = 33
    · subst h33
      obtain ⟨r, hrd⟩ : ∃ r, q + 1 = r := ⟨_, rfl⟩
      have hr : r ≤ s.size := by omega
      have hrp : (p + 2 : Nat) = r := by rw [← hrd, HQ.out]
      have HRP := mkHidT hrp
      have HRD := mkHidT hrd
      clear hrp hrd
      go_wp2_with fail
      have F5 := mkHidT (F4.out.pos (z := (q : Int) + 1) r (by have := HRD.out; omega))
      have hen := end_any _ g s _ F5.out.sc (by show r ≤ _; omega)
      clear F4 b0 b1 b2 b3 b4 f1 f2 f3 f4
      by_cases he2 : s.size ≤ r
      · simp only [decide_eq_true he2, ended_end (x := ⟨r, 0⟩) (s := s) he2 rfl] at hen
        refine hen.mono ?_
        rintro e w6 ⟨rfl, hb6, hg6⟩
        have F6 := mkHidT (F5.out.step hb6 hg6)
        clear hen F5 hb6 hg6
        obtain ⟨r0, r1, r2, r3, s0, s1, s2, s3⟩ := tkcells F6.out.res
        go_wp2
        refine bodyPost_ret (v := .agg #[.int .i64 0, .string ⟨#[]⟩, .string ⟨#[]⟩, .slice none 0 0]) (by simp [results, Tryz.results61, go_sem, r0, r1, r2, r3]) rfl ?_
        rw [← HZ.out, mark_excl_end (by have := HQ.out; omega) H60.out HC.out (by rw [HRP.out]; exact he2)]
        exact F6.out.fails (by simp) hr 0 ByteArray.empty ByteArray.empty (.slice none 0 0)
      · simp only [decide_eq_false he2, ended_in (x := ⟨r, 0⟩) (s := s) (show r < s.size by omega)] at hen
        refine hen.mono ?_
        rintro e w6 ⟨rfl, hb6, hg6⟩
        have F6 := mkHidT (F5.out.step hb6 hg6)
        clear hen F5 hb6 hg6
        have hp2 : p + 2 < s.size := by have := HRP.out; omega
        have HP2 := mkHidT hp2
        clear hp2
        obtain ⟨d, hdb⟩ : ∃ d, byteAt s r = d := ⟨_, rfl⟩
        have hix : ∀ wx, (Instr.index 9 (.string s) (.int .i64 (r : Int))).run Tryz.prog wx = .ok (.int .u8 d) wx := fun wx => by rw [run_index_byte wx 9 s r (by omega) Tryz.underlying9, hdb]
        have HD : Hid (byteAt s (p + 2) = d) := by rw [HRP.out]; exact mkHidT hdb
        clear hdb
        obtain ⟨b0, b1, b2, b3, b4, f1, f2, f3, f4⟩ := block0 F6.out.sc
        go_wp2_with fail
        go_quiet (fail)
        have F7 := mkHidT (F6.out.drew nq)
        clear F6 b0 b1 b2 b3 b4 f1 f2 f3 f4 hix
        generalize w6.drewN nq = w7 at F7 ⊢
        by_cases h45 : d = 45
        · subst h45
          have hZ1 := mark_dash HP2.out H60.out HC.out HD.out
          rw [HZ.out, HRP.out, show p + 4 = r + 2 by have := HRP.out; omega] at hZ1
          have HZ1 := mkHidT hZ1
          have hm := must_call _ g s ⟨#[45, 45]⟩ _ [45, 45] rfl F7.out.sc hs (by decide) hr
          clear hZ1
          go_wp2_with fail
          refine hm.mono ?_
          rintro e w8 ⟨q8, rfl, hb8, hl8, hp8, hg8⟩
          have F8 := mkHidT (F7.out.step hb8 hg8)
          clear hm F7 hb8 hg8
          have hc : Calls Tryz.prog 92 #[.pointer (some ⟨g, 0, none⟩)] w8 fun e w' => TkSays w8 g s Z e w' := by
            rw [HZ1.out]
            by_cases hf2 : mustF s r [45, 45] = 0
            · rw [if_pos hf2]
              have e8 : q8 = r + 2 := hp8 hf2
              have hsc := F8.out.sc
              rw [hf2, e8] at hsc
              exact comment_ok _ g s (r + 2) hsc hs (by rw [← e8]; exact hl8)
            · rw [if_neg hf2]
              exact comment_no _ g s _ F8.out.sc hf2 hs hl8
          clear hp8 HZ1
          go_wp2_with fail
          refine hc.mono ?_
          rintro e w5 ⟨kd, nm, tx, ao, an, ac, q5, rfl, hb5, hq5, hT, hg5⟩
          have F9 := mkHidT (F8.out.step hb5 hg5)
          clear hc
          obtain ⟨r0, r1, r2, r3, s0, s1, s2, s3⟩ := tkcells F9.out.res
          have HP := mkHidT (F8.out.pass hb5 hq5 hT hg5)
          clear F8 F9 hb5 hT hg5
          go_wp2
          refine bodyPost_ret (v := .agg #[.int .i64 kd, .string nm, .string tx, .slice ao an ac]) (by simp [results, Tryz.results61, go_sem, r0, r1, r2, r3]) rfl ?_
          exact HP.out
        by_cases h91 : d = 91
        · subst h91
          have hZ1 := mark_brack HP2.out H60.out HC.out HD.out
          rw [HZ.out, HRP.out, show p + 9 = r + 7 by have := HRP.out; omega] at hZ1
          have HZ1 := mkHidT hZ1
          have hm := must_call _ g s ⟨#[91, 67, 68, 65, 84, 65, 91]⟩ _ [91, 67, 68, 65, 84, 65, 91] rfl F7.out.sc hs (by decide) hr
          clear hZ1
          go_wp2_with fail
          refine hm.mono ?_
          rintro e w8 ⟨q8, rfl, hb8, hl8, hp8, hg8⟩
          have F8 := mkHidT (F7.out.step hb8 hg8)
          clear hm F7 hb8 hg8
          by_cases hf2 : mustF s r [91, 67, 68, 65, 84, 65, 91] = 0
          · have e8 : q8 = r + 7 := hp8 hf2
            have hZ2 := HZ1.out
            rw [if_pos hf2, ← e8] at hZ2
            have HZ2 := mkHidT hZ2
            rw [hf2] at F8
            have hc := till_call _ g s ⟨#[93, 93, 62]⟩ q8 [93, 93, 62] rfl F8.out.sc hs hl8 (by decide) (by simp)
            clear hp8 HZ1 hf2 e8 hZ2
            go_wp2_with fail
            refine hc.mono ?_
            rintro e w9 ⟨t, q9, rfl, hb9, hl9, hp9, hg9⟩
            have F9 := mkHidT (F8.out.step hb9 hg9)
            clear hc F8 hb9 hg9
            obtain ⟨r0, r1, r2, r3, s0, s1, s2, s3⟩ := tkcells F9.out.res
            go_wp2
            refine bodyPost_ret (v := .agg #[.int .i64 5, .string ⟨#[]⟩, .string t, .slice none 0 0]) (by simp [results, Tryz.results61, go_sem, r0, r1, r2, r3]) rfl ?_
            rw [HZ2.out]
            unfold cdataZ
            by_cases hf3 : upF s q8 [93, 93, 62] = 0
            · obtain ⟨ht, hqq⟩ := hp9 hf3
              have F10 := F9.out
              rw [hf3] at F10
              rw [if_pos hf3, ← ht, ← hqq]
              exact F10.tells hl9 5 ByteArray.empty t
            · rw [if_neg hf3]
              exact F9.out.fails hf3 hl9 5 ByteArray.empty t (.slice none 0 0)
          · have hZ2 := HZ1.out
            rw [if_neg hf2] at hZ2
            have HZ2 := mkHidT hZ2
            have hc := till_no _ g s ⟨#[93, 93, 62]⟩ _ F8.out.sc hf2
            clear hp8 HZ1 hZ2
            go_wp2_with fail
            refine hc.mono ?_
            rintro e w9 ⟨rfl, hww⟩
            obtain rfl := hww.symm
            clear hc
            obtain ⟨r0, r1, r2, r3, s0, s1, s2, s3⟩ := tkcells F8.out.res
            go_wp2
            refine bodyPost_ret (v := .agg #[.int .i64 5, .string ⟨#[]⟩, .string ByteArray.empty, .slice none 0 0]) (by simp [results, Tryz.results61, go_sem, r0, r1, r2, r3]) rfl ?_
            rw [HZ2.out]
            exact F8.out.fails hf2 hl8 5 ByteArray.empty ByteArray.empty (.slice none 0 0)
        · have hZ1 := mark_doc HP2.out H60.out HC.out (by rw [HD.out]; exact h45) (by rw [HD.out]; exact h91)
          rw [HZ.out, HRP.out, show p + 9 = r + 7 by have := HRP.out; omega] at hZ1
          have HZ1 := mkHidT hZ1
          have hm := must_call2 _ g s ⟨#[68, 79, 67, 84, 89, 80, 69]⟩ _ [68, 79, 67, 84, 89, 80, 69] rfl F7.out.sc hs (by decide) hr
          clear hZ1
          go_wp2_with fail
          refine hm.mono ?_
          rintro e w8 ⟨q8, rfl, hb8, hl8, hp8, hs8, hg8⟩
          have F8 := mkHidT (F7.out.step hb8 hg8)
          clear hm F7 hb8 hg8
          have hc : Calls Tryz.prog 94 #[.pointer (some ⟨g, 0, none⟩)] w8 fun e w' => TkSays w8 g s Z e w' := by
            rw [HZ1.out]
            by_cases hf2 : mustF s r [68, 79, 67, 84, 89, 80, 69] = 0
            · rw [if_pos hf2]
              have e8 : q8 = r + 7 := hp8 hf2
              have hsc := F8.out.sc
              rw [hf2, e8] at hsc
              exact doctype_ok _ g s (r + 7) hsc hs (by rw [← e8]; exact hl8)
            · rw [if_neg hf2]
              refine doctype_no _ g s _ _ F8.out.sc hf2 ?_ hs hl8
              rcases mustF_012 s r [68, 79, 67, 84, 89, 80, 69] with h0 | h0 | h0
              · exact absurd h0 hf2
              · exact .inr (hs8 h0)
              · exact .inl h0
          clear hp8 hs8 HZ1
          go_wp2_with fail
          refine hc.mono ?_
          rintro e w5 ⟨kd, nm, tx, ao, an, ac, q5, rfl, hb5, hq5, hT, hg5⟩
          have F9 := mkHidT (F8.out.step hb5 hg5)
          clear hc
          obtain ⟨r0, r1, r2, r3, s0, s1, s2, s3⟩ := tkcells F9.out.res
          have HP := mkHidT (F8.out.pass hb5 hq5 hT hg5)
          clear F8 F9 hb5 hT hg5
          go_wp2
          refine bodyPost_ret (v := .agg #[.int .i64 kd, .string nm, .string tx, .slice ao an ac]) (by simp [results, Tryz.results61, go_sem, r0, r1, r2, r3]) rfl ?_
          exact HP.out
    · have HZ1 : Hid (tagZ s q = Z) := by rw [← HZ.out, mark_tag (by have := HQ.out; omega) H60.out (by rw [HC.out]; exact h47) (by rw [HC.out]; exact h63) (by rw [HC.out]; exact h33), HQ.out]; exact mkHidT rfl
      have hc := tag_ok _ g s q F4.out.sc hs hq
      rw [HZ1.out] at hc
      go_wp2_with fail
      refine hc.mono ?_
      rintro e w5 ⟨kd, nm, tx, ao, an, ac, q5, rfl, hb5, hq5, hT, hg5⟩
      have F6 := mkHidT (F4.out.step hb5 hg5)
      clear hc b0 b1 b2 b3 b4 f1 f2 f3 f4
      obtain ⟨r0, r1, r2, r3, s0, s1, s2, s3⟩ := tkcells F6.out.res
      have HP := mkHidT (F4.out.pass hb5 hq5 hT hg5)
      clear F4 F6 hb5 hT hg5
      go_wp2
      refine bodyPost_ret (v := .agg #[.int .i64 kd, .string nm, .string tx, .slice ao an ac]) (by simp [results, Tryz.results61, go_sem, r0, r1, r2, r3]) rfl ?_
      exact HP.out
end Go.Proofs.YtefahocflhlgiaaGreatDoor
