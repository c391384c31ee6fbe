/- The contracts of the model's Split and of the program's. -/
import Derived.Test.YtpkhdfddbcpciaaDoorSplitModel
import Derived.Test.YtpkhdfddbcpciaaDoorNameImpl
import Derived.Test.YtpkhdfddbcpciaaDoorShelfC
namespace Go.Proofs.YtpkhdfddbcpciaaDoor
open Go.RowKit Plain1 Plain2 Strs Strs2 Lists Plain3 Plain5 Plain6 Plain9 Plain10 Plain11 Plain12 Plain13 PlainS

/-- The answer's place: a new block of three cells. -/
def zQ : Obj := .cells #[.string ⟨#[]⟩, .string ⟨#[]⟩, .int .i64 0] 37
structure QBox (w W : World) : Prop where
  res : W.heap[w.heap.size]? = some zQ
  bel : Below w.heap.size w W
theorem QBox.start (w : World) : QBox w (w.alloc zQ) := ⟨heap_alloc_new w zQ, (Below.refl _ _).alloc (Nat.le_refl _) _⟩
theorem QBox.step {w W W' : World} (h : QBox w W) (hb : Below W.heap.size W W') : QBox w W' :=
  ⟨by rw [hb.block _ (Array.getElem?_eq_some_iff.1 h.res).1]; exact h.res, h.bel.trans (hb.mono h.bel.size)⟩
theorem QBox.cells {w W : World} (h : QBox w W) : W.cell? ⟨w.heap.size, 0, none⟩ = some (.string ⟨#[]⟩) ∧ W.cell? ⟨w.heap.size, 1, none⟩ = some (.string ⟨#[]⟩) ∧ W.cell? ⟨w.heap.size, 2, none⟩ = some (.int .i64 0) ∧ W.frozen? ⟨w.heap.size, 0, none⟩ = false ∧ W.frozen? ⟨w.heap.size, 1, none⟩ = false ∧ W.frozen? ⟨w.heap.size, 2, none⟩ = false := by
  simp [World.cell?, World.frozen?, h.res, zQ]
theorem below_new {w W : World} (h : Below w.heap.size w W) (j : Nat) (u : Value) : Below w.heap.size w (W.setCell ⟨w.heap.size, j, none⟩ u) :=
  ⟨h.os, h.tape, h.output, by have := h.size; simpa using this, fun i hi => by rw [Below.heap_setCell W ⟨w.heap.size, j, none⟩ u i (by simp only; omega)]; exact h.block i hi⟩
theorem QBox.fin {w W : World} (h : QBox w W) (a b c : Value) : Below w.heap.size w (((W.setCell ⟨w.heap.size, 0, none⟩ a).setCell ⟨w.heap.size, 1, none⟩ b).setCell ⟨w.heap.size, 2, none⟩ c) :=
  below_new (below_new (below_new h.bel 0 a) 1 b) 2 c

set_option maxHeartbeats 2000000 in
theorem specSplit_any (s : ByteArray) (w : World) (hs : s.size ≤ 1048576) :
    Calls Tryd.prog 28 #[.string s] w fun e w' => e = .returned (.agg #[.string (splOut s).1, .string (splOut s).2.1, .int .i64 (splOut s).2.2]) ∧ Below w.heap.size w w' := by
  obtain ⟨Z, hZ⟩ : ∃ Z, splOut s = Z := ⟨_, rfl⟩
  rw [hZ]
  have HZ := mkHidS hZ
  clear hZ
  have Q0 := mkHidS (QBox.start w)
  have hc := l05Split_any s (w.alloc zQ) hs
  by_cases hbig : 4000 < s.size
  · have hZ2 : Z = (⟨#[]⟩, ⟨#[]⟩, 2) := by rw [← HZ.out]; unfold splOut; rw [if_pos hbig]
    subst hZ2
    go_enter Tryd.func28, Tryd.ntmps28
    go_wp2
    refine bodyPost_ret (v := .agg #[.string ⟨#[]⟩, .string ⟨#[]⟩, .int .i64 2]) (by simp [results, Tryd.results28, go_sem]) rfl ⟨rfl, ?_⟩
    exact (Below.refl _ _).alloc (Nat.le_refl _) _
  obtain ⟨X, hX⟩ : ∃ X, splitZ s = X := ⟨_, rfl⟩
  rw [hX] at hc
  have HX := mkHidS hX
  clear hX
  cases hb : X.2.2 with
  | false =>
    have hZ2 : Z = (⟨#[]⟩, ⟨#[]⟩, 3) := by rw [← HZ.out]; unfold splOut; rw [if_neg hbig, HX.out, if_neg (by rw [hb]; simp)]
    subst hZ2
    rw [hb] at hc
    go_enter Tryd.func28, Tryd.ntmps28
    go_wp2_with fail
    refine hc.mono ?_
    rintro e w1 ⟨rfl, hb1⟩
    have Q1 := mkHidS (Q0.out.step hb1)
    clear hc hb1
    obtain ⟨r0, r1, r2, f0, f1, f2⟩ := Q1.out.cells
    go_wp2
    refine bodyPost_ret (v := .agg #[.string ⟨#[]⟩, .string ⟨#[]⟩, .int .i64 3]) (by simp [results, Tryd.results28, go_sem, r0, r1, r2]) rfl ⟨rfl, ?_⟩
    exact Q1.out.fin _ _ _
  | true =>
    have hZ2 : Z = (X.1, X.2.1, 0) := by rw [← HZ.out]; unfold splOut; rw [if_neg hbig, HX.out, if_pos hb]
    subst hZ2
    rw [hb] at hc
    go_enter Tryd.func28, Tryd.ntmps28
    go_wp2_with fail
    refine hc.mono ?_
    rintro e w1 ⟨rfl, hb1⟩
    have Q1 := mkHidS (Q0.out.step hb1)
    clear hc hb1
    obtain ⟨r0, r1, r2, f0, f1, f2⟩ := Q1.out.cells
    go_wp2
    refine bodyPost_ret (v := .agg #[.string X.1, .string X.2.1, .int .i64 0]) (by simp [results, Tryd.results28, go_sem, r0, r1, r2]) rfl ⟨rfl, ?_⟩
    exact Q1.out.fin _ _ _

/-- The answer's place and what is read of the package's variables. -/
structure SFr (w W : World) (t : TypeId) (fr : Nat × Nat) (tp : TypeId) (frp : Nat × Nat) (m : Int) : Prop where
  q : QBox w W
  st : W.heap[0]? = some (.cells startCells t fr)
  pt : W.heap[1]? = some (.cells partCells tp frp)
  mx : W.cell? ⟨2, 0, none⟩ = some (.int .i64 m)
theorem SFr.step {w W W' : World} {t : TypeId} {fr : Nat × Nat} {tp : TypeId} {frp : Nat × Nat} {m : Int} (h : SFr w W t fr tp frp m) (hb : Below W.heap.size W W') : SFr w W' t fr tp frp m :=
  ⟨h.q.step hb, by rw [hb.block _ (Array.getElem?_eq_some_iff.1 h.st).1]; exact h.st, by rw [hb.block _ (Array.getElem?_eq_some_iff.1 h.pt).1]; exact h.pt, (hb.cell (p := ⟨2, 0, none⟩) (block_lt h.mx)).trans h.mx⟩
theorem SFr.drewN {w W : World} {t : TypeId} {fr : Nat × Nat} {tp : TypeId} {frp : Nat × Nat} {m : Int} (h : SFr w W t fr tp frp m) (n : Nat) : SFr w (W.drewN n) t fr tp frp m :=
  h.step ⟨rfl, rfl, rfl, Nat.le_refl _, fun _ _ => rfl⟩
theorem SFr.start {w : World} {t : TypeId} {fr : Nat × Nat} {tp : TypeId} {frp : Nat × Nat} {m : Int} (hg : w.heap[0]? = some (.cells startCells t fr)) (hgp : w.heap[1]? = some (.cells partCells tp frp)) (hm : w.cell? ⟨2, 0, none⟩ = some (.int .i64 m)) : SFr w (w.alloc zQ) t fr tp frp m :=
  ⟨QBox.start w, by rw [heap_alloc_old w zQ (Array.getElem?_eq_some_iff.1 hg).1]; exact hg, by rw [heap_alloc_old w zQ (Array.getElem?_eq_some_iff.1 hgp).1]; exact hgp, (((Below.refl _ _).alloc (Nat.le_refl _) zQ).cell (p := ⟨2, 0, none⟩) (block_lt hm)).trans hm⟩

set_option maxHeartbeats 2000000 in
theorem implSplit_any (s : ByteArray) (w : World) (hs : s.size ≤ 1048576) (t : TypeId) (fr : Nat × Nat) (hg : w.heap[0]? = some (.cells startCells t fr)) (tp : TypeId) (frp : Nat × Nat) (hgp : w.heap[1]? = some (.cells partCells tp frp)) (m : Int) (hm : w.cell? ⟨2, 0, none⟩ = some (.int .i64 m)) :
    Calls Tryd.prog 29 #[.string s] w fun e w' => e = .returned (.agg #[.string (splOut s).1, .string (splOut s).2.1, .int .i64 (splOut s).2.2]) ∧ Below w.heap.size w w' := by
  obtain ⟨Z, hZ⟩ : ∃ Z, splOut s = Z := ⟨_, rfl⟩
  rw [hZ]
  have HZ := mkHidS hZ
  clear hZ
  have Q0 := mkHidS (QBox.start w)
  by_cases hbig : 4000 < s.size
  · have hZ2 : Z = (⟨#[]⟩, ⟨#[]⟩, 2) := by rw [← HZ.out]; unfold splOut; rw [if_pos hbig]
    subst hZ2
    go_enter Tryd.func29, Tryd.ntmps29
    go_wp2
    refine bodyPost_ret (v := .agg #[.string ⟨#[]⟩, .string ⟨#[]⟩, .int .i64 2]) (by simp [results, Tryd.results29, go_sem]) rfl ⟨rfl, ?_⟩
    exact (Below.refl _ _).alloc (Nat.le_refl _) _
  have hcut := Tryd.strings_Cut s ⟨#[58]⟩ m (w.alloc zQ) (by omega) ((((Below.refl _ _).alloc (Nat.le_refl _) zQ).cell (p := ⟨2, 0, none⟩) (block_lt hm)).trans hm)
  have FA : Hid (SFr w (w.alloc zQ) t fr tp frp m) := mkHidS (SFr.start hg hgp hm)
  by_cases hf : upF s 0 [58] = 0
  · obtain ⟨h1, h2, h3, h4, h5, h6, h7⟩ := split_yes hf
    rw [h4, h5, h6] at hcut
    obtain ⟨X, hX⟩ : ∃ X, upT s 0 [58] = X := ⟨_, rfl⟩
    obtain ⟨Y, hY⟩ : ∃ Y, s.extract (upP s 0 [58]) s.size = Y := ⟨_, rfl⟩
    rw [hX, hY] at hcut h7
    rw [hX] at h2
    rw [hY] at h3
    have hnX := fun W (h : SFr w W t fr tp frp m) => implName_any X W t fr h.st tp frp h.pt
    have hnY := fun W (h : SFr w W t fr tp frp m) => implName_any Y W t fr h.st tp frp h.pt
    have hcY := fun W (h : SFr w W t fr tp frp m) => Tryd.strings_Contains Y ⟨#[58]⟩ m W (by omega) h.mx
    have H7 := mkHidS h7
    clear h4 h5 h6 h7 hX hY hf h1
    cases hbX : nameB X with
    | false =>
      rw [hbX] at hnX
      have hZ2 : Z = (⟨#[]⟩, ⟨#[]⟩, 3) := by rw [← HZ.out]; unfold splOut; rw [if_neg hbig, H7.out, hbX]; split <;> simp
      subst hZ2
      go_enter Tryd.func29, Tryd.ntmps29
      go_wp2_with fail
      refine hcut.mono ?_
      rintro e w1 ⟨rfl, n, hww⟩
      have F0 : Hid (SFr w w1 t fr tp frp m) := by rw [hww]; exact mkHidS (FA.out.drewN n)
      clear hww hcut
      obtain ⟨r0, r1, r2, f0, f1, f2⟩ := F0.out.q.cells
      go_wp2_with fail
      refine (hnX _ F0.out).mono ?_
      rintro e w2 ⟨rfl, hb2⟩
      have F1 := mkHidS (F0.out.step hb2)
      clear hb2 F0
      obtain ⟨r0, r1, r2, f0, f1, f2⟩ := F1.out.q.cells
      go_wp2
      refine bodyPost_ret (v := .agg #[.string ⟨#[]⟩, .string ⟨#[]⟩, .int .i64 3]) (by simp [results, Tryd.results29, go_sem, r0, r1, r2]) rfl ⟨rfl, ?_⟩
      exact F1.out.q.fin _ _ _
    | true =>
      rw [hbX] at hnX
      cases hbY : nameB Y with
      | false =>
        rw [hbY] at hnY
        have hZ2 : Z = (⟨#[]⟩, ⟨#[]⟩, 3) := by rw [← HZ.out]; unfold splOut; rw [if_neg hbig, H7.out, hbY]; split <;> simp
        subst hZ2
        go_enter Tryd.func29, Tryd.ntmps29
        go_wp2_with fail
        refine hcut.mono ?_
        rintro e w1 ⟨rfl, n, hww⟩
        have F0 : Hid (SFr w w1 t fr tp frp m) := by rw [hww]; exact mkHidS (FA.out.drewN n)
        clear hww hcut
        obtain ⟨r0, r1, r2, f0, f1, f2⟩ := F0.out.q.cells
        go_wp2_with fail
        refine (hnX _ F0.out).mono ?_
        rintro e w2 ⟨rfl, hb2⟩
        have F1 := mkHidS (F0.out.step hb2)
        clear hb2 F0
        obtain ⟨r0, r1, r2, f0, f1, f2⟩ := F1.out.q.cells
        go_wp2_with fail
        refine (hnY _ F1.out).mono ?_
        rintro e w3 ⟨rfl, hb3⟩
        have F2 := mkHidS (F1.out.step hb3)
        clear hb3 F1
        obtain ⟨r0, r1, r2, f0, f1, f2⟩ := F2.out.q.cells
        go_wp2
        refine bodyPost_ret (v := .agg #[.string ⟨#[]⟩, .string ⟨#[]⟩, .int .i64 3]) (by simp [results, Tryd.results29, go_sem, r0, r1, r2]) rfl ⟨rfl, ?_⟩
        exact F2.out.q.fin _ _ _
      | true =>
        rw [hbY] at hnY
        cases hbC : Lib.contains Y.data.toList [58] with
        | true =>
          have hcY : ∀ W, SFr w W t fr tp frp m → Calls Tryd.prog 47 #[.string Y, .string ⟨#[58]⟩] W fun e w' => e = .returned (.bool true) ∧ w' = W := fun W h => by have := hcY W h; rw [show (⟨#[58]⟩ : ByteArray).data.toList = [58] from rfl, hbC] at this; exact this
          have hZ2 : Z = (⟨#[]⟩, ⟨#[]⟩, 3) := by rw [← HZ.out]; unfold splOut; rw [if_neg hbig, H7.out, hbC, if_pos rfl]; simp
          subst hZ2
          go_enter Tryd.func29, Tryd.ntmps29
          go_wp2_with fail
          refine hcut.mono ?_
          rintro e w1 ⟨rfl, n, hww⟩
          have F0 : Hid (SFr w w1 t fr tp frp m) := by rw [hww]; exact mkHidS (FA.out.drewN n)
          clear hww hcut
          obtain ⟨r0, r1, r2, f0, f1, f2⟩ := F0.out.q.cells
          go_wp2_with fail
          refine (hnX _ F0.out).mono ?_
          rintro e w2 ⟨rfl, hb2⟩
          have F1 := mkHidS (F0.out.step hb2)
          clear hb2 F0
          obtain ⟨r0, r1, r2, f0, f1, f2⟩ := F1.out.q.cells
          go_wp2_with fail
          refine (hnY _ F1.out).mono ?_
          rintro e w3 ⟨rfl, hb3⟩
          have F2 := mkHidS (F1.out.step hb3)
          clear hb3 F1
          obtain ⟨r0, r1, r2, f0, f1, f2⟩ := F2.out.q.cells
          go_wp2_with fail
          refine (hcY _ F2.out).mono ?_
          rintro e w4 ⟨rfl, hww4⟩
          obtain rfl := hww4.symm
          go_wp2
          refine bodyPost_ret (v := .agg #[.string ⟨#[]⟩, .string ⟨#[]⟩, .int .i64 3]) (by simp [results, Tryd.results29, go_sem, r0, r1, r2]) rfl ⟨rfl, ?_⟩
          exact F2.out.q.fin _ _ _
        | false =>
          have hcY : ∀ W, SFr w W t fr tp frp m → Calls Tryd.prog 47 #[.string Y, .string ⟨#[58]⟩] W fun e w' => e = .returned (.bool false) ∧ w' = W := fun W h => by have := hcY W h; rw [show (⟨#[58]⟩ : ByteArray).data.toList = [58] from rfl, hbC] at this; exact this
          have hZ2 : Z = (X, Y, 0) := by rw [← HZ.out]; unfold splOut; rw [if_neg hbig, H7.out, hbC]; simp [hbX, hbY]
          subst hZ2
          go_enter Tryd.func29, Tryd.ntmps29
          go_wp2_with fail
          refine hcut.mono ?_
          rintro e w1 ⟨rfl, n, hww⟩
          have F0 : Hid (SFr w w1 t fr tp frp m) := by rw [hww]; exact mkHidS (FA.out.drewN n)
          clear hww hcut
          obtain ⟨r0, r1, r2, f0, f1, f2⟩ := F0.out.q.cells
          go_wp2_with fail
          refine (hnX _ F0.out).mono ?_
          rintro e w2 ⟨rfl, hb2⟩
          have F1 := mkHidS (F0.out.step hb2)
          clear hb2 F0
          obtain ⟨r0, r1, r2, f0, f1, f2⟩ := F1.out.q.cells
          go_wp2_with fail
          refine (hnY _ F1.out).mono ?_
          rintro e w3 ⟨rfl, hb3⟩
          have F2 := mkHidS (F1.out.step hb3)
          clear hb3 F1
          obtain ⟨r0, r1, r2, f0, f1, f2⟩ := F2.out.q.cells
          go_wp2_with fail
          refine (hcY _ F2.out).mono ?_
          rintro e w4 ⟨rfl, hww4⟩
          obtain rfl := hww4.symm
          go_wp2
          refine bodyPost_ret (v := .agg #[.string X, .string Y, .int .i64 0]) (by simp [results, Tryd.results29, go_sem, r0, r1, r2]) rfl ⟨rfl, ?_⟩
          exact F2.out.q.fin _ _ _
  · obtain ⟨h1, h2⟩ := split_no hf
    have hcn := (cut_no hf).1
    have hr : rest s 0 = s.data.toList := by unfold rest; rw [List.drop_zero]
    rw [hr] at hcn
    rw [show (⟨#[58]⟩ : ByteArray).data.toList = [58] from rfl, hcn] at hcut
    have hself : (⟨(s.data.toList).toArray⟩ : ByteArray) = s := by simp
    simp only [hself] at hcut
    have hnY := fun W (h : SFr w W t fr tp frp m) => implName_any s W t fr h.st tp frp h.pt
    have hcY : ∀ W, SFr w W t fr tp frp m → Calls Tryd.prog 47 #[.string s, .string ⟨#[58]⟩] W fun e w' => e = .returned (.bool false) ∧ w' = W := fun W h => by have := Tryd.strings_Contains s ⟨#[58]⟩ m W (by omega) h.mx; rw [show (⟨#[58]⟩ : ByteArray).data.toList = [58] from rfl, h2] at this; exact this
    have H1 := mkHidS h1
    clear h1 hf hcn hr hself h2
    cases hbY : nameB s with
    | false =>
      rw [hbY] at hnY
      have hZ2 : Z = (⟨#[]⟩, ⟨#[]⟩, 3) := by rw [← HZ.out]; unfold splOut; rw [if_neg hbig, H1.out, hbY]; simp
      subst hZ2
      go_enter Tryd.func29, Tryd.ntmps29
      go_wp2_with fail
      refine hcut.mono ?_
      rintro e w1 ⟨rfl, n, hww⟩
      have F0 : Hid (SFr w w1 t fr tp frp m) := by rw [hww]; exact mkHidS (FA.out.drewN n)
      clear hww hcut
      obtain ⟨r0, r1, r2, f0, f1, f2⟩ := F0.out.q.cells
      go_wp2_with fail
      refine (hnY _ F0.out).mono ?_
      rintro e w2 ⟨rfl, hb2⟩
      have F1 := mkHidS (F0.out.step hb2)
      clear hb2 F0
      obtain ⟨r0, r1, r2, f0, f1, f2⟩ := F1.out.q.cells
      go_wp2
      refine bodyPost_ret (v := .agg #[.string ⟨#[]⟩, .string ⟨#[]⟩, .int .i64 3]) (by simp [results, Tryd.results29, go_sem, r0, r1, r2]) rfl ⟨rfl, ?_⟩
      exact F1.out.q.fin _ _ _
    | true =>
      rw [hbY] at hnY
      have hZ2 : Z = (⟨#[]⟩, s, 0) := by rw [← HZ.out]; unfold splOut; rw [if_neg hbig, H1.out, hbY]; rfl
      subst hZ2
      go_enter Tryd.func29, Tryd.ntmps29
      go_wp2_with fail
      refine hcut.mono ?_
      rintro e w1 ⟨rfl, n, hww⟩
      have F0 : Hid (SFr w w1 t fr tp frp m) := by rw [hww]; exact mkHidS (FA.out.drewN n)
      clear hww hcut
      obtain ⟨r0, r1, r2, f0, f1, f2⟩ := F0.out.q.cells
      go_wp2_with fail
      refine (hnY _ F0.out).mono ?_
      rintro e w2 ⟨rfl, hb2⟩
      have F1 := mkHidS (F0.out.step hb2)
      clear hb2 F0
      obtain ⟨r0, r1, r2, f0, f1, f2⟩ := F1.out.q.cells
      go_wp2_with fail
      refine (hcY _ F1.out).mono ?_
      rintro e w3 ⟨rfl, hww3⟩
      obtain rfl := hww3.symm
      go_wp2
      refine bodyPost_ret (v := .agg #[.string ⟨#[]⟩, .string s, .int .i64 0]) (by simp [results, Tryd.results29, go_sem, r0, r1, r2]) rfl ⟨rfl, ?_⟩
      exact F1.out.q.fin _ _ _
end Go.Proofs.YtpkhdfddbcpciaaDoor
