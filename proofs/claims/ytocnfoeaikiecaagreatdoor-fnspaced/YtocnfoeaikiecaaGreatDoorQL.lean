import Derived.Test.YtocnfoeaikiecaaGreatDoorQK
set_option maxRecDepth 100000
set_option maxHeartbeats 16000000
set_option linter.unusedVariables false
set_option linter.unusedSimpArgs false
namespace Go.Proofs.YtocnfoeaikiecaaGreatDoor
open Go.RowKit Lists Ents Plain10 PlainJ Go.Lib Tryz
section
variable {B B' g : Nat} {w W wr W' : World} {S S1 : Sx} {dv av ov tv pv uv uv1 : Value}
theorem bKg {W : World} {B : Nat} {t : TypeId} {a : Option Addr} {c : Nat} {l : List (ByteArray × ByteArray)} (h : W.ownsRow B t 2 (.slice a l.length c) l.length (aQc l)) : cZ1 W a l := by
 obtain ⟨a', c', hf, hA⟩ := aYl h
 injection hf with hf1 _ _
 subst hf1
 exact hA
theorem Qr.setSn (h : Qr B w W g S dv av ov tv pv uv) (b : Bool) : Qr B w (W.setCell ⟨g, 8, none⟩ (.bool b)) g { S with sn := b } dv av ov tv pv uv := by
 obtain ⟨p1, p2, p3⟩ := h.put 8 (.bool b)
 exact h.re (usg' := S.usg) (sp' := S.sp) (cd' := S.cd) (sn' := b) (hd' := S.hd) p1 (fun k cs t _ hk _ => p3 k hk) p2 (aQ4 h.usg (fun k hk => p3 k (by
  obtain ⟨cs, hc⟩ := aQ3 h.usg hk
  exact aQ5 hc h.box (by decide))))
theorem bVu (h : Qr B w W g S dv av ov tv pv uv) (hL : Lim S) (kd : Int) (nm tx : ByteArray) (ta : Value) (T : List (ByteArray × ByteArray)) (hta : W.ownsRow B' 54 2 ta T.length (aQc T)) (hT : ∀ a ∈ T, a.1.size ≤ 4000 ∧ a.2.size ≤ 4000) (hTl : T.length ≤ 4001) (hnm : nm.size ≤ 4000) (hel : S.evs.length ≤ 1000000) :
 Calls prog 65 #[.pointer (some ⟨g, 0, none⟩), .agg #[.int .i64 kd, .string nm, .string tx, ta]] W (aY5 B w W g S dv av 2) := by
 obtain ⟨ao, ac, rfl⟩ := aZi hta
 obtain ⟨W1, hW1⟩ := nmE (W.alloc (.cells #[.int .i64 kd, .string nm, .string tx, .slice ao T.length ac] 99))
 have hb1 : Below W.heap.size W W1 := by rw [← hW1]; exact bAl
 have hx1 : W1.heap[W.heap.size]? = some (.cells #[.int .i64 kd, .string nm, .string tx, .slice ao T.length ac] 99) := by rw [← hW1]; exact heap_alloc_new _ _
 have hs1 : W1.heap.size = W.heap.size + 1 := by rw [← hW1]; simp
 have hq1 := h.keep hb1
 obtain ⟨_, _, _, _, c4, _, _, _, _, _⟩ := hq1.cells
 obtain ⟨_, ⟨aa, cc, rfl⟩, _, _, ⟨pa, pc, rfl⟩, _⟩ := h.rows
 have HQ := aQ0 h
 have HL := aQ0 hL
 have HTA := aQ0 hta
 have HT := aQ0 hT
 have K1 := aQ0 (Kc.below (g := g) hb1)
 by_cases hdeep : 30 ≤ S.opn.length
 · have hf := aKl hq1 8 (by decide) 2
   have hd' : (S.opn.length : Int) ≥ 30 := by omega
   clear h hL hta hT hx1 hq1 hdeep hb1 hs1
   go_enter func65, ntmps65
   go_wp2_with fail
   refine hf.mono ?_
   rintro e w2 ⟨rfl, S2, ov2, tv2, pv2, uv2, hq2, hc2, hk2⟩
   go_wp2
   go_end0
   exact ⟨rfl, S2, ov2, tv2, pv2, uv2, hq2, hc2, K1.out.trans hk2⟩
 · have hd' : ¬ (S.opn.length : Int) ≥ 30 := by omega
   obtain ⟨i0, hi, hz0, hz1, hz2⟩ := info_parts bQ2
   have hent := fun a w => bQt (P := prog) func92 (by kernel_rfl) rfl a w
   have SL0 : Hid (Sl B w W (W1.alloc (.cells #[.int .i64 1, .string nm, .string ⟨#[]⟩, .slice none 0 0] 37)) g S S dv (.slice aa S.atts.length cc) ov tv (.slice pa S.opn.length pc) uv kd nm tx (.slice ao T.length ac) (.slice none 0 0) []) := aQ0 (by
    have hb2 : Below W1.heap.size W1 (W1.alloc (.cells #[.int .i64 1, .string nm, .string ⟨#[]⟩, .slice none 0 0] 37)) := bAl
    refine ⟨hq1.keep hb2, VS.refl _, Kp.on (Kp.below hb1 _) hb2, (hb2.block _ (by omega)).trans hx1, ?_, World.ownsRow_nil _ _ _ _, fun a h => by cases h⟩
    rw [← hs1]; exact heap_alloc_new _ _)
   obtain ⟨x1n, _⟩ : W1.cell? ⟨W.heap.size, 1, none⟩ = some (.string nm) ∧ W1.cell? ⟨W.heap.size, 3, none⟩ = some (.slice ao T.length ac) := by simp [World.cell?, hx1]
   clear h hL hta hT hx1 hq1 hdeep hb1
   go_enter func65, ntmps65
   go_wp2_with fail
   go_loopw [5] (fun i wr => ∃ (k : Nat) (S1 : Sx) (uv1 lv : Value) (acc : List (ByteArray × ByteArray)), k ≤ T.length ∧ i = .int .i64 k ∧ acc.length = k ∧ Sl B w W wr g S S1 dv (.slice aa S.atts.length cc) ov tv (.slice pa S.opn.length pc) uv1 kd nm tx (.slice ao T.length ac) lv acc) (fun i _ => T.length - (RowKit.intOf i).toNat)
   case atStart => exact ⟨0, S, uv, .slice none 0 0, [], Nat.zero_le _, rfl, rfl, SL0.out⟩
   case round =>
    obtain ⟨k, S1, uv1, lv, acc, hk, rfl, hacc, hsl⟩ := hrel
    obtain ⟨la, lc, rfl⟩ := aZi hsl.row
    have SL := aQ0 hsl
    obtain ⟨t1, t3, e3, _⟩ := hsl.cells
    clear hsl SL0 c4 x1n
    by_cases hlt : k < T.length
    · have hAv1 : wr.ownsRow B' 54 2 (.slice ao T.length ac) T.length (aQc T) := aQ4 HTA.out (fun j hj => by
       obtain ⟨cs, hc⟩ := aQ3 HTA.out hj
       exact SL.out.kp.block j (HTA.out.lt j hj).2 (by simpa using aQ5 hc HQ.out.box (by decide)))
      obtain ⟨X, hX⟩ := nmE (T[k]'hlt)
      obtain ⟨hXn, hXv⟩ := HT.out X (by rw [← hX]; exact List.getElem_mem hlt)
      have hlti : (k : Int) < (T.length : Int) := by omega
      rcases bKg hAv1 with hE | ⟨G, hG, hE⟩
      · rw [hE] at hlt; exact absurd hlt (by simp)
      subst hG
      obtain ⟨x0, x1⟩ := hE k hlt
      rw [hX] at x0 x1
      have HACC := aQ0 hacc
      have hal0 : acc.length ≤ 4001 := by omega
      clear hacc
      have hcall := cQ9 SL.out.qr.drew (SL.out.vs.lim HL.out) nm X.1 X.2 hXv
      have hbz : W.heap.size ≤ wr.heap.size := SL.out.kp.size
      have hGo : ∀ wx : World, (∀ k, k < W.heap.size → k ≠ g → wx.heap[k]? = W.heap[k]?) → wx.cell? ⟨G, k * 2, none⟩ = some (.string X.1) ∧ wx.cell? ⟨G, k * 2 + 1, none⟩ = some (.string X.2) := fun wx hwx => by
       have hb := hwx G (HTA.out.lt G rfl).2 (by
        obtain ⟨cs, hc⟩ := aQ3 HTA.out rfl
        exact aQ5 hc HQ.out.box (by decide))
       have hb2 := SL.out.kp.block G (HTA.out.lt G rfl).2 (by
        obtain ⟨cs, hc⟩ := aQ3 HTA.out rfl
        simpa using aQ5 hc HQ.out.box (by decide))
       exact ⟨aQ2 (hb.trans hb2.symm) x0, aQ2 (hb.trans hb2.symm) x1⟩
      have HGO := aQ0 hGo
      have hGne : G ≠ W.heap.size + 1 := by have := (HTA.out.lt G rfl).2; omega
      clear hE hAv1 hX hGo
      go_wp2_with fail
      have hkne : W.heap.size ≠ W.heap.size + 1 := by omega
      refine wp_region_held_drew (S := fun Wx => Wx.cell? ⟨W.heap.size, 1, none⟩ = some (.string nm) ∧ Wx.cell? ⟨W.heap.size, 3, none⟩ = some (.slice (some ⟨G, 0, none⟩) T.length ac) ∧ Wx.cell? ⟨G, k * 2, none⟩ = some (.string X.1) ∧ Wx.cell? ⟨G, k * 2 + 1, none⟩ = some (.string X.2)) (by kernel_rfl) ⟨t1, t3, x0, x1⟩ (fun hHeld => ?_)
      refine wpT (i := 0) (v := (.pointer (some ⟨W.heap.size + 1, 3, none⟩))) rfl (by kernel_rfl) (fun _ _ _ h => h) (Or.inl ⟨by rfl, fun wz hz => by (obtain ⟨z1, z3, z5, z6⟩ := hz; go_simp)⟩) hHeld ?_
      try simp only [Act.put, sA, sZ, sS]
      refine wpT (i := 2) (v := (.pointer (some ⟨g, 0, none⟩))) rfl (by kernel_rfl) (fun _ _ _ h => h) (Or.inl ⟨by rfl, fun wz hz => by (obtain ⟨z1, z3, z5, z6⟩ := hz; go_simp)⟩) hHeld ?_
      try simp only [Act.put, sA, sZ, sS]
      refine wpT (i := 3) (v := (.pointer (some ⟨W.heap.size, 1, none⟩))) rfl (by kernel_rfl) (fun _ _ _ h => h) (Or.inl ⟨by rfl, fun wz hz => by (obtain ⟨z1, z3, z5, z6⟩ := hz; go_simp)⟩) hHeld ?_
      try simp only [Act.put, sA, sZ, sS]
      refine wpT (i := 4) (v := (.string nm)) rfl (by kernel_rfl) (fun _ _ _ h => h) (Or.inl ⟨by rfl, fun wz hz => by (obtain ⟨z1, z3, z5, z6⟩ := hz; go_simp)⟩) hHeld ?_
      try simp only [Act.put, sA, sZ, sS]
      refine wpT (i := 5) (v := (.pointer (some ⟨W.heap.size, 3, none⟩))) rfl (by kernel_rfl) (fun _ _ _ h => h) (Or.inl ⟨by rfl, fun wz hz => by (obtain ⟨z1, z3, z5, z6⟩ := hz; go_simp)⟩) hHeld ?_
      try simp only [Act.put, sA, sZ, sS]
      refine wpT (i := 6) (v := (.slice (some ⟨G, 0, none⟩) T.length ac)) rfl (by kernel_rfl) (fun _ _ _ h => h) (Or.inl ⟨by rfl, fun wz hz => by (obtain ⟨z1, z3, z5, z6⟩ := hz; go_simp)⟩) hHeld ?_
      try simp only [Act.put, sA, sZ, sS]
      refine wpT (i := 7) (v := (.int .i64 (k : Int))) rfl (by kernel_rfl) (fun _ _ _ h => h) (Or.inl ⟨by rfl, fun wz hz => by (obtain ⟨z1, z3, z5, z6⟩ := hz; go_simp)⟩) hHeld ?_
      try simp only [Act.put, sA, sZ, sS]
      refine wpT (i := 8) (v := (.pointer (some ⟨G, k * 2, none⟩))) rfl (by kernel_rfl) (fun _ _ _ h => h) (Or.inl ⟨by rfl, fun wz hz => by (obtain ⟨z1, z3, z5, z6⟩ := hz; go_simp)⟩) hHeld ?_
      try simp only [Act.put, sA, sZ, sS]
      refine wpT (i := 9) (v := (.pointer (some ⟨G, k * 2, none⟩))) rfl (by kernel_rfl) (fun _ _ _ h => h) (Or.inl ⟨by rfl, fun wz hz => by (obtain ⟨z1, z3, z5, z6⟩ := hz; go_simp)⟩) hHeld ?_
      try simp only [Act.put, sA, sZ, sS]
      refine wpT (i := 10) (v := (.string X.1)) rfl (by kernel_rfl) (fun _ _ _ h => h) (Or.inl ⟨by rfl, fun wz hz => by (obtain ⟨z1, z3, z5, z6⟩ := hz; go_simp)⟩) hHeld ?_
      try simp only [Act.put, sA, sZ, sS]
      refine wpT (i := 11) (v := (.pointer (some ⟨W.heap.size, 3, none⟩))) rfl (by kernel_rfl) (fun _ _ _ h => h) (Or.inl ⟨by rfl, fun wz hz => by (obtain ⟨z1, z3, z5, z6⟩ := hz; go_simp)⟩) hHeld ?_
      try simp only [Act.put, sA, sZ, sS]
      refine wpT (i := 12) (v := (.slice (some ⟨G, 0, none⟩) T.length ac)) rfl (by kernel_rfl) (fun _ _ _ h => h) (Or.inl ⟨by rfl, fun wz hz => by (obtain ⟨z1, z3, z5, z6⟩ := hz; go_simp)⟩) hHeld ?_
      try simp only [Act.put, sA, sZ, sS]
      refine wpT (i := 13) (v := (.int .i64 (k : Int))) rfl (by kernel_rfl) (fun _ _ _ h => h) (Or.inl ⟨by rfl, fun wz hz => by (obtain ⟨z1, z3, z5, z6⟩ := hz; go_simp)⟩) hHeld ?_
      try simp only [Act.put, sA, sZ, sS]
      refine wpT (i := 14) (v := (.pointer (some ⟨G, k * 2, none⟩))) rfl (by kernel_rfl) (fun _ _ _ h => h) (Or.inl ⟨by rfl, fun wz hz => by (obtain ⟨z1, z3, z5, z6⟩ := hz; go_simp)⟩) hHeld ?_
      try simp only [Act.put, sA, sZ, sS]
      refine wpT (i := 15) (v := (.pointer (some ⟨G, k * 2 + 1, none⟩))) rfl (by kernel_rfl) (fun _ _ _ h => h) (Or.inl ⟨by rfl, fun wz hz => by (obtain ⟨z1, z3, z5, z6⟩ := hz; go_simp)⟩) hHeld ?_
      try simp only [Act.put, sA, sZ, sS]
      refine wpT (i := 16) (v := (.string X.2)) rfl (by kernel_rfl) (fun _ _ _ h => h) (Or.inl ⟨by rfl, fun wz hz => by (obtain ⟨z1, z3, z5, z6⟩ := hz; go_simp)⟩) hHeld ?_
      try simp only [Act.put, sA, sZ, sS]
      refine wpAnyH_ready (rs := [1, 17]) (by kernel_rfl) (by simp) ?_
      refine AllReadyH.cons rfl (fun K hK => ?t1) (AllReadyH.cons rfl (fun K hK => ?t2) AllReadyH.nil)
      case' t1 =>
       go_simp
       refine hK.out _ _ (hHeld) (fun hHeld => ?_)
       clear hK K
       try simp only [Act.put, sA, sZ, sS]
       refine wpAnyH_ready (rs := [17]) (by kernel_rfl) (by simp) ?_
       refine AllReadyH.cons rfl (fun K hK => ?_) AllReadyH.nil
       refine aJe rfl 92 #[.tmp 28, .tmp 30, .tmp 36, .tmp 42] #[90, 9, 9, 9] rfl #[.pointer (some ⟨g, 0, none⟩), .string nm, .string X.1, .string X.2] (by simp [Act.eval]) hent hcall ?_ (fun ch w' hP => by (obtain ⟨_, _, _, he, _⟩ := hP; cases he)) (fun w' hP => by (obtain ⟨_, _, _, he, _⟩ := hP; cases he)); intro v' w2 hP; obtain ⟨v, S2, uv2, hve, hq2, hv2, hk2⟩ := hP; cases hve; have SL2 := aQ0 ((SL.out.on (Below.refl _ _).drew).go hq2 hv2 hk2); have hcl := SL2.out.cells; have q1 := hcl.1; have q3 := hcl.2.1; have e3' := hcl.2.2.1; clear hcl; have hgo2 := HGO.out w2 (fun j hj hg => SL2.out.kp.block j hj (by simpa using hg)); have q5 := hgo2.1; have q6 := hgo2.2; clear hgo2; have e3'' : (w2.alloc (.cells #[.string X.1, .string v] 54)).cell? ⟨W.heap.size + 1, 3, none⟩ = some (.slice la acc.length lc) := (World.cell?_of_block (a := ⟨W.heap.size + 1, 3, none⟩) (heap_alloc_old _ _ (gLt SL2.out.ev))).trans e3'; have O3 := aQ0 (SL2.out.row.alloc (.cells #[.string X.1, .string v] 54)); have hb3 := Nat.le_trans hbz hk2.size; clear hq2 hv2 hk2
       refine hK.out _ _ (⟨q1, q3, q5, q6⟩) (fun hHeld => ?_)
       clear hK K
       try simp only [Act.put, sA, sZ, sS]
       refine wpAnyH_ready (rs := [18]) (by kernel_rfl) (by simp) ?_
       refine AllReadyH.cons rfl (fun K hK => ?_) AllReadyH.nil
       go_simp
       refine hK.out _ _ (by go_keep) (fun hHeld => ?_)
      case' t2 =>
       refine aJe rfl 92 #[.tmp 28, .tmp 30, .tmp 36, .tmp 42] #[90, 9, 9, 9] rfl #[.pointer (some ⟨g, 0, none⟩), .string nm, .string X.1, .string X.2] (by simp [Act.eval]) hent hcall ?_ (fun ch w' hP => by (obtain ⟨_, _, _, he, _⟩ := hP; cases he)) (fun w' hP => by (obtain ⟨_, _, _, he, _⟩ := hP; cases he)); intro v' w2 hP; obtain ⟨v, S2, uv2, hve, hq2, hv2, hk2⟩ := hP; cases hve; have SL2 := aQ0 ((SL.out.on (Below.refl _ _).drew).go hq2 hv2 hk2); have hcl := SL2.out.cells; have q1 := hcl.1; have q3 := hcl.2.1; have e3' := hcl.2.2.1; clear hcl; have hgo2 := HGO.out w2 (fun j hj hg => SL2.out.kp.block j hj (by simpa using hg)); have q5 := hgo2.1; have q6 := hgo2.2; clear hgo2; have e3'' : (w2.alloc (.cells #[.string X.1, .string v] 54)).cell? ⟨W.heap.size + 1, 3, none⟩ = some (.slice la acc.length lc) := (World.cell?_of_block (a := ⟨W.heap.size + 1, 3, none⟩) (heap_alloc_old _ _ (gLt SL2.out.ev))).trans e3'; have O3 := aQ0 (SL2.out.row.alloc (.cells #[.string X.1, .string v] 54)); have hb3 := Nat.le_trans hbz hk2.size; clear hq2 hv2 hk2
       refine hK.out _ _ (⟨q1, q3, q5, q6⟩) (fun hHeld => ?_)
       clear hK K
       try simp only [Act.put, sA, sZ, sS]
       refine wpAnyH_ready (rs := [1, 18]) (by kernel_rfl) (by simp) ?_
       refine AllReadyH.cons rfl (fun K hK => ?t3) (AllReadyH.cons rfl (fun K hK => ?t4) AllReadyH.nil)
       case' t3 =>
        go_simp
        refine hK.out _ _ (hHeld) (fun hHeld => ?_)
        clear hK K
        try simp only [Act.put, sA, sZ, sS]
        refine wpAnyH_ready (rs := [18]) (by kernel_rfl) (by simp) ?_
        refine AllReadyH.cons rfl (fun K hK => ?_) AllReadyH.nil
        go_simp
        refine hK.out _ _ (by go_keep) (fun hHeld => ?_)
       case' t4 =>
        go_simp
        refine hK.out _ _ (by go_keep) (fun hHeld => ?_)
        clear hK K
        try simp only [Act.put, sA, sZ, sS]
        refine wpAnyH_ready (rs := [1]) (by kernel_rfl) (by simp) ?_
        refine AllReadyH.cons rfl (fun K hK => ?_) AllReadyH.nil
        go_simp
        refine hK.out _ _ (hHeld) (fun hHeld => ?_)
      all_goals
       clear hK K
       try simp only [Act.put, sA, sZ, sS]
       refine wpAnyH_ready (rs := [19]) (by kernel_rfl) (by simp) ?_
       refine AllReadyH.cons rfl (fun K hK => ?_) AllReadyH.nil
       refine aQn rfl (.tmp 27) (.tmp 44) 31 rfl W.heap.size 54 i0 (.agg #[.string ByteArray.empty, .string ByteArray.empty]) 2 32 underlying31 hi hz0 hz1 hz2 rfl (by decide) (.slice la acc.length lc) acc.length (aQc acc) (by simp [Act.eval]) O3.out ⟨w2.heap.size, 0, none⟩ 1 1 [.string X.1, .string v] (by simp [Act.eval]) rfl (aZl w2 _ _ _) (by intro u hu; simp at hu; rcases hu with rfl | rfl <;> rfl) (by unfold maxLen; omega) (by omega) (bQ4 hb3 _) ?_; intro v' wa hoa hga; obtain ⟨ao', cv', hv'⟩ := aZi hoa; subst hv'; have hap := SL2.out.app HQ.out hXn hga hoa; have ap := aQ0 hap.1; have d3 := hap.2.1; have f3 := hap.2.2.1; have p1 := hap.2.2.2.1; have p3 := hap.2.2.2.2.1; have hgo3 := HGO.out wa hap.2.2.2.2.2; have p5 := hgo3.1; have p6 := hgo3.2; clear hoa hga hap hgo3
       refine hK.out _ _ (⟨p1, p3, p5, p6⟩) (fun hHeld => ?_)
       clear hK K
       try simp only [Act.put, sA, sZ, sS]
       refine wpT (i := 20) (v := (.pointer (some ⟨W.heap.size + 1, 3, none⟩))) rfl (by kernel_rfl) (fun _ _ _ h => h) (Or.inl ⟨by rfl, fun wz hz => by (clear hHeld; go_simp)⟩) hHeld ?_
       try simp only [Act.put, sA, sZ, sS]
       refine wpAnyH_ready (rs := [21]) (by kernel_rfl) (by simp) ?_
       refine AllReadyH.cons rfl (fun K hK => ?_) AllReadyH.nil
       go_simp
       refine hK.out _ _ (⟨aQ2 (Below.heap_setCell _ ⟨W.heap.size + 1, 3, none⟩ _ _ hkne) p1, aQ2 (Below.heap_setCell _ ⟨W.heap.size + 1, 3, none⟩ _ _ hkne) p3, aQ2 (Below.heap_setCell _ ⟨W.heap.size + 1, 3, none⟩ _ _ hGne) p5, aQ2 (Below.heap_setCell _ ⟨W.heap.size + 1, 3, none⟩ _ _ hGne) p6⟩) (fun hHeld => ?_)
       clear hK K
       try simp only [Act.put, sA, sZ, sS]
       refine wpAnyH_done (by kernel_rfl) ?_ _
       (go_wp2; exact ⟨⟨k + 1, S2, uv2, _, acc ++ [(X.1, v)], by omega, by go_num, by rw [List.length_append, HACC.out]; rfl, ap.out⟩, by show T.length - ((k : Int) + 1).toNat < T.length - ((k : Int)).toNat; omega⟩)
    · have hkn : ¬ (k : Int) < (T.length : Int) := by omega
      obtain ⟨_, c1, _, _, _, _, _, _, _, _⟩ := SL.out.qr.cells
      go_wp2_with fail
      go_loopw [6] (fun i wr => ∃ (k2 : Nat) (S1 : Sx) (uv1 lv : Value) (acc : List (ByteArray × ByteArray)), k2 ≤ S.atts.length ∧ i = .int .i64 k2 ∧ acc.length ≤ T.length + k2 ∧ Sl B w W wr g S S1 dv (.slice aa S.atts.length cc) ov tv (.slice pa S.opn.length pc) uv1 kd nm tx (.slice ao T.length ac) lv acc) (fun i _ => S.atts.length - (RowKit.intOf i).toNat)
      case atStart => exact ⟨0, S1, uv1, _, acc, Nat.zero_le _, rfl, by omega, SL.out⟩
      case round =>
       clear SL hacc hk hkn hlt t1 t3 e3 c1
       obtain ⟨k2, S1, uv1, lv, acc, hk2, rfl, hacc, hsl⟩ := hrel
       obtain ⟨la, lc, rfl⟩ := aZi hsl.row
       have SL := aQ0 hsl
       obtain ⟨t1, t3, e3, _⟩ := hsl.cells
       obtain ⟨_, c1, _, _, _, _, _, c7, _, _⟩ := hsl.qr.cells
       have hal := HL.out.al
       have hbz : W.heap.size ≤ wr.heap.size := hsl.kp.size
       clear hsl
       by_cases hlt2 : k2 < S.atts.length
       · have hlti : (k2 : Int) < (S.atts.length : Int) := by omega
         obtain ⟨Z, hZ⟩ := nmE (S.atts[k2]'hlt2)
         obtain ⟨hZn, hZv⟩ := HL.out.ad Z (by rw [← hZ]; exact List.getElem_mem hlt2)
         have hrow : wr.ownsRow B 146 5 (.slice aa S.atts.length cc) S.atts.length (aJ8 S.atts) := by
          have hr := SL.out.qr.atts
          obtain ⟨u, s, c, hl⟩ := SL.out.vs.like
          rw [hl] at hr
          exact hr
         obtain ⟨P, O, hPO, hE⟩ := dQn hrow
         have hba := hPO (by omega)
         subst hba
         obtain ⟨x0, x1, x2, x3, x4⟩ := hE k2 hlt2
         rw [hZ] at x0 x1 x2 x3 x4
         obtain ⟨hs, hhs⟩ := nmE (Z.has)
         rw [hhs] at x3
         obtain ⟨W2, hW2⟩ := nmE (wr.alloc (.cells #[.string Z.of, .string Z.nm, .bool Z.words, .bool hs, .string Z.val] 146))
         have hb2 : Below wr.heap.size wr W2 := by rw [← hW2]; exact bAl
         have SL1 := aQ0 (SL.out.on hb2)
         have hx2 : W2.heap[wr.heap.size]? = some (.cells #[.string Z.of, .string Z.nm, .bool Z.words, .bool hs, .string Z.val] 146) := by rw [← hW2]; exact heap_alloc_new _ _
         have X1 := aQ0 hx2
         obtain ⟨y1, y3, ye, _⟩ := SL1.out.cells
         obtain ⟨z0, z1, z3, z4⟩ : W2.cell? ⟨wr.heap.size, 0, none⟩ = some (.string Z.of) ∧ W2.cell? ⟨wr.heap.size, 1, none⟩ = some (.string Z.nm) ∧ W2.cell? ⟨wr.heap.size, 3, none⟩ = some (.bool hs) ∧ W2.cell? ⟨wr.heap.size, 4, none⟩ = some (.string Z.val) := by simp [World.cell?, hx2]
         have hha := bK4 W2 la lc acc Z.nm (bKg SL1.out.row) (by omega)
         obtain ⟨hz, hhz⟩ := nmE (hasZ acc Z.nm)
         rw [hhz] at hha
         have hbz2 : W.heap.size ≤ W2.heap.size := Nat.le_trans hbz hb2.size
         have SLt := (gLt SL.out.ev)
         clear hZ hhs hE hPO hrow hx2 hb2 hhz
         cases h1 : (Z.of.toList == nm.toList) with
         | false =>
          clear hha
          go_wp2
          exact ⟨⟨k2 + 1, S1, uv1, _, acc, by omega, by go_num, by omega, SL1.out⟩, by show S.atts.length - ((k2 : Int) + 1).toNat < S.atts.length - ((k2 : Int)).toNat; omega⟩
         | true =>
          cases hs with
          | false =>
           clear hha
           go_wp2
           exact ⟨⟨k2 + 1, S1, uv1, _, acc, by omega, by go_num, by omega, SL1.out⟩, by show S.atts.length - ((k2 : Int) + 1).toNat < S.atts.length - ((k2 : Int)).toNat; omega⟩
          | true =>
           go_wp2_with fail
           refine hha.mono ?_
           rintro e w2 ⟨rfl, hww⟩
           obtain rfl := hww.symm
           clear hww hha
           cases hz with
           | true =>
            go_wp2
            exact ⟨⟨k2 + 1, S1, uv1, _, acc, by omega, by go_num, by omega, SL1.out⟩, by show S.atts.length - ((k2 : Int) + 1).toNat < S.atts.length - ((k2 : Int)).toNat; omega⟩
           | false =>
           have hcall := cQ9 SL1.out.qr.drew (SL1.out.vs.lim HL.out) nm Z.nm Z.val hZv
           have hkne : W.heap.size ≠ W.heap.size + 1 := by omega
           have hane : wr.heap.size ≠ W.heap.size + 1 := by omega
           replace hbz := hbz2
           go_wp2_with fail
           refine wp_region_held_drew (S := fun Wx => Wx.cell? ⟨W.heap.size, 1, none⟩ = some (.string nm) ∧ Wx.cell? ⟨wr.heap.size, 1, none⟩ = some (.string Z.nm) ∧ Wx.cell? ⟨wr.heap.size, 4, none⟩ = some (.string Z.val)) (by kernel_rfl) ⟨y1, z1, z4⟩ (fun hHeld => ?_)
           refine wpT (i := 0) (v := (.pointer (some ⟨W.heap.size + 1, 3, none⟩))) rfl (by kernel_rfl) (fun _ _ _ h => h) (Or.inl ⟨by rfl, fun wz hz => by (obtain ⟨h1, h5, h6⟩ := hz; go_simp)⟩) hHeld ?_
           try simp only [Act.put, sA, sZ, sS]
           refine wpT (i := 2) (v := (.pointer (some ⟨g, 0, none⟩))) rfl (by kernel_rfl) (fun _ _ _ h => h) (Or.inl ⟨by rfl, fun wz hz => by (obtain ⟨h1, h5, h6⟩ := hz; go_simp)⟩) hHeld ?_
           try simp only [Act.put, sA, sZ, sS]
           refine wpT (i := 3) (v := (.pointer (some ⟨W.heap.size, 1, none⟩))) rfl (by kernel_rfl) (fun _ _ _ h => h) (Or.inl ⟨by rfl, fun wz hz => by (obtain ⟨h1, h5, h6⟩ := hz; go_simp)⟩) hHeld ?_
           try simp only [Act.put, sA, sZ, sS]
           refine wpT (i := 4) (v := (.string nm)) rfl (by kernel_rfl) (fun _ _ _ h => h) (Or.inl ⟨by rfl, fun wz hz => by (obtain ⟨h1, h5, h6⟩ := hz; go_simp)⟩) hHeld ?_
           try simp only [Act.put, sA, sZ, sS]
           refine wpT (i := 5) (v := (.pointer (some ⟨wr.heap.size, 1, none⟩))) rfl (by kernel_rfl) (fun _ _ _ h => h) (Or.inl ⟨by rfl, fun wz hz => by (obtain ⟨h1, h5, h6⟩ := hz; go_simp)⟩) hHeld ?_
           try simp only [Act.put, sA, sZ, sS]
           refine wpT (i := 6) (v := (.string Z.nm)) rfl (by kernel_rfl) (fun _ _ _ h => h) (Or.inl ⟨by rfl, fun wz hz => by (obtain ⟨h1, h5, h6⟩ := hz; go_simp)⟩) hHeld ?_
           try simp only [Act.put, sA, sZ, sS]
           refine wpT (i := 7) (v := (.pointer (some ⟨wr.heap.size, 4, none⟩))) rfl (by kernel_rfl) (fun _ _ _ h => h) (Or.inl ⟨by rfl, fun wz hz => by (obtain ⟨h1, h5, h6⟩ := hz; go_simp)⟩) hHeld ?_
           try simp only [Act.put, sA, sZ, sS]
           refine wpT (i := 8) (v := (.string Z.val)) rfl (by kernel_rfl) (fun _ _ _ h => h) (Or.inl ⟨by rfl, fun wz hz => by (obtain ⟨h1, h5, h6⟩ := hz; go_simp)⟩) hHeld ?_
           try simp only [Act.put, sA, sZ, sS]
           refine wpAnyH_ready (rs := [1, 9]) (by kernel_rfl) (by simp) ?_
           refine AllReadyH.cons rfl (fun K hK => ?t5) (AllReadyH.cons rfl (fun K hK => ?t6) AllReadyH.nil)
           case' t5 =>
            go_simp
            refine hK.out _ _ (hHeld) (fun hHeld => ?_)
            clear hK K
            try simp only [Act.put, sA, sZ, sS]
            refine wpAnyH_ready (rs := [9]) (by kernel_rfl) (by simp) ?_
            refine AllReadyH.cons rfl (fun K hK => ?_) AllReadyH.nil
            refine aJe rfl 92 #[.tmp 84, .tmp 86, .tmp 88, .tmp 90] #[90, 9, 9, 9] rfl #[.pointer (some ⟨g, 0, none⟩), .string nm, .string Z.nm, .string Z.val] (by simp [Act.eval]) hent hcall ?_ (fun ch w' hP => by (obtain ⟨_, _, _, he, _⟩ := hP; cases he)) (fun w' hP => by (obtain ⟨_, _, _, he, _⟩ := hP; cases he)); intro v' w2 hP; obtain ⟨v, S2, uv2, hve, hq2, hv2, hk2⟩ := hP; cases hve; have SL2 := aQ0 ((SL1.out.on (Below.refl _ _).drew).go hq2 hv2 hk2); obtain ⟨q1, q3, e3', _⟩ := SL2.out.cells; have X2 := aQ0 (SL1.out.stay hk2 X1.out (by decide)); obtain ⟨q5, q6⟩ := bV9 X2.out; have e3'' : (w2.alloc (.cells #[.string Z.nm, .string v] 54)).cell? ⟨W.heap.size + 1, 3, none⟩ = some (.slice la acc.length lc) := (World.cell?_of_block (a := ⟨W.heap.size + 1, 3, none⟩) (heap_alloc_old _ _ (gLt SL2.out.ev))).trans e3'; have O3 := aQ0 (SL2.out.row.alloc (.cells #[.string Z.nm, .string v] 54)); have hb3 := Nat.le_trans hbz hk2.size; clear hq2 hv2 hk2
            refine hK.out _ _ (⟨q1, q5, q6⟩) (fun hHeld => ?_)
            clear hK K
            try simp only [Act.put, sA, sZ, sS]
            refine wpAnyH_ready (rs := [10]) (by kernel_rfl) (by simp) ?_
            refine AllReadyH.cons rfl (fun K hK => ?_) AllReadyH.nil
            go_simp
            refine hK.out _ _ (by go_keep) (fun hHeld => ?_)
           case' t6 =>
            refine aJe rfl 92 #[.tmp 84, .tmp 86, .tmp 88, .tmp 90] #[90, 9, 9, 9] rfl #[.pointer (some ⟨g, 0, none⟩), .string nm, .string Z.nm, .string Z.val] (by simp [Act.eval]) hent hcall ?_ (fun ch w' hP => by (obtain ⟨_, _, _, he, _⟩ := hP; cases he)) (fun w' hP => by (obtain ⟨_, _, _, he, _⟩ := hP; cases he)); intro v' w2 hP; obtain ⟨v, S2, uv2, hve, hq2, hv2, hk2⟩ := hP; cases hve; have SL2 := aQ0 ((SL1.out.on (Below.refl _ _).drew).go hq2 hv2 hk2); obtain ⟨q1, q3, e3', _⟩ := SL2.out.cells; have X2 := aQ0 (SL1.out.stay hk2 X1.out (by decide)); obtain ⟨q5, q6⟩ := bV9 X2.out; have e3'' : (w2.alloc (.cells #[.string Z.nm, .string v] 54)).cell? ⟨W.heap.size + 1, 3, none⟩ = some (.slice la acc.length lc) := (World.cell?_of_block (a := ⟨W.heap.size + 1, 3, none⟩) (heap_alloc_old _ _ (gLt SL2.out.ev))).trans e3'; have O3 := aQ0 (SL2.out.row.alloc (.cells #[.string Z.nm, .string v] 54)); have hb3 := Nat.le_trans hbz hk2.size; clear hq2 hv2 hk2
            refine hK.out _ _ (⟨q1, q5, q6⟩) (fun hHeld => ?_)
            clear hK K
            try simp only [Act.put, sA, sZ, sS]
            refine wpAnyH_ready (rs := [1, 10]) (by kernel_rfl) (by simp) ?_
            refine AllReadyH.cons rfl (fun K hK => ?t7) (AllReadyH.cons rfl (fun K hK => ?t8) AllReadyH.nil)
            case' t7 =>
             go_simp
             refine hK.out _ _ (hHeld) (fun hHeld => ?_)
             clear hK K
             try simp only [Act.put, sA, sZ, sS]
             refine wpAnyH_ready (rs := [10]) (by kernel_rfl) (by simp) ?_
             refine AllReadyH.cons rfl (fun K hK => ?_) AllReadyH.nil
             go_simp
             refine hK.out _ _ (by go_keep) (fun hHeld => ?_)
            case' t8 =>
             go_simp
             refine hK.out _ _ (by go_keep) (fun hHeld => ?_)
             clear hK K
             try simp only [Act.put, sA, sZ, sS]
             refine wpAnyH_ready (rs := [1]) (by kernel_rfl) (by simp) ?_
             refine AllReadyH.cons rfl (fun K hK => ?_) AllReadyH.nil
             go_simp
             refine hK.out _ _ (hHeld) (fun hHeld => ?_)
           all_goals
            clear hK K
            try simp only [Act.put, sA, sZ, sS]
            refine wpAnyH_ready (rs := [11]) (by kernel_rfl) (by simp) ?_
            refine AllReadyH.cons rfl (fun K hK => ?_) AllReadyH.nil
            refine aQn rfl (.tmp 83) (.tmp 92) 31 rfl W.heap.size 54 i0 (.agg #[.string ByteArray.empty, .string ByteArray.empty]) 2 32 underlying31 hi hz0 hz1 hz2 rfl (by decide) (.slice la acc.length lc) acc.length (aQc acc) (by simp [Act.eval]) O3.out ⟨w2.heap.size, 0, none⟩ 1 1 [.string Z.nm, .string v] (by simp [Act.eval]) rfl (aZl w2 _ _ _) (by intro u hu; simp at hu; rcases hu with rfl | rfl <;> rfl) (by unfold maxLen; omega) (by omega) (bQ4 hb3 _) ?_; intro v' wa hoa hga; obtain ⟨ao', cv', hv'⟩ := aZi hoa; subst hv'; obtain ⟨p5, p6⟩ := bV9 (SL2.out.far hga X2.out (by decide)); obtain ⟨ap, d3, f3, p1, p3, hko⟩ := SL2.out.app HQ.out hZn hga hoa; replace ap := aQ0 ap; clear hoa hga hko
            refine hK.out _ _ (⟨p1, p5, p6⟩) (fun hHeld => ?_)
            clear hK K
            try simp only [Act.put, sA, sZ, sS]
            refine wpT (i := 12) (v := (.pointer (some ⟨W.heap.size + 1, 3, none⟩))) rfl (by kernel_rfl) (fun _ _ _ h => h) (Or.inl ⟨by rfl, fun wz hz => by (clear hHeld; go_simp)⟩) hHeld ?_
            try simp only [Act.put, sA, sZ, sS]
            refine wpAnyH_ready (rs := [13]) (by kernel_rfl) (by simp) ?_
            refine AllReadyH.cons rfl (fun K hK => ?_) AllReadyH.nil
            go_simp
            refine hK.out _ _ (⟨aQ2 (Below.heap_setCell _ ⟨W.heap.size + 1, 3, none⟩ _ _ hkne) p1, aQ2 (Below.heap_setCell _ ⟨W.heap.size + 1, 3, none⟩ _ _ hane) p5, aQ2 (Below.heap_setCell _ ⟨W.heap.size + 1, 3, none⟩ _ _ hane) p6⟩) (fun hHeld => ?_)
            clear hK K
            try simp only [Act.put, sA, sZ, sS]
            refine wpAnyH_done (by kernel_rfl) ?_ _
            (go_wp2; exact ⟨⟨k2 + 1, S2, uv2, _, acc ++ [(Z.nm, v)], by omega, by go_num, by simp; omega, ap.out⟩, by show S.atts.length - ((k2 : Int) + 1).toNat < S.atts.length - ((k2 : Int)).toNat; omega⟩)
       · have hkn : ¬ (k2 : Int) < (S.atts.length : Int) := by omega
         by_cases hcd : S1.cd = 0
         · rw [hcd] at c7
           have hf8 := SL.out.qr.thaw 8
           have c8 := SL.out.qr.cells.2.2.2.2.2.2.2.2.1
           obtain ⟨W3, hW3⟩ := nmE (wr.setCell ⟨g, 8, none⟩ (.bool true))
           have Q3 := aQ0 (SL.out.qr.setSn true)
           rw [hW3] at Q3
           have hk3 : Kp wr W3 [g] := by rw [← hW3]; exact (Kp.refl wr [g]).set (Or.inr List.mem_cons_self) 8 _
           have hkb : ∀ {k : Nat} {cs : Array Value} {t : TypeId}, wr.heap[k]? = some (.cells cs t) → t ≠ 96 → W3.heap[k]? = wr.heap[k]? := fun hc ht => hk3.block _ (gLt hc) (by simpa using aQ5 hc SL.out.qr.box ht)
           have hev3 := (hkb SL.out.ev (by decide)).trans SL.out.ev
           have htk3 := (hkb SL.out.tok (by decide)).trans SL.out.tok
           have hrow3 : W3.ownsRow B 54 2 (.slice la acc.length lc) acc.length (aQc acc) := aJx (aQ4 SL.out.row (fun k hk => by
            obtain ⟨cs, hc⟩ := aQ3 SL.out.row hk
            exact hkb hc (by decide))) HQ.out.sz
           obtain ⟨e0, e1, e2, e4⟩ : W3.cell? ⟨W.heap.size + 1, 0, none⟩ = some (.int .i64 1) ∧ W3.cell? ⟨W.heap.size + 1, 1, none⟩ = some (.string nm) ∧ W3.cell? ⟨W.heap.size + 1, 2, none⟩ = some (.string ⟨#[]⟩) ∧ W3.cell? ⟨W.heap.size + 1, 3, none⟩ = some (.slice la acc.length lc) := by simp [World.cell?, hev3]
           have ht := bQo (E := ⟨1, nm, ⟨#[]⟩, acc⟩) Q3.out hrow3 (by obtain ⟨u, s, c, hl⟩ := SL.out.vs.like; rw [hl]; exact hel)
           have TK3 := aQ0 htk3
           have K3 := aQ0 ((Kc.kp (g := g) SL.out.kp).trans (Kc.kp hk3))
           clear hkb hev3 htk3 hrow3 hk3 hcd
           go_wp2_with fail
           refine ht.mono ?_
           rintro e w4 ⟨rfl, ov4, hq4, hk4⟩
           have hopn : w4.ownsRow B 9 1 (.slice pa S.opn.length pc) S.opn.length (strs S.opn) := by
            have := hq4.opn
            obtain ⟨u, s, c, hl⟩ := SL.out.vs.like
            rw [hl] at this
            exact this
           have tk4 := hk4.box TK3.out (by have := HQ.out.lt; omega) (by decide) (by decide)
           have Q4 := aQ0 hq4
           have K4 := aQ0 (K3.out.trans hk4)
           have TK4 := aQ0 tk4
           have n1 : w4.cell? ⟨W.heap.size, 1, none⟩ = some (.string nm) := by simp [World.cell?, tk4]
           have c4 := hq4.cells.2.2.2.2.1
           have hgl := hq4.lt
           have htl := (gLt tk4)
           have n1o : ∀ o, (w4.alloc o).cell? ⟨W.heap.size, 1, none⟩ = some (.string nm) := fun o => aQ2 (heap_alloc_old _ _ htl) n1
           have c4o : ∀ o, (w4.alloc o).cell? ⟨g, 4, none⟩ = some (.slice pa S.opn.length pc) := fun o => aQ2 (heap_alloc_old _ _ hgl) c4
           have c4oo : ∀ o o', ((w4.alloc o).alloc o').cell? ⟨g, 4, none⟩ = some (.slice pa S.opn.length pc) := fun o o' => aQ2 (heap_alloc_old _ _ (by simp; omega)) (c4o o)
           obtain ⟨j0, hj, hjz0, hjz1, hjz2⟩ := info_parts cJ8
           have hone : ∀ y ∈ strs S.opn, y.oneCell' = true := by
            intro y hy; unfold strs at hy; obtain ⟨z, _, rfl⟩ := List.mem_map.1 hy; rfl
           have hone1 : ∀ u ∈ [Value.string nm], u.oneCell' = true := by intro u hu; simp at hu; subst hu; rfl
           have hop30 : S.opn.length ≤ 29 := by omega
           have hm1 : 0 + S.opn.length ≤ maxLen := by unfold maxLen; omega
           have hm2 : (0 + S.opn.length) * 16 ≤ 140737488355328 := by omega
           have hm4 : S.opn.length + 1 ≤ maxLen := by unfold maxLen; omega
           have hm5 : (S.opn.length + 1 + (S.opn.length + 1) / 4 + 192) * 16 ≤ 281474976710656 := by omega
           have BA := aQ0 (show Below w4.heap.size w4 (w4.drew.alloc (.cells #[] 9)) from ((Below.refl _ _).drew).alloc (Nat.le_refl _) _)
           have BB := aQ0 (show Below w4.heap.size w4 ((w4.drew.alloc (.cells #[] 9)).alloc (.cells #[.string nm] 9)) from BA.out.alloc BA.out.size _)
           have BC0 := aQ0 (show Below w4.heap.size w4 (w4.drew.alloc (.cells #[.string nm] 9)) from ((Below.refl _ _).drew).alloc (Nat.le_refl _) _)
           have BC := aQ0 (show Below w4.heap.size w4 ((w4.drew.alloc (.cells #[.string nm] 9)).alloc (.cells #[] 9)) from BC0.out.alloc BC0.out.size _)
           have RA := aQ0 (show (w4.drew.alloc (.cells #[] 9)).ownsRow w4.heap.size 9 1 (.slice (some ⟨w4.heap.size, 0, none⟩) 0 0) 0 [] from World.ownsRow_made w4.drew #[] 0 (Nat.le_refl _) (by decide) rfl)
           have RB := aQ0 (RA.out.alloc (.cells #[.string nm] 9))
           have RC : Hid (((w4.drew.alloc (.cells #[.string nm] 9)).alloc (.cells #[] 9)).ownsRow w4.heap.size 9 1 (.slice (some ⟨w4.heap.size + 1, 0, none⟩) 0 0) 0 []) := aQ0 (by
            have := World.ownsRow_made (base := w4.heap.size) (e := 9) (size := 1) (w4.drew.alloc (.cells #[.string nm] 9)) #[] 0 (by simp) (by decide) rfl
            simpa using this)
           have OX : Hid (∀ Wx, Below w4.heap.size w4 Wx → Wx.ownsRow B 9 1 (.slice pa S.opn.length pc) S.opn.length (strs S.opn)) := aQ0 (fun Wx hb => aQ4 hopn (fun k hk => hb.block k (hopn.lt k hk).2))
           have hSTL := SL.out.vs
           clear ht hq4 hk4 tk4 hopn c8 c7 e0 e1 e2 e4 e3 t1 t3 c1 hf8
           go_wp2_with fail
           have hkg : W.heap.size ≠ g := by have := HQ.out.lt; omega
           have FIN : Hid (∀ (a7 : Option Addr) (c7' : Nat) (w7 : World), Below w4.heap.size w4 w7 → w7.ownsRow w4.heap.size 9 1 (.slice a7 (S.opn.length + 1) c7') (S.opn.length + 1) (strs S.opn ++ [.string nm]) → aY5 B w W g S dv (.slice aa S.atts.length cc) 2 (.returned (.tuple #[])) (w7.setCell ⟨g, 4, none⟩ (.slice a7 (S.opn.length + 1) c7'))) := aQ0 (fun a7 c7' w7 hB7 ho7 => by
            obtain ⟨s1, s2⟩ := (Q4.out.keep hB7).setOpn (pv' := .slice a7 (S.opn.length + 1) c7') (opn' := S.opn ++ [nm]) (by rw [List.length_append, aWf]; exact aJx ho7 Q4.out.sz)
            refine ⟨rfl, _, _, _, _, _, s1, (hSTL.cs.trans (cQm S1 ⟨1, nm, ⟨#[]⟩, acc⟩ (S.opn ++ [nm]) true (fun _ => rfl) ⟨hnm, by show acc.length ≤ 9000; omega, SL.out.nms⟩ (fun j => ?_))).mono (by omega), (K4.out.trans (Kc.below hB7)).trans (Kc.kp s2)⟩
            obtain ⟨u, s, c, hl⟩ := hSTL.like
            rw [hl, List.length_append]
            exact ⟨by simp [nSt, nEn]; omega, by simp only [List.length_cons, List.length_nil]; omega⟩)
           refine wp_region_held_drew (S := fun Wx => Wx.cell? ⟨W.heap.size, 1, none⟩ = some (.string nm)) (by kernel_rfl) n1 (fun hHeld => ?_)
           refine wpT (i := 0) (v := (.pointer (some ⟨g, 0, none⟩))) rfl (by kernel_rfl) (fun _ _ _ h => h) (Or.inl ⟨by rfl, fun wz hz => by go_simp⟩) hHeld ?_
           try simp only [Act.put, sA, sZ, sS]
           refine wpT (i := 2) (v := (.pointer (some ⟨g, 0, none⟩))) rfl (by kernel_rfl) (fun _ _ _ h => h) (Or.inl ⟨by rfl, fun wz hz => by go_simp⟩) hHeld ?_
           try simp only [Act.put, sA, sZ, sS]
           refine wpT (i := 3) (v := (.pointer (some ⟨g, 0, none⟩))) rfl (by kernel_rfl) (fun _ _ _ h => h) (Or.inl ⟨by rfl, fun wz hz => by go_simp⟩) hHeld ?_
           try simp only [Act.put, sA, sZ, sS]
           refine wpT (i := 4) (v := (.pointer (some ⟨g, 4, none⟩))) rfl (by kernel_rfl) (fun _ _ _ h => h) (Or.inl ⟨by rfl, fun wz hz => by go_simp⟩) hHeld ?_
           try simp only [Act.put, sA, sZ, sS]
           refine wpT (i := 7) (v := (.pointer (some ⟨W.heap.size, 1, none⟩))) rfl (by kernel_rfl) (fun _ _ _ h => h) (Or.inl ⟨by rfl, fun wz hz => by go_simp⟩) hHeld ?_
           try simp only [Act.put, sA, sZ, sS]
           refine wpT (i := 8) (v := (.string nm)) rfl (by kernel_rfl) (fun _ _ _ h => h) (Or.inl ⟨by rfl, fun wz hz => by go_simp⟩) hHeld ?_
           try simp only [Act.put, sA, sZ, sS]
           refine wpAnyH_ready (rs := [1, 5, 9]) (by kernel_rfl) (by simp) ?_
           refine AllReadyH.cons rfl (fun K hK => ?t9) (AllReadyH.cons rfl (fun K hK => ?t10) (AllReadyH.cons rfl (fun K hK => ?t11) AllReadyH.nil))
           case' t9 =>
            go_simp
            refine hK.out _ _ (aXo hHeld) (fun hHeld => ?_)
            clear hK K
            try simp only [Act.put, sA, sZ, sS]
            refine wpAnyH_ready (rs := [5, 9]) (by kernel_rfl) (by simp) ?_
            refine AllReadyH.cons rfl (fun K hK => ?t12) (AllReadyH.cons rfl (fun K hK => ?t13) AllReadyH.nil)
            case' t12 =>
             go_simp
             refine hK.out _ _ (hHeld) (fun hHeld => ?_)
             clear hK K
             try simp only [Act.put, sA, sZ, sS]
             refine wpAnyH_ready (rs := [6, 9]) (by kernel_rfl) (by simp) ?_
             refine AllReadyH.cons rfl (fun K hK => ?t14) (AllReadyH.cons rfl (fun K hK => ?t15) AllReadyH.nil)
             case' t14 =>
              refine aXu rfl (.tmp 107) (.tmp 111) 52 rfl w4.heap.size B 9 j0 (.string ⟨#[]⟩) 1 16 underlying52 hj hjz0 hjz1 hjz2 rfl (by decide) _ _ _ rfl RA.out _ _ _ rfl (OX.out _ BA.out) hone hm1 hm2 BA.out.size ?_; intro v6 w6 hown6 hgrow6; rw [Nat.zero_add, List.nil_append] at hown6; obtain ⟨a6, c6', hv6⟩ := aZi hown6; subst hv6; have B6 := aQ0 (BA.out.grown hgrow6 BA.out.size (fun k hk => (RA.out.lt k hk).1)); have n6 : w6.cell? ⟨W.heap.size, 1, none⟩ = some (.string nm) := aQ2 (B6.out.block _ htl) n1; replace hown6 := aQ0 hown6; replace hgrow6 := aQ0 hgrow6
              refine hK.out _ _ (n6) (fun hHeld => ?_)
              clear hK K
              try simp only [Act.put, sA, sZ, sS]
              refine wpAnyH_ready (rs := [9]) (by kernel_rfl) (by simp) ?_
              refine AllReadyH.cons rfl (fun K hK => ?_) AllReadyH.nil
              go_simp
              refine hK.out _ _ (aXo hHeld) (fun hHeld => ?_)
              clear hK K
              try simp only [Act.put, sA, sZ, sS]
              refine wpAnyH_ready (rs := [10]) (by kernel_rfl) (by simp) ?_
              refine AllReadyH.cons rfl (fun K hK => ?_) AllReadyH.nil
              refine aQn rfl (.tmp 112) (.tmp 115) 52 rfl w4.heap.size 9 j0 (.string ⟨#[]⟩) 1 16 underlying52 hj hjz0 hjz1 hjz2 rfl (by decide) _ _ _ rfl (hown6.out.alloc _) ⟨_, 0, none⟩ 1 1 [.string nm] rfl rfl (cell_one_new _ _ _) hone1 hm4 hm5 (bQ4 B6.out.size _) ?_; intro v7 w7 hown7 hgrow7; obtain ⟨a7, c7', hv7⟩ := aZi hown7; subst hv7; have B7 := aQ0 (show Below w4.heap.size w4 w7 from (B6.out.alloc B6.out.size _).grown hgrow7 (bQ4 B6.out.size _) (fun k hk => (hown6.out.lt k hk).1)); have d4 := (Q4.out.keep B7.out).cells.2.2.2.2.1; have f4 := (Q4.out.keep B7.out).thaw 4; have n7 : w7.cell? ⟨W.heap.size, 1, none⟩ = some (.string nm) := aQ2 (B7.out.block _ htl) n1; replace hown7 := aQ0 hown7; clear hgrow7
             case' t15 =>
              go_simp
              refine hK.out _ _ (aXo hHeld) (fun hHeld => ?_)
              clear hK K
              try simp only [Act.put, sA, sZ, sS]
              refine wpAnyH_ready (rs := [6]) (by kernel_rfl) (by simp) ?_
              refine AllReadyH.cons rfl (fun K hK => ?_) AllReadyH.nil
              refine aXu rfl (.tmp 107) (.tmp 111) 52 rfl w4.heap.size B 9 j0 (.string ⟨#[]⟩) 1 16 underlying52 hj hjz0 hjz1 hjz2 rfl (by decide) _ _ _ rfl RB.out _ _ _ rfl (OX.out _ BB.out) hone hm1 hm2 BB.out.size ?_; intro v6 w6 hown6 hgrow6; rw [Nat.zero_add, List.nil_append] at hown6; obtain ⟨a6, c6', hv6⟩ := aZi hown6; subst hv6; have B6 := aQ0 (BB.out.grown hgrow6 BB.out.size (fun k hk => (RB.out.lt k hk).1)); have n6 : w6.cell? ⟨W.heap.size, 1, none⟩ = some (.string nm) := aQ2 (B6.out.block _ htl) n1; replace hown6 := aQ0 hown6; replace hgrow6 := aQ0 hgrow6
              refine hK.out _ _ (n6) (fun hHeld => ?_)
              clear hK K
              try simp only [Act.put, sA, sZ, sS]
              refine wpAnyH_ready (rs := [10]) (by kernel_rfl) (by simp) ?_
              refine AllReadyH.cons rfl (fun K hK => ?_) AllReadyH.nil
              refine aQn rfl (.tmp 112) (.tmp 115) 52 rfl w4.heap.size 9 j0 (.string ⟨#[]⟩) 1 16 underlying52 hj hjz0 hjz1 hjz2 rfl (by decide) _ _ _ rfl (hown6.out) ⟨_, 0, none⟩ 1 1 [.string nm] rfl rfl (bJa (w := w4.drew) hgrow6.out) hone1 hm4 hm5 (B6.out.size) ?_; intro v7 w7 hown7 hgrow7; obtain ⟨a7, c7', hv7⟩ := aZi hown7; subst hv7; have B7 := aQ0 (show Below w4.heap.size w4 w7 from B6.out.grown hgrow7 B6.out.size (fun k hk => (hown6.out.lt k hk).1)); have d4 := (Q4.out.keep B7.out).cells.2.2.2.2.1; have f4 := (Q4.out.keep B7.out).thaw 4; have n7 : w7.cell? ⟨W.heap.size, 1, none⟩ = some (.string nm) := aQ2 (B7.out.block _ htl) n1; replace hown7 := aQ0 hown7; clear hgrow7
            case' t13 =>
             go_simp
             refine hK.out _ _ (aXo hHeld) (fun hHeld => ?_)
             clear hK K
             try simp only [Act.put, sA, sZ, sS]
             refine wpAnyH_ready (rs := [5]) (by kernel_rfl) (by simp) ?_
             refine AllReadyH.cons rfl (fun K hK => ?_) AllReadyH.nil
             go_simp
             refine hK.out _ _ (hHeld) (fun hHeld => ?_)
             clear hK K
             try simp only [Act.put, sA, sZ, sS]
             refine wpAnyH_ready (rs := [6]) (by kernel_rfl) (by simp) ?_
             refine AllReadyH.cons rfl (fun K hK => ?_) AllReadyH.nil
             refine aXu rfl (.tmp 107) (.tmp 111) 52 rfl w4.heap.size B 9 j0 (.string ⟨#[]⟩) 1 16 underlying52 hj hjz0 hjz1 hjz2 rfl (by decide) _ _ _ rfl RB.out _ _ _ rfl (OX.out _ BB.out) hone hm1 hm2 BB.out.size ?_; intro v6 w6 hown6 hgrow6; rw [Nat.zero_add, List.nil_append] at hown6; obtain ⟨a6, c6', hv6⟩ := aZi hown6; subst hv6; have B6 := aQ0 (BB.out.grown hgrow6 BB.out.size (fun k hk => (RB.out.lt k hk).1)); have n6 : w6.cell? ⟨W.heap.size, 1, none⟩ = some (.string nm) := aQ2 (B6.out.block _ htl) n1; replace hown6 := aQ0 hown6; replace hgrow6 := aQ0 hgrow6
             refine hK.out _ _ (n6) (fun hHeld => ?_)
             clear hK K
             try simp only [Act.put, sA, sZ, sS]
             refine wpAnyH_ready (rs := [10]) (by kernel_rfl) (by simp) ?_
             refine AllReadyH.cons rfl (fun K hK => ?_) AllReadyH.nil
             refine aQn rfl (.tmp 112) (.tmp 115) 52 rfl w4.heap.size 9 j0 (.string ⟨#[]⟩) 1 16 underlying52 hj hjz0 hjz1 hjz2 rfl (by decide) _ _ _ rfl (hown6.out) ⟨_, 0, none⟩ 1 1 [.string nm] rfl rfl (bJa (w := w4.drew) hgrow6.out) hone1 hm4 hm5 (B6.out.size) ?_; intro v7 w7 hown7 hgrow7; obtain ⟨a7, c7', hv7⟩ := aZi hown7; subst hv7; have B7 := aQ0 (show Below w4.heap.size w4 w7 from B6.out.grown hgrow7 B6.out.size (fun k hk => (hown6.out.lt k hk).1)); have d4 := (Q4.out.keep B7.out).cells.2.2.2.2.1; have f4 := (Q4.out.keep B7.out).thaw 4; have n7 : w7.cell? ⟨W.heap.size, 1, none⟩ = some (.string nm) := aQ2 (B7.out.block _ htl) n1; replace hown7 := aQ0 hown7; clear hgrow7
           case' t10 =>
            go_simp
            refine hK.out _ _ (hHeld) (fun hHeld => ?_)
            clear hK K
            try simp only [Act.put, sA, sZ, sS]
            refine wpAnyH_ready (rs := [1, 9]) (by kernel_rfl) (by simp) ?_
            refine AllReadyH.cons rfl (fun K hK => ?t16) (AllReadyH.cons rfl (fun K hK => ?t17) AllReadyH.nil)
            case' t16 =>
             go_simp
             refine hK.out _ _ (aXo hHeld) (fun hHeld => ?_)
             clear hK K
             try simp only [Act.put, sA, sZ, sS]
             refine wpAnyH_ready (rs := [6, 9]) (by kernel_rfl) (by simp) ?_
             refine AllReadyH.cons rfl (fun K hK => ?t18) (AllReadyH.cons rfl (fun K hK => ?t19) AllReadyH.nil)
             case' t18 =>
              refine aXu rfl (.tmp 107) (.tmp 111) 52 rfl w4.heap.size B 9 j0 (.string ⟨#[]⟩) 1 16 underlying52 hj hjz0 hjz1 hjz2 rfl (by decide) _ _ _ rfl RA.out _ _ _ rfl (OX.out _ BA.out) hone hm1 hm2 BA.out.size ?_; intro v6 w6 hown6 hgrow6; rw [Nat.zero_add, List.nil_append] at hown6; obtain ⟨a6, c6', hv6⟩ := aZi hown6; subst hv6; have B6 := aQ0 (BA.out.grown hgrow6 BA.out.size (fun k hk => (RA.out.lt k hk).1)); have n6 : w6.cell? ⟨W.heap.size, 1, none⟩ = some (.string nm) := aQ2 (B6.out.block _ htl) n1; replace hown6 := aQ0 hown6; replace hgrow6 := aQ0 hgrow6
              refine hK.out _ _ (n6) (fun hHeld => ?_)
              clear hK K
              try simp only [Act.put, sA, sZ, sS]
              refine wpAnyH_ready (rs := [9]) (by kernel_rfl) (by simp) ?_
              refine AllReadyH.cons rfl (fun K hK => ?_) AllReadyH.nil
              go_simp
              refine hK.out _ _ (aXo hHeld) (fun hHeld => ?_)
              clear hK K
              try simp only [Act.put, sA, sZ, sS]
              refine wpAnyH_ready (rs := [10]) (by kernel_rfl) (by simp) ?_
              refine AllReadyH.cons rfl (fun K hK => ?_) AllReadyH.nil
              refine aQn rfl (.tmp 112) (.tmp 115) 52 rfl w4.heap.size 9 j0 (.string ⟨#[]⟩) 1 16 underlying52 hj hjz0 hjz1 hjz2 rfl (by decide) _ _ _ rfl (hown6.out.alloc _) ⟨_, 0, none⟩ 1 1 [.string nm] rfl rfl (cell_one_new _ _ _) hone1 hm4 hm5 (bQ4 B6.out.size _) ?_; intro v7 w7 hown7 hgrow7; obtain ⟨a7, c7', hv7⟩ := aZi hown7; subst hv7; have B7 := aQ0 (show Below w4.heap.size w4 w7 from (B6.out.alloc B6.out.size _).grown hgrow7 (bQ4 B6.out.size _) (fun k hk => (hown6.out.lt k hk).1)); have d4 := (Q4.out.keep B7.out).cells.2.2.2.2.1; have f4 := (Q4.out.keep B7.out).thaw 4; have n7 : w7.cell? ⟨W.heap.size, 1, none⟩ = some (.string nm) := aQ2 (B7.out.block _ htl) n1; replace hown7 := aQ0 hown7; clear hgrow7
             case' t19 =>
              go_simp
              refine hK.out _ _ (aXo hHeld) (fun hHeld => ?_)
              clear hK K
              try simp only [Act.put, sA, sZ, sS]
              refine wpAnyH_ready (rs := [6]) (by kernel_rfl) (by simp) ?_
              refine AllReadyH.cons rfl (fun K hK => ?_) AllReadyH.nil
              refine aXu rfl (.tmp 107) (.tmp 111) 52 rfl w4.heap.size B 9 j0 (.string ⟨#[]⟩) 1 16 underlying52 hj hjz0 hjz1 hjz2 rfl (by decide) _ _ _ rfl RB.out _ _ _ rfl (OX.out _ BB.out) hone hm1 hm2 BB.out.size ?_; intro v6 w6 hown6 hgrow6; rw [Nat.zero_add, List.nil_append] at hown6; obtain ⟨a6, c6', hv6⟩ := aZi hown6; subst hv6; have B6 := aQ0 (BB.out.grown hgrow6 BB.out.size (fun k hk => (RB.out.lt k hk).1)); have n6 : w6.cell? ⟨W.heap.size, 1, none⟩ = some (.string nm) := aQ2 (B6.out.block _ htl) n1; replace hown6 := aQ0 hown6; replace hgrow6 := aQ0 hgrow6
              refine hK.out _ _ (n6) (fun hHeld => ?_)
              clear hK K
              try simp only [Act.put, sA, sZ, sS]
              refine wpAnyH_ready (rs := [10]) (by kernel_rfl) (by simp) ?_
              refine AllReadyH.cons rfl (fun K hK => ?_) AllReadyH.nil
              refine aQn rfl (.tmp 112) (.tmp 115) 52 rfl w4.heap.size 9 j0 (.string ⟨#[]⟩) 1 16 underlying52 hj hjz0 hjz1 hjz2 rfl (by decide) _ _ _ rfl (hown6.out) ⟨_, 0, none⟩ 1 1 [.string nm] rfl rfl (bJa (w := w4.drew) hgrow6.out) hone1 hm4 hm5 (B6.out.size) ?_; intro v7 w7 hown7 hgrow7; obtain ⟨a7, c7', hv7⟩ := aZi hown7; subst hv7; have B7 := aQ0 (show Below w4.heap.size w4 w7 from B6.out.grown hgrow7 B6.out.size (fun k hk => (hown6.out.lt k hk).1)); have d4 := (Q4.out.keep B7.out).cells.2.2.2.2.1; have f4 := (Q4.out.keep B7.out).thaw 4; have n7 : w7.cell? ⟨W.heap.size, 1, none⟩ = some (.string nm) := aQ2 (B7.out.block _ htl) n1; replace hown7 := aQ0 hown7; clear hgrow7
            case' t17 =>
             go_simp
             refine hK.out _ _ (aXo hHeld) (fun hHeld => ?_)
             clear hK K
             try simp only [Act.put, sA, sZ, sS]
             refine wpAnyH_ready (rs := [1]) (by kernel_rfl) (by simp) ?_
             refine AllReadyH.cons rfl (fun K hK => ?_) AllReadyH.nil
             go_simp
             refine hK.out _ _ (aXo hHeld) (fun hHeld => ?_)
             clear hK K
             try simp only [Act.put, sA, sZ, sS]
             refine wpAnyH_ready (rs := [6]) (by kernel_rfl) (by simp) ?_
             refine AllReadyH.cons rfl (fun K hK => ?_) AllReadyH.nil
             refine aXu rfl (.tmp 107) (.tmp 111) 52 rfl w4.heap.size B 9 j0 (.string ⟨#[]⟩) 1 16 underlying52 hj hjz0 hjz1 hjz2 rfl (by decide) _ _ _ rfl RC.out _ _ _ rfl (OX.out _ BC.out) hone hm1 hm2 BC.out.size ?_; intro v6 w6 hown6 hgrow6; rw [Nat.zero_add, List.nil_append] at hown6; obtain ⟨a6, c6', hv6⟩ := aZi hown6; subst hv6; have B6 := aQ0 (BC.out.grown hgrow6 BC.out.size (fun k hk => (RC.out.lt k hk).1)); have n6 : w6.cell? ⟨W.heap.size, 1, none⟩ = some (.string nm) := aQ2 (B6.out.block _ htl) n1; replace hown6 := aQ0 hown6; replace hgrow6 := aQ0 hgrow6
             refine hK.out _ _ (n6) (fun hHeld => ?_)
             clear hK K
             try simp only [Act.put, sA, sZ, sS]
             refine wpAnyH_ready (rs := [10]) (by kernel_rfl) (by simp) ?_
             refine AllReadyH.cons rfl (fun K hK => ?_) AllReadyH.nil
             refine aQn rfl (.tmp 112) (.tmp 115) 52 rfl w4.heap.size 9 j0 (.string ⟨#[]⟩) 1 16 underlying52 hj hjz0 hjz1 hjz2 rfl (by decide) _ _ _ rfl (hown6.out) ⟨_, 0, none⟩ 1 1 [.string nm] rfl rfl (bJ9 (w := w4.drew) hgrow6.out) hone1 hm4 hm5 (B6.out.size) ?_; intro v7 w7 hown7 hgrow7; obtain ⟨a7, c7', hv7⟩ := aZi hown7; subst hv7; have B7 := aQ0 (show Below w4.heap.size w4 w7 from B6.out.grown hgrow7 B6.out.size (fun k hk => (hown6.out.lt k hk).1)); have d4 := (Q4.out.keep B7.out).cells.2.2.2.2.1; have f4 := (Q4.out.keep B7.out).thaw 4; have n7 : w7.cell? ⟨W.heap.size, 1, none⟩ = some (.string nm) := aQ2 (B7.out.block _ htl) n1; replace hown7 := aQ0 hown7; clear hgrow7
           case' t11 =>
            go_simp
            refine hK.out _ _ (aXo hHeld) (fun hHeld => ?_)
            clear hK K
            try simp only [Act.put, sA, sZ, sS]
            refine wpAnyH_ready (rs := [1, 5]) (by kernel_rfl) (by simp) ?_
            refine AllReadyH.cons rfl (fun K hK => ?t20) (AllReadyH.cons rfl (fun K hK => ?t21) AllReadyH.nil)
            case' t20 =>
             go_simp
             refine hK.out _ _ (aXo hHeld) (fun hHeld => ?_)
             clear hK K
             try simp only [Act.put, sA, sZ, sS]
             refine wpAnyH_ready (rs := [5]) (by kernel_rfl) (by simp) ?_
             refine AllReadyH.cons rfl (fun K hK => ?_) AllReadyH.nil
             go_simp
             refine hK.out _ _ (hHeld) (fun hHeld => ?_)
             clear hK K
             try simp only [Act.put, sA, sZ, sS]
             refine wpAnyH_ready (rs := [6]) (by kernel_rfl) (by simp) ?_
             refine AllReadyH.cons rfl (fun K hK => ?_) AllReadyH.nil
             refine aXu rfl (.tmp 107) (.tmp 111) 52 rfl w4.heap.size B 9 j0 (.string ⟨#[]⟩) 1 16 underlying52 hj hjz0 hjz1 hjz2 rfl (by decide) _ _ _ rfl RC.out _ _ _ rfl (OX.out _ BC.out) hone hm1 hm2 BC.out.size ?_; intro v6 w6 hown6 hgrow6; rw [Nat.zero_add, List.nil_append] at hown6; obtain ⟨a6, c6', hv6⟩ := aZi hown6; subst hv6; have B6 := aQ0 (BC.out.grown hgrow6 BC.out.size (fun k hk => (RC.out.lt k hk).1)); have n6 : w6.cell? ⟨W.heap.size, 1, none⟩ = some (.string nm) := aQ2 (B6.out.block _ htl) n1; replace hown6 := aQ0 hown6; replace hgrow6 := aQ0 hgrow6
             refine hK.out _ _ (n6) (fun hHeld => ?_)
             clear hK K
             try simp only [Act.put, sA, sZ, sS]
             refine wpAnyH_ready (rs := [10]) (by kernel_rfl) (by simp) ?_
             refine AllReadyH.cons rfl (fun K hK => ?_) AllReadyH.nil
             refine aQn rfl (.tmp 112) (.tmp 115) 52 rfl w4.heap.size 9 j0 (.string ⟨#[]⟩) 1 16 underlying52 hj hjz0 hjz1 hjz2 rfl (by decide) _ _ _ rfl (hown6.out) ⟨_, 0, none⟩ 1 1 [.string nm] rfl rfl (bJ9 (w := w4.drew) hgrow6.out) hone1 hm4 hm5 (B6.out.size) ?_; intro v7 w7 hown7 hgrow7; obtain ⟨a7, c7', hv7⟩ := aZi hown7; subst hv7; have B7 := aQ0 (show Below w4.heap.size w4 w7 from B6.out.grown hgrow7 B6.out.size (fun k hk => (hown6.out.lt k hk).1)); have d4 := (Q4.out.keep B7.out).cells.2.2.2.2.1; have f4 := (Q4.out.keep B7.out).thaw 4; have n7 : w7.cell? ⟨W.heap.size, 1, none⟩ = some (.string nm) := aQ2 (B7.out.block _ htl) n1; replace hown7 := aQ0 hown7; clear hgrow7
            case' t21 =>
             go_simp
             refine hK.out _ _ (hHeld) (fun hHeld => ?_)
             clear hK K
             try simp only [Act.put, sA, sZ, sS]
             refine wpAnyH_ready (rs := [1]) (by kernel_rfl) (by simp) ?_
             refine AllReadyH.cons rfl (fun K hK => ?_) AllReadyH.nil
             go_simp
             refine hK.out _ _ (aXo hHeld) (fun hHeld => ?_)
             clear hK K
             try simp only [Act.put, sA, sZ, sS]
             refine wpAnyH_ready (rs := [6]) (by kernel_rfl) (by simp) ?_
             refine AllReadyH.cons rfl (fun K hK => ?_) AllReadyH.nil
             refine aXu rfl (.tmp 107) (.tmp 111) 52 rfl w4.heap.size B 9 j0 (.string ⟨#[]⟩) 1 16 underlying52 hj hjz0 hjz1 hjz2 rfl (by decide) _ _ _ rfl RC.out _ _ _ rfl (OX.out _ BC.out) hone hm1 hm2 BC.out.size ?_; intro v6 w6 hown6 hgrow6; rw [Nat.zero_add, List.nil_append] at hown6; obtain ⟨a6, c6', hv6⟩ := aZi hown6; subst hv6; have B6 := aQ0 (BC.out.grown hgrow6 BC.out.size (fun k hk => (RC.out.lt k hk).1)); have n6 : w6.cell? ⟨W.heap.size, 1, none⟩ = some (.string nm) := aQ2 (B6.out.block _ htl) n1; replace hown6 := aQ0 hown6; replace hgrow6 := aQ0 hgrow6
             refine hK.out _ _ (n6) (fun hHeld => ?_)
             clear hK K
             try simp only [Act.put, sA, sZ, sS]
             refine wpAnyH_ready (rs := [10]) (by kernel_rfl) (by simp) ?_
             refine AllReadyH.cons rfl (fun K hK => ?_) AllReadyH.nil
             refine aQn rfl (.tmp 112) (.tmp 115) 52 rfl w4.heap.size 9 j0 (.string ⟨#[]⟩) 1 16 underlying52 hj hjz0 hjz1 hjz2 rfl (by decide) _ _ _ rfl (hown6.out) ⟨_, 0, none⟩ 1 1 [.string nm] rfl rfl (bJ9 (w := w4.drew) hgrow6.out) hone1 hm4 hm5 (B6.out.size) ?_; intro v7 w7 hown7 hgrow7; obtain ⟨a7, c7', hv7⟩ := aZi hown7; subst hv7; have B7 := aQ0 (show Below w4.heap.size w4 w7 from B6.out.grown hgrow7 B6.out.size (fun k hk => (hown6.out.lt k hk).1)); have d4 := (Q4.out.keep B7.out).cells.2.2.2.2.1; have f4 := (Q4.out.keep B7.out).thaw 4; have n7 : w7.cell? ⟨W.heap.size, 1, none⟩ = some (.string nm) := aQ2 (B7.out.block _ htl) n1; replace hown7 := aQ0 hown7; clear hgrow7
           all_goals
            refine hK.out _ _ (n7) (fun hHeld => ?_)
            clear hK K
            try simp only [Act.put, sA, sZ, sS]
            refine wpT (i := 11) (v := (.pointer (some ⟨g, 0, none⟩))) rfl (by kernel_rfl) (fun _ _ _ h => h) (Or.inl ⟨by rfl, fun wz hz => by go_simp⟩) hHeld ?_
            try simp only [Act.put, sA, sZ, sS]
            refine wpT (i := 12) (v := (.pointer (some ⟨g, 4, none⟩))) rfl (by kernel_rfl) (fun _ _ _ h => h) (Or.inl ⟨by rfl, fun wz hz => by go_simp⟩) hHeld ?_
            try simp only [Act.put, sA, sZ, sS]
            refine wpAnyH_ready (rs := [13]) (by kernel_rfl) (by simp) ?_
            refine AllReadyH.cons rfl (fun K hK => ?_) AllReadyH.nil
            go_simp
            refine hK.out _ _ (aQ2 (Below.heap_setCell _ ⟨g, 4, none⟩ _ _ hkg) n7) (fun hHeld => ?_)
            clear hK K
            try simp only [Act.put, sA, sZ, sS]
            refine wpAnyH_done (by kernel_rfl) ?_ _
            (go_wp2; go_end0; exact FIN.out _ _ _ B7.out hown7.out)
         · have hcb : (S1.cd != 0) = true := by simpa using hcd
           go_wp2
           go_end0
           exact ⟨rfl, S1, _, _, _, _, SL.out.qr, SL.out.vs.cs.mono (Nat.zero_le _), Kc.kp SL.out.kp⟩
end
end Go.Proofs.YtocnfoeaikiecaaGreatDoor
