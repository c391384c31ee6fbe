import Derived.Test.YtocnfoeaikiecaaGreatDoorLwT
set_option maxRecDepth 100000
set_option maxHeartbeats 16000000
set_option linter.unusedVariables false
set_option linter.unusedSimpArgs false
namespace Go.Proofs.YtocnfoeaikiecaaGreatDoor.fnSpaced
open Go.RowKit Lists Ents PlainS PlainN PlainT Tryz
theorem cYi {w w' : World} {a : Option Addr} {n : Nat} (h : Fed w a n) (hb : Below w.heap.size w w') : Fed w' a n := by
 obtain ⟨zs, h1, h2, ⟨b, off, ha, hc⟩, h4⟩ := h
 exact ⟨zs, h1, h2, ⟨b, off, ha, fun k hk => aQ2 (hb.block _ (aQk (hc k hk))) (hc k hk)⟩, h4⟩
theorem dVs {W W' : World} {k : Nat} {o : Obj} (hb : Below W.heap.size W W') (h : W.heap[k]? = some o) : W'.heap[k]? = some o := (hb.block _ (gLt h)).trans h
theorem walk (a a' : Option Addr) (n n' cap cap' : Nat) (w : World) (m : Int) (hS : Fed w a n) (hS' : Fed w a' n') (hEn : EnvS w m) :
 Calls prog 3 #[.slice a n cap, .slice a' n' cap'] w fun e w' => e = .returned (.bool true) ∧ Below w.heap.size w w' := by
 have hn : ¬ (n : Int) > 1048576 := by obtain ⟨_, _, h, _⟩ := hS; omega
 have hn' : ¬ (n' : Int) > 1048576 := by obtain ⟨_, _, h, _⟩ := hS'; omega
 have HS' := aQ0 hS'
 have HE := aQ0 hEn
 have hds := bVl (cap := cap) hS
 clear hS hS' hEn
 go_enter func3, ntmps3
 go_wp2_with fail
 refine hds.mono ?_
 rintro e w1 ⟨al, cl, evs, rfl, hI, hG, hsm, hb1⟩
 have HI := aQ0 hI
 have B1 := aQ0 hb1
 have hlk := fun j hj => cQu evs hG j hj
 have hss := bWr hsm.la
 have hsi := bVj w1 al _ cl evs m rfl hI (HE.out.below hb1) hsm.la hsm.nm hsm.na hsm.len
 have hsp := fun W (hb : Below w1.heap.size w1 W) => bVg W al _ cl evs rfl (hI.below hb) hsm.la hsm.nm hsm.na hsm.len
 generalize aZr evs = R at hsi hss hlk hsp
 have HLK := aQ0 hlk
 have HSP := aQ0 hsp
 have HSS := aQ0 hss.2
 have hnl : R.nodes.length ≤ 1048576 := Nat.le_trans hss.1 hsm.len
 clear hds hI hG hsm hb1 hlk hsp hss
 go_wp2_with fail
 refine hsi.mono ?_
 intro e w2 hs2
 obtain ⟨a2, c2, rfl, hN2, hb2⟩ := cKt hs2
 obtain ⟨cd, hcd⟩ := nmE (R.code)
 rw [hcd]
 obtain ⟨W3, hW3⟩ := nmE (w2.alloc (.cells #[.slice a2 R.nodes.length c2, .int .i64 R.at1, .int .i64 cd] 27))
 have hb3 : Below w2.heap.size w2 W3 := by rw [← hW3]; exact bAl
 have hx3 : W3.heap[w2.heap.size]? = some (.cells #[.slice a2 R.nodes.length c2, .int .i64 R.at1, .int .i64 cd] 27) := by rw [← hW3]; exact heap_alloc_new _ _
 have B3 := aQ0 (onQ B1.out (onQ hb2 hb3))
 have N3 := aQ0 (hN2.below hb3)
 have X3 := aQ0 hx3
 have hs4 := HSP.out W3 (onQ hb2 hb3)
 have E3 := aQ0 (HI.out.below (onQ hb2 hb3))
 clear hsi hs2 hN2 hb2 hb3 hx3 HSP HI B1
 go_wp2_with fail
 refine hs4.mono ?_
 intro e w4 hs5
 obtain ⟨a4, c4, rfl, hN4, hb4⟩ := cKt hs5
 rw [hcd]
 obtain ⟨W5, hW5⟩ := nmE (w4.alloc (.cells #[.slice a4 R.nodes.length c4, .int .i64 R.at1, .int .i64 cd] 27))
 have hb5 : Below w4.heap.size w4 W5 := by rw [← hW5]; exact bAl
 have hx5 : W5.heap[w4.heap.size]? = some (.cells #[.slice a4 R.nodes.length c4, .int .i64 R.at1, .int .i64 cd] 27) := by rw [← hW5]; exact heap_alloc_new _ _
 have hb35 := onQ hb4 hb5
 have B5 := aQ0 (onQ B3.out hb35)
 have N5 := aQ0 (N3.out.below hb35)
 have M5 := aQ0 (hN4.below hb5)
 have X5 := aQ0 (dVs hb35 X3.out)
 have Y5 := aQ0 hx5
 have E5 := aQ0 (E3.out.below hb35)
 obtain ⟨p0, p1, p2, _, _, _⟩ := aXk X5.out
 obtain ⟨q0, q1, q2, _, _, _⟩ := aXk Y5.out
 clear hs4 hs5 hN4 hb4 hb5 hx5 hb35 N3 X3 E3 B3 hcd hW3
 go_wp2_with fail
 go_loopw [8] (fun i wr => ∃ j : Nat, j ≤ R.nodes.length ∧ i = .int .i64 j ∧ Below W5.heap.size W5 wr) (fun i _ => R.nodes.length - (intOf i).toNat)
 case atStart => exact ⟨0, Nat.zero_le _, rfl, Below.refl _ _⟩
 case round =>
  obtain ⟨j, hj, rfl, hbr⟩ := hrel
  have BR := aQ0 hbr
  obtain ⟨p0, p1, p2, _, _, _⟩ := aXk (dVs hbr X5.out)
  obtain ⟨q0, q1, q2, _, _, _⟩ := aXk (dVs hbr Y5.out)
  clear hbr
  by_cases hlt : j < R.nodes.length
  · have hlti : (j : Int) < (R.nodes.length : Int) := by omega
    obtain ⟨nb, hnb, hnc⟩ := N5.out.below BR.out
    obtain rfl := hnb (by omega)
    obtain ⟨mb, hmb, hmc⟩ := M5.out.below BR.out
    obtain rfl := hmb (by omega)
    obtain ⟨da, dc, xa, xc, k0, k1, k2, k3, k4, k5, k6, k7, hEd, hNx⟩ := hnc j hlt
    obtain ⟨da', dc', xa', xc', l0, l1, l2, l3, l4, l5, l6, l7, hEd', hNx'⟩ := hmc j hlt
    obtain ⟨hje, lk1, lk2, lk3⟩ := HLK.out j hlt
    obtain ⟨eb, eo, heb, hec⟩ := E5.out.below BR.out
    obtain rfl := heb (by omega)
    obtain ⟨e0, e1, e2, ea, ec, e3, _⟩ := hec j hje
    have hsml := HSS.out _ (List.getElem_mem hlt)
    obtain ⟨D, hD⟩ := nmE (R.nodes[j]'hlt)
    obtain ⟨E, hE⟩ := nmE (evs[j]'hje)
    rw [hD] at k0 k1 k2 k3 k4 k5 k6 k7 l0 l1 l2 l3 l4 l5 l6 l7 hEd hNx hEd' hNx' lk1 lk2 lk3 hsml
    rw [hE] at e0 e1 e2 e3 lk1 lk2 lk3
    have hjei : (j : Int) < (evs.length : Int) := by omega
    clear hnc hmc hec hnb hmb heb hD hE
    rw [← lk1] at e0
    rw [← lk2] at e2
    rw [← lk1] at lk3
    obtain ⟨W6, hW6⟩ := nmE (wr.alloc (.cells #[.int .i64 D.kind, .string D.name.pre, .string D.name.loc, .string D.name.spc, .string D.name.val, .slice da D.decls.length dc, .slice xa D.attrs.length xc, .string D.text] 34))
    have hb6 : Below wr.heap.size wr W6 := by rw [← hW6]; exact bAl
    have hx6 : W6.heap[wr.heap.size]? = some (.cells #[.int .i64 D.kind, .string D.name.pre, .string D.name.loc, .string D.name.spc, .string D.name.val, .slice da D.decls.length dc, .slice xa D.attrs.length xc, .string D.text] 34) := by rw [← hW6]; exact heap_alloc_new _ _
    have hk6 : ∀ {b o : Nat} {v : Value}, wr.cell? ⟨b, o, none⟩ = some v → W6.cell? ⟨b, o, none⟩ = some v := fun h => aQ2 (hb6.block _ (aQk h)) h
    have hlw := cXc W6.drew D da da' xa xa' dc dc' xc xc' (by omega) (by omega) (cXp hEd (onQ hb6 (bD _))) (cXp hEd' (onQ hb6 (bD _))) (hNx.below (onQ hb6 (bD _))) (hNx'.below (onQ hb6 (bD _)))
    unfold ndV at hlw
    obtain ⟨u0, u1, u2, u3, u4, u5, u6, u7⟩ := aKi hx6
    have B6 := aQ0 hb6
    have HW6 := aQ0 hW6
    have hwl : IntKind.i64.wrap ((D.decls.length : Int) + (D.attrs.length : Int)) = (D.decls.length : Int) + (D.attrs.length : Int) := Strs2.aXt (by omega) (by omega)
    have LK3 := aQ0 lk3
    have q0a := hk6 q0
    have l0a := hk6 l0
    have l1a := hk6 l1
    have l2a := hk6 l2
    have l3a := hk6 l3
    have l4a := hk6 l4
    have l5a := hk6 l5
    have l6a := hk6 l6
    have l7a := hk6 l7
    have e0a := hk6 e0
    have e2a := hk6 e2
    have e3a := hk6 e3
    clear hk6 hx6 hb6 hEd hNx hEd' hNx' lk1 lk2 lk3 hsml
    obtain ⟨el, hel⟩ := nmE (E.attrs.length)
    rw [hel] at e3a e3
    cases hkb : (D.kind == 1) with
    | true =>
     obtain rfl : D.decls.length + D.attrs.length = el := by rw [← hel]; exact LK3.out (by simpa using hkb)
     go_wp2_with fail
     go_region_held3 (fun Wx => Wx.cell? ⟨wr.heap.size, 0, none⟩ = some (.int .i64 D.kind) ∧ Wx.cell? ⟨wr.heap.size, 1, none⟩ = some (.string D.name.pre) ∧ Wx.cell? ⟨wr.heap.size, 2, none⟩ = some (.string D.name.loc) ∧ Wx.cell? ⟨wr.heap.size, 3, none⟩ = some (.string D.name.spc) ∧ Wx.cell? ⟨wr.heap.size, 4, none⟩ = some (.string D.name.val) ∧ Wx.cell? ⟨wr.heap.size, 5, none⟩ = some (.slice da D.decls.length dc) ∧ Wx.cell? ⟨wr.heap.size, 6, none⟩ = some (.slice xa D.attrs.length xc) ∧ Wx.cell? ⟨wr.heap.size, 7, none⟩ = some (.string D.text) ∧ Wx.cell? ⟨w4.heap.size, 0, none⟩ = some (.slice (some ⟨mb, 0, none⟩) R.nodes.length c4) ∧ Wx.cell? ⟨mb, j * 8, none⟩ = some (.int .i64 D.kind) ∧ Wx.cell? ⟨mb, j * 8 + 1, none⟩ = some (.string D.name.pre) ∧ Wx.cell? ⟨mb, j * 8 + 2, none⟩ = some (.string D.name.loc) ∧ Wx.cell? ⟨mb, j * 8 + 3, none⟩ = some (.string D.name.spc) ∧ Wx.cell? ⟨mb, j * 8 + 4, none⟩ = some (.string D.name.val) ∧ Wx.cell? ⟨mb, j * 8 + 5, none⟩ = some (.slice da' D.decls.length dc') ∧ Wx.cell? ⟨mb, j * 8 + 6, none⟩ = some (.slice xa' D.attrs.length xc') ∧ Wx.cell? ⟨mb, j * 8 + 7, none⟩ = some (.string D.text) ∧ Wx.cell? ⟨eb, eo + j * 4, none⟩ = some (.int .i64 D.kind) ∧ Wx.cell? ⟨eb, eo + j * 4 + 2, none⟩ = some (.string D.text) ∧ Wx.cell? ⟨eb, eo + j * 4 + 3, none⟩ = some (.slice ea (D.decls.length + D.attrs.length) ec)) (first | exact ⟨u0, u1, u2, u3, u4, u5, u6, u7, q0a, l0a, l1a, l2a, l3a, l4a, l5a, l6a, l7a, e0a, e2a, e3a⟩ | exact ⟨u0', u1', u2', u3', u4', u5', u6', u7', q0a', l0a', l1a', l2a', l3a', l4a', l5a', l6a', l7a', e0a', e2a', e3a'⟩ | assumption) ((go_at_call 7; refine hlw.mono ?_; rintro e w7 ⟨rfl, hb7⟩; have hk7 : ∀ {b o : Nat} {v : Value}, W6.cell? ⟨b, o, none⟩ = some v → w7.cell? ⟨b, o, none⟩ = some v := (fun h => aQ2 (hb7.block _ (aQk h)) h); have u0' := hk7 u0; have u1' := hk7 u1; have u2' := hk7 u2; have u3' := hk7 u3; have u4' := hk7 u4; have u5' := hk7 u5; have u6' := hk7 u6; have u7' := hk7 u7; have q0a' := hk7 q0a; have l0a' := hk7 l0a; have l1a' := hk7 l1a; have l2a' := hk7 l2a; have l3a' := hk7 l3a; have l4a' := hk7 l4a; have l5a' := hk7 l5a; have l6a' := hk7 l6a; have l7a' := hk7 l7a; have e0a' := hk7 e0a; have e2a' := hk7 e2a; have e3a' := hk7 e3a; have B7 := aQ0 hb7; clear hk7 hb7))
     go_wp2
     exact ⟨⟨j + 1, by omega, by go_num, onQ BR.out (onQ B6.out (onQ (bD _) B7.out))⟩, by show R.nodes.length - ((j : Int) + 1).toNat < R.nodes.length - ((j : Int)).toNat; omega⟩
    | false =>
     have hentN := fun a w => bQt (P := prog) func7 (by kernel_rfl) rfl a w
     go_wp2_with fail
     refine wp_region_held_drew (S := fun Wx => Wx.cell? ⟨wr.heap.size, 0, none⟩ = some (.int .i64 D.kind) ∧ Wx.cell? ⟨wr.heap.size, 1, none⟩ = some (.string D.name.pre) ∧ Wx.cell? ⟨wr.heap.size, 2, none⟩ = some (.string D.name.loc) ∧ Wx.cell? ⟨wr.heap.size, 3, none⟩ = some (.string D.name.spc) ∧ Wx.cell? ⟨wr.heap.size, 4, none⟩ = some (.string D.name.val) ∧ Wx.cell? ⟨wr.heap.size, 5, none⟩ = some (.slice da D.decls.length dc) ∧ Wx.cell? ⟨wr.heap.size, 6, none⟩ = some (.slice xa D.attrs.length xc) ∧ Wx.cell? ⟨wr.heap.size, 7, none⟩ = some (.string D.text) ∧ Wx.cell? ⟨w4.heap.size, 0, none⟩ = some (.slice (some ⟨mb, 0, none⟩) R.nodes.length c4) ∧ Wx.cell? ⟨mb, j * 8, none⟩ = some (.int .i64 D.kind) ∧ Wx.cell? ⟨mb, j * 8 + 1, none⟩ = some (.string D.name.pre) ∧ Wx.cell? ⟨mb, j * 8 + 2, none⟩ = some (.string D.name.loc) ∧ Wx.cell? ⟨mb, j * 8 + 3, none⟩ = some (.string D.name.spc) ∧ Wx.cell? ⟨mb, j * 8 + 4, none⟩ = some (.string D.name.val) ∧ Wx.cell? ⟨mb, j * 8 + 5, none⟩ = some (.slice da' D.decls.length dc') ∧ Wx.cell? ⟨mb, j * 8 + 6, none⟩ = some (.slice xa' D.attrs.length xc') ∧ Wx.cell? ⟨mb, j * 8 + 7, none⟩ = some (.string D.text) ∧ Wx.cell? ⟨eb, eo + j * 4, none⟩ = some (.int .i64 D.kind) ∧ Wx.cell? ⟨eb, eo + j * 4 + 2, none⟩ = some (.string D.text) ∧ Wx.cell? ⟨eb, eo + j * 4 + 3, none⟩ = some (.slice ea el ec)) (by kernel_rfl) ⟨u0, u1, u2, u3, u4, u5, u6, u7, q0a, l0a, l1a, l2a, l3a, l4a, l5a, l6a, l7a, e0a, e2a, e3a⟩ (fun hHeld => ?_)
     refine wpT (i := 0) (oi := ⟨some 59, _, _, _, _, _⟩) (v := (.agg #[.int .i64 D.kind, .string D.name.pre, .string D.name.loc, .string D.name.spc, .string D.name.val, .slice da D.decls.length dc, .slice xa D.attrs.length xc, .string D.text])) rfl (by kernel_rfl) (fun _ _ _ h => h) (Or.inl ⟨by rfl, fun wz hz => by (obtain ⟨z0, z1, z2, z3, z4, z5, z6, z7, z8, z9, z10, z11, z12, z13, z14, z15, z16, z17, z18, z19⟩ := hz; go_simp)⟩) hHeld ?_
     try simp only [Act.put, sA, sZ, sS]
     refine wpT (i := 1) (oi := ⟨some 60, _, _, _, _, _⟩) (v := (.pointer (some ⟨w4.heap.size, 0, none⟩))) rfl (by kernel_rfl) (fun _ _ _ h => h) (Or.inl ⟨by rfl, fun wz hz => by (clear hz hHeld; go_simp)⟩) hHeld ?_
     try simp only [Act.put, sA, sZ, sS]
     refine wpT (i := 2) (oi := ⟨some 61, _, _, _, _, _⟩) (v := (.slice (some ⟨mb, 0, none⟩) R.nodes.length c4)) rfl (by kernel_rfl) (fun _ _ _ h => h) (Or.inl ⟨by rfl, fun wz hz => by (obtain ⟨z0, z1, z2, z3, z4, z5, z6, z7, z8, z9, z10, z11, z12, z13, z14, z15, z16, z17, z18, z19⟩ := hz; go_simp)⟩) hHeld ?_
     try simp only [Act.put, sA, sZ, sS]
     refine wpT (i := 3) (oi := ⟨some 62, _, _, _, _, _⟩) (v := (.int .i64 (j : Int))) rfl (by kernel_rfl) (fun _ _ _ h => h) (Or.inl ⟨by rfl, fun wz hz => by (clear hz hHeld; go_simp)⟩) hHeld ?_
     try simp only [Act.put, sA, sZ, sS]
     refine wpT (i := 4) (oi := ⟨some 63, _, _, _, _, _⟩) (v := (.pointer (some ⟨mb, j * 8, none⟩))) rfl (by kernel_rfl) (fun _ _ _ h => h) (Or.inl ⟨by rfl, fun wz hz => by (clear hz hHeld; go_simp)⟩) hHeld ?_
     try simp only [Act.put, sA, sZ, sS]
     refine wpT (i := 5) (oi := ⟨some 64, _, _, _, _, _⟩) (v := (.agg #[.int .i64 D.kind, .string D.name.pre, .string D.name.loc, .string D.name.spc, .string D.name.val, .slice da' D.decls.length dc', .slice xa' D.attrs.length xc', .string D.text])) rfl (by kernel_rfl) (fun _ _ _ h => h) (Or.inl ⟨by rfl, fun wz hz => by (obtain ⟨z0, z1, z2, z3, z4, z5, z6, z7, z8, z9, z10, z11, z12, z13, z14, z15, z16, z17, z18, z19⟩ := hz; go_simp)⟩) hHeld ?_
     try simp only [Act.put, sA, sZ, sS]
     refine wpAnyH_ready (rs := [6]) (by kernel_rfl) (by simp) ?_
     refine AllReadyH.cons (o := { dst := some 65, op := .call { callee := .value (.func 7), args := #[.tmp 59, .tmp 64], argTypes := #[34, 34] }, type := 4, pos := "laws.go:288", after := #[{ on := 0, ground := .data }, { on := 5, ground := .data }], guard := none }) rfl (fun K hK => ?_) AllReadyH.nil
     refine aJe rfl 7 #[.tmp 59, .tmp 64] #[34, 34] rfl #[.agg #[.int .i64 D.kind, .string D.name.pre, .string D.name.loc, .string D.name.spc, .string D.name.val, .slice da D.decls.length dc, .slice xa D.attrs.length xc, .string D.text], .agg #[.int .i64 D.kind, .string D.name.pre, .string D.name.loc, .string D.name.spc, .string D.name.val, .slice da' D.decls.length dc', .slice xa' D.attrs.length xc', .string D.text]] (by simp [Act.eval, Act.put]) hentN hlw ?_ (fun ch w' hP => by (obtain ⟨he, _⟩ := hP; cases he)) (fun w' hP => by (obtain ⟨he, _⟩ := hP; cases he)); intro v' w7 hP; obtain ⟨hve, hb7⟩ := hP; cases hve; have hk7 : ∀ {b o : Nat} {v : Value}, W6.cell? ⟨b, o, none⟩ = some v → w7.cell? ⟨b, o, none⟩ = some v := (fun h => aQ2 (hb7.block _ (aQk h)) h); have u0' := hk7 u0; have u1' := hk7 u1; have u2' := hk7 u2; have u3' := hk7 u3; have u4' := hk7 u4; have u5' := hk7 u5; have u6' := hk7 u6; have u7' := hk7 u7; have q0a' := hk7 q0a; have l0a' := hk7 l0a; have l1a' := hk7 l1a; have l2a' := hk7 l2a; have l3a' := hk7 l3a; have l4a' := hk7 l4a; have l5a' := hk7 l5a; have l6a' := hk7 l6a; have l7a' := hk7 l7a; have e0a' := hk7 e0a; have e2a' := hk7 e2a; have e3a' := hk7 e3a; have B7 := aQ0 hb7; clear hk7 hb7
     refine hK.out _ _ ⟨u0', u1', u2', u3', u4', u5', u6', u7', q0a', l0a', l1a', l2a', l3a', l4a', l5a', l6a', l7a', e0a', e2a', e3a'⟩ (fun hHeld => ?_)
     clear hK K hlw hentN u0 u1 u2 u3 u4 u5 u6 u7 q0a l0a l1a l2a l3a l4a l5a l6a l7a e0a e2a e3a u0' u1' u2' u3' u4' u5' u6' u7' q0a' l0a' l1a' l2a' l3a' l4a' l5a' l6a' l7a' e0a' e2a' e3a' p0 p1 p2 q0 q1 q2 k0 k1 k2 k3 k4 k5 k6 k7 l0 l1 l2 l3 l4 l5 l6 l7 e0 e1 e2 e3
     try simp only [Act.put, sA, sZ, sS]
     refine wpT (i := 7) (oi := ⟨some 66, _, _, _, _, _⟩) (v := (.bool false)) rfl (by kernel_rfl) (fun _ _ _ h => h) (Or.inl ⟨by rfl, fun wz hz => by (clear hz hHeld; go_simp)⟩) hHeld ?_
     try simp only [Act.put, sA, sZ, sS]
     refine wpT (i := 8) (oi := ⟨some 67, _, _, _, _, _⟩) (v := (.bool false)) rfl (by kernel_rfl) (fun _ _ _ h => h) (Or.inl ⟨by rfl, fun wz hz => by (clear hz hHeld; go_simp)⟩) hHeld ?_
     try simp only [Act.put, sA, sZ, sS]
     refine wpT (i := 9) (oi := ⟨some 68, _, _, _, _, _⟩) (v := (.pointer (some ⟨wr.heap.size, 0, none⟩))) rfl (by kernel_rfl) (fun _ _ _ h => h) (Or.inl ⟨by rfl, fun wz hz => by (clear hz hHeld; go_simp)⟩) hHeld ?_
     try simp only [Act.put, sA, sZ, sS]
     refine wpT (i := 10) (oi := ⟨some 69, _, _, _, _, _⟩) (v := (.int .i64 D.kind)) rfl (by kernel_rfl) (fun _ _ _ h => h) (Or.inl ⟨by rfl, fun wz hz => by (obtain ⟨z0, z1, z2, z3, z4, z5, z6, z7, z8, z9, z10, z11, z12, z13, z14, z15, z16, z17, z18, z19⟩ := hz; go_simp)⟩) hHeld ?_
     try simp only [Act.put, sA, sZ, sS]
     refine wpT (i := 11) (oi := ⟨some 70, _, _, _, _, _⟩) (v := (.slice (some ⟨eb, eo, none⟩) evs.length cl)) rfl (by kernel_rfl) (fun _ _ _ h => h) (Or.inl ⟨by rfl, fun wz hz => by (clear hz hHeld; go_simp)⟩) hHeld ?_
     try simp only [Act.put, sA, sZ, sS]
     refine wpT (i := 12) (oi := ⟨some 71, _, _, _, _, _⟩) (v := (.int .i64 (j : Int))) rfl (by kernel_rfl) (fun _ _ _ h => h) (Or.inl ⟨by rfl, fun wz hz => by (clear hz hHeld; go_simp)⟩) hHeld ?_
     try simp only [Act.put, sA, sZ, sS]
     refine wpT (i := 13) (oi := ⟨some 72, _, _, _, _, _⟩) (v := (.pointer (some ⟨eb, eo + j * 4, none⟩))) rfl (by kernel_rfl) (fun _ _ _ h => h) (Or.inl ⟨by rfl, fun wz hz => by (clear hz hHeld; go_simp)⟩) hHeld ?_
     try simp only [Act.put, sA, sZ, sS]
     refine wpT (i := 14) (oi := ⟨some 73, _, _, _, _, _⟩) (v := (.pointer (some ⟨eb, eo + j * 4, none⟩))) rfl (by kernel_rfl) (fun _ _ _ h => h) (Or.inl ⟨by rfl, fun wz hz => by (clear hz hHeld; go_simp)⟩) hHeld ?_
     try simp only [Act.put, sA, sZ, sS]
     refine wpT (i := 15) (oi := ⟨some 74, _, _, _, _, _⟩) (v := (.int .i64 D.kind)) rfl (by kernel_rfl) (fun _ _ _ h => h) (Or.inl ⟨by rfl, fun wz hz => by (obtain ⟨z0, z1, z2, z3, z4, z5, z6, z7, z8, z9, z10, z11, z12, z13, z14, z15, z16, z17, z18, z19⟩ := hz; go_simp)⟩) hHeld ?_
     try simp only [Act.put, sA, sZ, sS]
     refine wpT (i := 16) (oi := ⟨some 75, _, _, _, _, _⟩) (v := (.bool false)) rfl (by kernel_rfl) (fun _ _ _ h => h) (Or.inl ⟨by rfl, fun wz hz => by (clear hz hHeld; go_simp)⟩) hHeld ?_
     try simp only [Act.put, sA, sZ, sS]
     refine wpT (i := 17) (oi := ⟨some 76, _, _, _, _, _⟩) (v := (.bool false)) rfl (by kernel_rfl) (fun _ _ _ h => h) (Or.inl ⟨by rfl, fun wz hz => by (clear hz hHeld; go_simp)⟩) hHeld ?_
     try simp only [Act.put, sA, sZ, sS]
     refine wpT (i := 18) (oi := ⟨some 77, _, _, _, _, _⟩) (v := (.bool false)) rfl (by kernel_rfl) (fun _ _ _ h => h) (Or.inl ⟨by rfl, fun wz hz => by (clear hz hHeld; go_simp)⟩) hHeld ?_
     try simp only [Act.put, sA, sZ, sS]
     refine wpT (i := 19) (oi := ⟨some 78, _, _, _, _, _⟩) (v := (.pointer (some ⟨wr.heap.size, 7, none⟩))) rfl (by kernel_rfl) (fun _ _ _ h => h) (Or.inl ⟨by rfl, fun wz hz => by (clear hz hHeld; go_simp)⟩) hHeld ?_
     try simp only [Act.put, sA, sZ, sS]
     refine wpT (i := 20) (oi := ⟨some 79, _, _, _, _, _⟩) (v := (.string D.text)) rfl (by kernel_rfl) (fun _ _ _ h => h) (Or.inl ⟨by rfl, fun wz hz => by (obtain ⟨z0, z1, z2, z3, z4, z5, z6, z7, z8, z9, z10, z11, z12, z13, z14, z15, z16, z17, z18, z19⟩ := hz; go_simp)⟩) hHeld ?_
     try simp only [Act.put, sA, sZ, sS]
     refine wpT (i := 21) (oi := ⟨some 80, _, _, _, _, _⟩) (v := (.slice (some ⟨eb, eo, none⟩) evs.length cl)) rfl (by kernel_rfl) (fun _ _ _ h => h) (Or.inl ⟨by rfl, fun wz hz => by (clear hz hHeld; go_simp)⟩) hHeld ?_
     try simp only [Act.put, sA, sZ, sS]
     refine wpT (i := 22) (oi := ⟨some 81, _, _, _, _, _⟩) (v := (.int .i64 (j : Int))) rfl (by kernel_rfl) (fun _ _ _ h => h) (Or.inl ⟨by rfl, fun wz hz => by (clear hz hHeld; go_simp)⟩) hHeld ?_
     try simp only [Act.put, sA, sZ, sS]
     refine wpT (i := 23) (oi := ⟨some 82, _, _, _, _, _⟩) (v := (.pointer (some ⟨eb, eo + j * 4, none⟩))) rfl (by kernel_rfl) (fun _ _ _ h => h) (Or.inl ⟨by rfl, fun wz hz => by (clear hz hHeld; go_simp)⟩) hHeld ?_
     try simp only [Act.put, sA, sZ, sS]
     refine wpT (i := 24) (oi := ⟨some 83, _, _, _, _, _⟩) (v := (.pointer (some ⟨eb, eo + j * 4 + 2, none⟩))) rfl (by kernel_rfl) (fun _ _ _ h => h) (Or.inl ⟨by rfl, fun wz hz => by (clear hz hHeld; go_simp)⟩) hHeld ?_
     try simp only [Act.put, sA, sZ, sS]
     refine wpT (i := 25) (oi := ⟨some 84, _, _, _, _, _⟩) (v := (.string D.text)) rfl (by kernel_rfl) (fun _ _ _ h => h) (Or.inl ⟨by rfl, fun wz hz => by (obtain ⟨z0, z1, z2, z3, z4, z5, z6, z7, z8, z9, z10, z11, z12, z13, z14, z15, z16, z17, z18, z19⟩ := hz; go_simp)⟩) hHeld ?_
     try simp only [Act.put, sA, sZ, sS]
     refine wpT (i := 26) (oi := ⟨some 85, _, _, _, _, _⟩) (v := (.bool false)) rfl (by kernel_rfl) (fun _ _ _ h => h) (Or.inl ⟨by rfl, fun wz hz => by (clear hz hHeld; go_simp)⟩) hHeld ?_
     try simp only [Act.put, sA, sZ, sS]
     refine wpT (i := 27) (oi := ⟨some 86, _, _, _, _, _⟩) (v := (.bool false)) rfl (by kernel_rfl) (fun _ _ _ h => h) (Or.inl ⟨by rfl, fun wz hz => by (clear hz hHeld; go_simp)⟩) hHeld ?_
     try simp only [Act.put, sA, sZ, sS]
     refine wpT (i := 28) (oi := ⟨some 87, _, _, _, _, _⟩) (v := (.bool false)) rfl (by kernel_rfl) (fun _ _ _ h => h) (Or.inl ⟨by rfl, fun wz hz => by (clear hz hHeld; go_simp)⟩) hHeld ?_
     try simp only [Act.put, sA, sZ, sS]
     refine wpT (i := 29) (oi := ⟨some 88, _, _, _, _, _⟩) (v := (.pointer (some ⟨wr.heap.size, 0, none⟩))) rfl (by kernel_rfl) (fun _ _ _ h => h) (Or.inl ⟨by rfl, fun wz hz => by (clear hz hHeld; go_simp)⟩) hHeld ?_
     try simp only [Act.put, sA, sZ, sS]
     refine wpT (i := 30) (oi := ⟨some 89, _, _, _, _, _⟩) (v := (.int .i64 D.kind)) rfl (by kernel_rfl) (fun _ _ _ h => h) (Or.inl ⟨by rfl, fun wz hz => by (obtain ⟨z0, z1, z2, z3, z4, z5, z6, z7, z8, z9, z10, z11, z12, z13, z14, z15, z16, z17, z18, z19⟩ := hz; go_simp)⟩) hHeld ?_
     try simp only [Act.put, sA, sZ, sS]
     refine wpT (i := 31) (oi := ⟨some 90, _, _, _, _, _⟩) (v := (.bool false)) rfl (by kernel_rfl) (fun _ _ _ h => h) (Or.inl ⟨by rfl, fun wz hz => by (clear hz hHeld; go_simp)⟩) hHeld ?_
     try simp only [Act.put, sA, sZ, sS]
     refine wpT (i := 32) (oi := ⟨some 91, _, _, _, _, _⟩) (v := (.bool false)) rfl (by kernel_rfl) (fun _ _ _ h => h) (Or.inl ⟨by rfl, fun wz hz => by (clear hz hHeld; go_simp)⟩) hHeld ?_
     try simp only [Act.put, sA, sZ, sS]
     refine wpT (i := 33) (oi := ⟨some 92, _, _, _, _, _⟩) (v := undef) rfl (by kernel_rfl) (fun _ _ _ h => h) (Or.inr ⟨by rfl, rfl⟩) hHeld ?_
     try simp only [Act.put, sA, sZ, sS]
     refine wpT (i := 34) (oi := ⟨some 93, _, _, _, _, _⟩) (v := undef) rfl (by kernel_rfl) (fun _ _ _ h => h) (Or.inr ⟨by rfl, rfl⟩) hHeld ?_
     try simp only [Act.put, sA, sZ, sS]
     refine wpT (i := 35) (oi := ⟨some 94, _, _, _, _, _⟩) (v := undef) rfl (by kernel_rfl) (fun _ _ _ h => h) (Or.inr ⟨by rfl, rfl⟩) hHeld ?_
     try simp only [Act.put, sA, sZ, sS]
     refine wpT (i := 36) (oi := ⟨some 95, _, _, _, _, _⟩) (v := undef) rfl (by kernel_rfl) (fun _ _ _ h => h) (Or.inr ⟨by rfl, rfl⟩) hHeld ?_
     try simp only [Act.put, sA, sZ, sS]
     refine wpT (i := 37) (oi := ⟨some 96, _, _, _, _, _⟩) (v := undef) rfl (by kernel_rfl) (fun _ _ _ h => h) (Or.inr ⟨by rfl, rfl⟩) hHeld ?_
     try simp only [Act.put, sA, sZ, sS]
     refine wpT (i := 38) (oi := ⟨some 97, _, _, _, _, _⟩) (v := undef) rfl (by kernel_rfl) (fun _ _ _ h => h) (Or.inr ⟨by rfl, rfl⟩) hHeld ?_
     try simp only [Act.put, sA, sZ, sS]
     refine wpT (i := 39) (oi := ⟨some 98, _, _, _, _, _⟩) (v := undef) rfl (by kernel_rfl) (fun _ _ _ h => h) (Or.inr ⟨by rfl, rfl⟩) hHeld ?_
     try simp only [Act.put, sA, sZ, sS]
     refine wpT (i := 40) (oi := ⟨some 99, _, _, _, _, _⟩) (v := undef) rfl (by kernel_rfl) (fun _ _ _ h => h) (Or.inr ⟨by rfl, rfl⟩) hHeld ?_
     try simp only [Act.put, sA, sZ, sS]
     refine wpT (i := 41) (oi := ⟨some 100, _, _, _, _, _⟩) (v := undef) rfl (by kernel_rfl) (fun _ _ _ h => h) (Or.inr ⟨by rfl, rfl⟩) hHeld ?_
     try simp only [Act.put, sA, sZ, sS]
     refine wpT (i := 42) (oi := ⟨some 101, _, _, _, _, _⟩) (v := undef) rfl (by kernel_rfl) (fun _ _ _ h => h) (Or.inr ⟨by rfl, rfl⟩) hHeld ?_
     try simp only [Act.put, sA, sZ, sS]
     refine wpT (i := 43) (oi := ⟨some 102, _, _, _, _, _⟩) (v := undef) rfl (by kernel_rfl) (fun _ _ _ h => h) (Or.inr ⟨by rfl, rfl⟩) hHeld ?_
     try simp only [Act.put, sA, sZ, sS]
     refine wpT (i := 44) (oi := ⟨some 103, _, _, _, _, _⟩) (v := undef) rfl (by kernel_rfl) (fun _ _ _ h => h) (Or.inr ⟨by rfl, rfl⟩) hHeld ?_
     try simp only [Act.put, sA, sZ, sS]
     refine wpT (i := 45) (oi := ⟨some 104, _, _, _, _, _⟩) (v := undef) rfl (by kernel_rfl) (fun _ _ _ h => h) (Or.inr ⟨by rfl, rfl⟩) hHeld ?_
     try simp only [Act.put, sA, sZ, sS]
     refine wpT (i := 46) (oi := ⟨some 105, _, _, _, _, _⟩) (v := undef) rfl (by kernel_rfl) (fun _ _ _ h => h) (Or.inr ⟨by rfl, rfl⟩) hHeld ?_
     try simp only [Act.put, sA, sZ, sS]
     refine wpT (i := 47) (oi := ⟨some 106, _, _, _, _, _⟩) (v := (.bool false)) rfl (by kernel_rfl) (fun _ _ _ h => h) (Or.inl ⟨by rfl, fun wz hz => by (clear hz hHeld; go_simp)⟩) hHeld ?_
     try simp only [Act.put, sA, sZ, sS]
     refine wpT (i := 48) (oi := ⟨some 107, _, _, _, _, _⟩) (v := (.bool false)) rfl (by kernel_rfl) (fun _ _ _ h => h) (Or.inl ⟨by rfl, fun wz hz => by (clear hz hHeld; go_simp)⟩) hHeld ?_
     try simp only [Act.put, sA, sZ, sS]
     refine wpAnyH_done (by kernel_rfl) ?_ _
     go_wp2
     exact ⟨⟨j + 1, by omega, by go_num, onQ BR.out (onQ B6.out (onQ (bD _) B7.out))⟩, by show R.nodes.length - ((j : Int) + 1).toNat < R.nodes.length - ((j : Int)).toNat; omega⟩
  · have hge : ¬ (j : Int) < (R.nodes.length : Int) := by omega
    have BA := aQ0 (onQ B5.out BR.out)
    have hdr := bW9 (cap := cap') (cYi HS'.out BA.out)
    clear HSS HLK N5 M5 X5 Y5 E5
    go_wp2_with fail
    refine hdr.mono ?_
    rintro e w6 ⟨t, rfl, ht, hb6⟩
    have hEn := HE.out.below (onQ BA.out hb6)
    obtain ⟨ts, fr, hst⟩ := hEn.st
    obtain ⟨tp, frp, hpt⟩ := hEn.pt
    have hsi := bX0 t w6 (by omega) ts fr hst tp frp hpt m hEn.mx
    have hjn := dX9 t
    have hsp := fun W => bKp t W (by omega)
    obtain ⟨Z, hZ⟩ := nmE (aQu t)
    rw [hZ] at hsi hjn
    simp only [hZ] at hsp
    obtain ⟨zp, zl, zc⟩ := Z
    simp only at hsi hjn hsp
    have HJ := aQ0 hjn
    have HSP := aQ0 hsp
    have B6 := aQ0 (onQ BA.out hb6)
    clear hdr hEn hst hpt hZ hjn hsp hb6 BA BR p0 p1 p2 q0 q1 q2
    go_wp2_with fail
    refine hsi.mono ?_
    rintro e w7 ⟨rfl, hb7⟩
    obtain ⟨W8, hW8⟩ := nmE (w7.alloc (.cells #[.string zp, .string zl, .int .i64 zc] 40))
    have hb8 : Below w7.heap.size w7 W8 := by rw [← hW8]; exact bAl
    have hx8 : W8.heap[w7.heap.size]? = some (.cells #[.string zp, .string zl, .int .i64 zc] 40) := by rw [← hW8]; exact heap_alloc_new _ _
    obtain ⟨r0, r1, r2, _, _, _⟩ := aXk hx8
    have B8 := aQ0 (onQ B6.out (onQ hb7 hb8))
    have hs9 := HSP.out W8.drew
    clear hsi hb7 hb8 hx8 HSP B6
    go_wp2_with fail
    go_region_held3 (fun Wx => Wx.cell? ⟨w7.heap.size, 0, none⟩ = some (.string zp) ∧ Wx.cell? ⟨w7.heap.size, 1, none⟩ = some (.string zl) ∧ Wx.cell? ⟨w7.heap.size, 2, none⟩ = some (.int .i64 zc)) (first | exact ⟨r0, r1, r2⟩ | exact ⟨r0', r1', r2'⟩ | assumption) ((go_at_call 10; refine hs9.mono ?_; rintro e w9 ⟨rfl, hb9⟩; have hk9 : ∀ {b o : Nat} {v : Value}, W8.cell? ⟨b, o, none⟩ = some v → w9.cell? ⟨b, o, none⟩ = some v := (fun h => aQ2 (hb9.block _ (aQk h)) h); have r0' := hk9 r0; have r1' := hk9 r1; have r2' := hk9 r2; have B9 := aQ0 hb9; clear hk9 hb9))
    have B10 := aQ0 (onQ B8.out (onQ (bD _) B9.out))
    clear hs9 B8 B9 r0 r1 r2 HE HS' B5 hW5
    by_cases hc : zc = 0
    · subst hc
      have hcat0 := HJ.out rfl
      clear HJ
      by_cases e1 : zp.toList = [] ∧ zl.toList = t.toList
      · obtain ⟨e1, e2⟩ := e1
        clear hcat0
        go_wp2
        exact bodyPost_ret (v := .bool true) (by simp [results, results3, go_sem]) rfl ⟨rfl, B10.out⟩
      · have hcat : zp ++ ⟨#[58]⟩ ++ zl = t := by
         rcases hcat0 with ⟨h1, h2⟩ | h
         · exact absurd ⟨by rw [h1]; (first | (simp; done) | (simp [go_sem]; done) | decide +kernel), by rw [h2]⟩ e1
         · exact h
        have hsz : zp.size + 1 + zl.size = t.size := by
         rw [← hcat, ByteArray.size_append, ByteArray.size_append]; rfl
        have s1 : ¬ 9223372036854775807 < zp.size + 1 := by omega
        have s2 : ¬ 9223372036854775807 < zp.size + 1 + zl.size := by omega
        have hcl : (zp ++ ⟨#[58]⟩ ++ zl).toList = t.toList := by rw [hcat]
        clear hcat hcat0 hsz
        by_cases e2 : zp.toList = []
        · have e3 : ¬ zl.toList = t.toList := fun h => e1 ⟨e2, h⟩
          clear e1
          go_wp2
          exact bodyPost_ret (v := .bool true) (by simp [results, results3, go_sem, hcl]) rfl ⟨rfl, B10.out⟩
        · clear e1
          go_wp2
          exact bodyPost_ret (v := .bool true) (by simp [results, results3, go_sem, hcl]) rfl ⟨rfl, B10.out⟩
    · clear HJ
      go_wp2
      exact bodyPost_ret (v := .bool true) (by simp [results, results3, go_sem]) rfl ⟨rfl, B10.out⟩
end Go.Proofs.YtocnfoeaikiecaaGreatDoor.fnSpaced
