import Derived.Test.YtocnfoeaikiecaaGreatDoorQqA
import Derived.Test.YtocnfoeaikiecaaGreatDoorEaS
set_option maxRecDepth 100000
set_option maxHeartbeats 4000000
set_option linter.unusedVariables false
namespace Go.Proofs.YtocnfoeaikiecaaGreatDoor
open Go.RowKit Tryz
theorem bQ6 {P : Program} (w : World) (base base' : Nat) (t ty e : TypeId) (i : TypeInfo) (z : Value) (size bytes : Nat) (ht : P.underlying t = some (.slice e)) (hi : P.info? e = some i) (hz : i.zero = some z)
 (hsize : i.size = size) (hby : i.bytes = bytes) (hzs : z.cells.size = size) (hsz : 0 < size)
 (v : Value) (n : Nat) (xs : List Value) (hown : w.ownsRow base e size v n xs) (u : Value) (m : Nat) (ys : List Value) (hsrc : w.ownsRow base' e size u m ys) (h1 : ∀ y ∈ ys, y.oneCell' = true)
 (h63 : n + m ≤ maxLen) (hbytes : (n + m) * bytes ≤ 140737488355328) (hbase : base ≤ w.heap.size) :
 ∃ v' w', (Builtin.append_ #[t, t] ty #[v, u]).run P w = .ok v' w' ∧ w'.ownsRow base e size v' (n + m) (xs ++ ys) ∧ w.grownBy w' v.ownBlock := by
 rcases hsrc.2 with ⟨rfl, rfl⟩ | ⟨g, cap, cur, rfl, hrest⟩
 · obtain rfl : ys = [] := List.eq_nil_of_length_eq_zero (by simpa using hsrc.1)
   refine ⟨v, w, ?_, by simpa using hown, ⟨rfl, rfl, rfl, Nat.le_refl _, fun _ _ _ => rfl⟩⟩
   rcases hown.2 with ⟨rfl, rfl⟩ | ⟨g, cap, cur, rfl, _, _, hc, _⟩
   · simp [Builtin.append_, run_underlying ht, sizeOf, typeInfo, hi, Builtin.lenOf, Builtin.firstCells]
   · simp [Builtin.append_, run_underlying ht, sizeOf, typeInfo, hi, Builtin.lenOf, Builtin.firstCells, hc, storeCells]
 · obtain ⟨v', w', h2, h3, h4, _⟩ := run_append_own (P := P) w base t ty e i z size bytes ht hi hz hsize hby hzs hsz v n xs hown ⟨g, 0, none⟩ m cap ys hsrc.1 (hsrc.cells rfl) h1 h63 hbytes hbase
   exact ⟨v', w', h2, h3, h4⟩
theorem aJd {P : Program} {w : World} {ops : Array Oper} {rest : List Oper} {o : Oper} {a : Act} {Q : Exit → Act → World → Prop} (hgd : o.guard = none) (s x : Operand) (t : TypeId)
 (ho : o.op = .call { callee := .builtin .append, args := #[s, x], argTypes := #[t, t] })
 (base base' : Nat) (e : TypeId) (i : TypeInfo) (z : Value) (size bytes : Nat) (ht : P.underlying t = some (.slice e)) (hi : P.info? e = some i) (hz : i.zero = some z)
 (hsize : i.size = size) (hby : i.bytes = bytes) (hzs : z.cells.size = size) (hsz : 0 < size)
 (v : Value) (n : Nat) (xs : List Value) (hs : a.eval s = v) (hown : w.ownsRow base e size v n xs) (u : Value) (m : Nat) (ys : List Value) (hx : a.eval x = u) (hsrc : w.ownsRow base' e size u m ys) (h1 : ∀ y ∈ ys, y.oneCell' = true)
 (h63 : n + m ≤ maxLen) (hbytes : (n + m) * bytes ≤ 140737488355328) (hbase : base ≤ w.heap.size)
 (h : ∀ v' w', w'.ownsRow base e size v' (n + m) (xs ++ ys) → w.grownBy w' v.ownBlock → wpList P ops Q rest (a.put o.dst v') w') : wpList P ops Q (o :: rest) a w := by
 refine wpList_plain hgd fun K hK => ?_
 obtain ⟨v', w', hr, h2, h3⟩ := bQ6 (P := P) w base base' t o.type e i z size bytes ht hi hz hsize hby hzs hsz v n xs hown u m ys hsrc h1 h63 hbytes hbase
 unfold Oper.wp execOp
 simp only [ho, resolve, invoke, builtin, Sem.run_bind, Sem.run_pure, Result.andThen_ok, List.map_toArray, List.map_cons, List.map_nil, hs, hx, hr]
 exact hK _ _ (h v' w' h2 h3)
theorem aXu {P : Program} {ops : Array Oper} {o : Oper} {a : Act} {w : World} {K : Act → World → Prop} {Q : Exit → Act → World → Prop} {F : Prop} (hg : o.guard = none) (s x : Operand) (t : TypeId)
 (ho : o.op = .call { callee := .builtin .append, args := #[s, x], argTypes := #[t, t] })
 (base base' : Nat) (e : TypeId) (i : TypeInfo) (z : Value) (size bytes : Nat) (ht : P.underlying t = some (.slice e)) (hi : P.info? e = some i) (hz : i.zero = some z)
 (hsize : i.size = size) (hby : i.bytes = bytes) (hzs : z.cells.size = size) (hsz : 0 < size)
 (v : Value) (n : Nat) (xs : List Value) (hs : a.eval s = v) (hown : w.ownsRow base e size v n xs) (u : Value) (m : Nat) (ys : List Value) (hx : a.eval x = u) (hsrc : w.ownsRow base' e size u m ys) (h1 : ∀ y ∈ ys, y.oneCell' = true)
 (h63 : n + m ≤ maxLen) (hbytes : (n + m) * bytes ≤ 140737488355328) (hbase : base ≤ w.heap.size)
 (h : ∀ v' w', w'.ownsRow base e size v' (n + m) (xs ++ ys) → w.grownBy w' v.ownBlock → K (a.put o.dst v') w') :
 if Region.wanted o (yielded ops a.tmps) = true then Oper.wp P o a w K Q else F := by
 have hw : Region.wanted o (yielded ops a.tmps) = true := by simp [Region.wanted, hg]
 rw [if_pos hw]
 obtain ⟨v', w', hr, h2, h3⟩ := bQ6 (P := P) w base base' t o.type e i z size bytes ht hi hz hsize hby hzs hsz v n xs hown u m ys hsrc h1 h63 hbytes hbase
 unfold Oper.wp execOp
 simp only [ho, resolve, invoke, builtin, Sem.run_bind, Sem.run_pure, Result.andThen_ok, List.map_toArray, List.map_cons, List.map_nil, hs, hx, hr]
 exact h v' w' h2 h3
open Go.RowKit Lists Ents
section
variable {B g : Nat} {w W W' : World} {S : Sx} {dv av ov tv pv uv : Value}
theorem Qr.setSp (h : Qr B w W g S dv av ov tv pv uv) (s : Nat) : Qr B w (W.setCell ⟨g, 6, none⟩ (.int .i64 (s : Int))) g { S with sp := s } dv av ov tv pv uv := by
 obtain ⟨p1, p2, p3⟩ := h.put 6 (.int .i64 (s : Int))
 exact h.re (usg' := S.usg) (sp' := s) (cd' := S.cd) (sn' := S.sn) (hd' := S.hd) p1 (fun k cs t _ hk _ => p3 k hk) p2 (aQ4 h.usg (fun k hk => p3 k (by
  obtain ⟨cs, hc⟩ := aQ3 h.usg hk
  exact aQ5 hc h.box (by decide))))
theorem aJx {w : World} {base base' : Nat} {e : TypeId} {size : Nat} {v : Value} {n : Nat} {xs : List Value} (h : w.ownsRow base e size v n xs) (hb : base' ≤ base) : w.ownsRow base' e size v n xs := by
 obtain ⟨h1, h2⟩ := h
 refine ⟨h1, ?_⟩
 rcases h2 with h2 | ⟨g, cap, cur, hv, hbb, rest⟩
 · exact .inl h2
 · exact .inr ⟨g, cap, cur, hv, by omega, rest⟩
theorem bQ4 {a : Nat} {w : World} (h : a ≤ w.heap.size) (o : Obj) : a ≤ (w.alloc o).heap.size := Nat.le_trans h (by simp)
theorem cQ8 {wc W5 w6 w7 : World} {o : Obj} {e e' : TypeId} {s s' n n' : Nat} {v v' : Value} {xs xs' : List Value} (h : Below wc.heap.size wc W5) (hr : W5.ownsRow wc.heap.size e s v n xs) (hg : W5.grownBy w6 v.ownBlock) (hr' : w6.ownsRow wc.heap.size e' s' v' n' xs') (hg' : (w6.alloc o).grownBy w7 v'.ownBlock) : Below wc.heap.size wc w7 :=
 ((h.grown hg h.size (fun k hk => (hr.lt k hk).1)).alloc (Nat.le_trans h.size hg.size) o).grown hg' (bQ4 (Nat.le_trans h.size hg.size) o) (fun k hk => (hr'.lt k hk).1)
structure EnS (S : Sx) (x : ByteArray) (may : Bool) (S' : Sx) : Prop where
 like : ∃ u s c, S' = { S with usg := u, sp := s, cd := c }
 yes : may = true → S'.cd = 0 ∧ S'.sp = S.sp + x.size ∧ S'.sp ≤ 4000 ∧ S'.usg.length = S.usg.length + 1 ∧ ∃ e ∈ S.ents, e.2 = x
 no : may = false → S'.cd ≠ 0 ∧ S'.usg = S.usg ∧ S.sp ≤ S'.sp ∧ S'.sp ≤ 8000
def EnSays (B : Nat) (w W : World) (g : Nat) (S : Sx) (dv av ov tv pv : Value) (e : Ending) (W' : World) : Prop := ∃ x may S' uv', e = .returned (.tuple #[.string x, .bool may]) ∧ Qr B w W' g S' dv av ov tv pv uv' ∧ EnS S x may S' ∧ Kp W W' [g]
theorem dZc {l : List (ByteArray × ByteArray)} {n : ByteArray} (h : ((entR l n).1.toList == []) = false) : ∃ e ∈ l, e = entR l n := by
 unfold entR at h ⊢
 split at h
 · simp [ByteArray.toList_eq] at h
 · rename_i hs
   rw [if_neg hs]
   cases hf : l.find? (aWa n) with
   | none => rw [hf] at h; simp [ByteArray.toList_eq] at h
   | some e => exact ⟨e, List.mem_of_find?_eq_some hf, rfl⟩
theorem cJ8 : (prog.info? 9).map (fun i => (i.zero, i.size, i.bytes)) = some (some (.string ⟨#[]⟩), 1, 16) := by kernel_rfl
theorem bVr {W : World} {k : Nat} {a b : Value} {t : TypeId} (h : W.heap[k]? = some (.cells #[a, b] t)) : W.cell? ⟨k, 0, none⟩ = some a ∧ W.cell? ⟨k, 1, none⟩ = some b := by simp [World.cell?, h]
theorem bYw (h : Qr B w W g S dv av ov tv pv uv) (nm : ByteArray) (hel : S.ents.length ≤ 4000) (het : ∀ e ∈ S.ents, e.2.size ≤ 4000) (hsp : S.sp ≤ 4000) (hu : S.usg.length ≤ S.sp) (hcd : S.cd = 0) :
 Calls prog 98 #[.pointer (some ⟨g, 0, none⟩), .string nm] W (EnSays B w W g S dv av ov tv pv) := by
 obtain ⟨da, dc, rfl, hE⟩ := aKf h.ents
 obtain ⟨_, ⟨aa, ac, rfl⟩, _, _, _, ⟨ua, uc, rfl⟩⟩ := h.rows
 have hent := bQr W da aa _ dc S.atts.length ac S.ents nm rfl (by omega) hE
 obtain ⟨R, hR⟩ := nmE (entR S.ents nm)
 have hmem := fun hx => dZc (l := S.ents) (n := nm) hx
 rw [hR] at hent hmem
 have HM := aQ0 hmem
 have HET := aQ0 het
 have HQ := aQ0 h
 have HCD := aQ0 hcd
 obtain ⟨c0, c1, _, _, _, c5, c6, c7, _, _⟩ := h.cells
 clear h hmem het hE hR hcd
 go_enter func98, ntmps98
 go_wp2_with fail
 refine hent.mono ?_
 rintro e w1 ⟨rfl, hg1⟩
 obtain ⟨W2, hW2⟩ := nmE (w1.alloc (.cells #[.string R.1, .string R.2] 163))
 have hb2 : Below W.heap.size W W2 := by rw [← hW2]; exact (Ents.bJu hg1).alloc hg1.size _
 have hx2 : W2.heap[w1.heap.size]? = some (.cells #[.string R.1, .string R.2] 163) := by rw [← hW2]; exact heap_alloc_new _ _
 have X2 := aQ0 hx2
 have Q2 := aQ0 (HQ.out.keep hb2)
 have B2 := aQ0 hb2
 obtain ⟨e0, e1⟩ := bVr hx2
 clear hent hg1 hb2 hx2 c0 c1 c5 c6 c7
 cases hnm : (R.1.toList == []) with
 | true =>
  have hf := aJ9 Q2.out 5
  go_wp2_with fail
  refine hf.mono ?_
  rintro e w3 ⟨rfl, hq3, hg3⟩
  have Q3 := aQ0 hq3
  have K3 := aQ0 ((Kp.below B2.out [g]).trans (aXe hg3) (fun c hc _ => by simpa using hc))
  clear hf hq3 hg3
  go_wp2
  go_ret2
  exact ⟨_, _, _, _, rfl, Q3.out, ⟨⟨S.usg, S.sp, 5, Sx.fail_ok HCD.out⟩, (fun h => by cases h), fun _ => by rw [Sx.fail_ok HCD.out]; exact ⟨by show (5 : Int) ≠ 0; decide, rfl, Nat.le_refl _, by show S.sp ≤ 8000; omega⟩⟩, K3.out⟩
 | false =>
  obtain ⟨e', he', hee⟩ := HM.out hnm
  have hsz := HET.out e' he'
  rw [hee] at hsz
  have HX : Hid (∃ e ∈ S.ents, e.2 = R.2) := aQ0 ⟨e', he', by rw [hee]⟩
  clear he' hee HM HET
  obtain ⟨_, _, _, _, _, c5, c6, c7, _, _⟩ := Q2.out.cells
  obtain ⟨ua', uc', hue, hua⟩ := aQr Q2.out.usg
  cases hue
  have HUA := aQ0 hua
  clear hua
  go_wp2_with fail
  go_loopw [7] (fun i wr => ∃ k : Nat, k ≤ S.usg.length ∧ i = .int .i64 k ∧ wr = W2) (fun i _ => S.usg.length - (intOf i).toNat)
  case atStart => exact ⟨0, Nat.zero_le _, rfl, rfl⟩
  case round =>
   obtain ⟨k, hk, rfl, hwr⟩ := hrel
   obtain rfl := hwr.symm
   clear hW2
   by_cases hlt : k < S.usg.length
   · obtain ⟨ub, rfl⟩ := HUA.out (by omega)
     have hcell := Q2.out.usg.cellAt k (by omega)
     rw [bKm _ hlt] at hcell
     obtain ⟨X, hX⟩ := nmE (S.usg.getD k ⟨#[]⟩)
     rw [hX] at hcell
     clear hX
     cases hq : (X.toList == nm.toList) with
     | true =>
      have hf := aJ9 Q2.out 9
      go_wp2_with fail
      refine hf.mono ?_
      rintro e w3 ⟨rfl, hq3, hg3⟩
      have Q3 := aQ0 hq3
      have K3 := aQ0 ((Kp.below B2.out [g]).trans (aXe hg3) (fun c hc _ => by simpa using hc))
      clear hf hq3 hg3
      go_wp2
      go_ret2
      exact ⟨_, _, _, _, rfl, Q3.out, ⟨⟨S.usg, S.sp, 9, Sx.fail_ok HCD.out⟩, (fun h => by cases h), fun _ => by rw [Sx.fail_ok HCD.out]; exact ⟨by show (9 : Int) ≠ 0; decide, rfl, Nat.le_refl _, by show S.sp ≤ 8000; omega⟩⟩, K3.out⟩
     | false =>
      go_wp2
      go_roundw
      case rel => exact ⟨k + 1, by omega, by go_num, by simp⟩
      case measure => simp [intOf]; omega
   · have f6 := Q2.out.thaw 6
     have hwrp : IntKind.i64.wrap ((S.sp : Int) + (R.2.size : Int)) = (S.sp : Int) + (R.2.size : Int) := Strs2.aXt (by omega) (by omega)
     go_wp2_with fail
     go_cut [] (fun wc => Qr B w wc g { S with sp := S.sp + R.2.size } (.slice da S.ents.length dc) (.slice aa S.atts.length ac) ov tv pv (.slice ua S.usg.length uc) ∧ Kp W wc [g] ∧ wc.heap[w1.heap.size]? = some (.cells #[.string R.1, .string R.2] 163))
     case first =>
      have HS := aQ0 (Q2.out.drew.setSp (S.sp + R.2.size))
      have hcast : ((S.sp + R.2.size : Nat) : Int) = (S.sp : Int) + (R.2.size : Int) := by omega
      rw [hcast] at HS
      have HK := aQ0 (show Kp W (W2.drew.setCell ⟨g, 6, none⟩ (.int .i64 ((S.sp : Int) + (R.2.size : Int)))) [g] from ((Kp.below B2.out [g]).on (Below.refl _ _).drew).set (Or.inr List.mem_cons_self) 6 _)
      have HB := aQ0 (show (W2.drew.setCell ⟨g, 6, none⟩ (.int .i64 ((S.sp : Int) + (R.2.size : Int)))).heap[w1.heap.size]? = some (.cells #[.string R.1, .string R.2] 163) from (Below.heap_setCell _ ⟨g, 6, none⟩ _ _ (aQ5 X2.out Q2.out.box (by decide))).trans X2.out)
      clear hcast
      go_region_law (fail)
      all_goals
       go_wp2_with fail
       go_meet
       exact ⟨HS.out, HK.out, HB.out⟩
     case rest =>
      obtain ⟨hq4, hk4, hx4⟩ := hcut
      have Q4 := aQ0 hq4
      have K4 := aQ0 hk4
      have X4 := aQ0 hx4
      clear hq4 hk4 hx4 c5 c6 c7 e0 e1 f6 hwrp
      obtain ⟨_, _, _, _, _, c5, c6, c7, _, _⟩ := Q4.out.cells
      simp only at c6
      have hcast : ((S.sp + R.2.size : Nat) : Int) = (S.sp : Int) + (R.2.size : Int) := by omega
      rw [hcast] at c6
      obtain ⟨e0, e1⟩ := bVr X4.out
      by_cases hbig : 4000 < S.sp + R.2.size
      · have hb' : 4000 < (S.sp : Int) + (R.2.size : Int) := by omega
        have hf := aJ9 Q4.out 7
        go_wp2_with fail
        refine hf.mono ?_
        rintro e w3 ⟨rfl, hq3, hg3⟩
        have Q3 := aQ0 hq3
        have K3 := aQ0 (K4.out.trans (aXe hg3) (fun c hc _ => by simpa using hc))
        clear hf hq3 hg3
        go_wp2
        go_ret2
        exact ⟨_, _, _, _, rfl, Q3.out, ⟨⟨S.usg, S.sp + R.2.size, 7, Sx.fail_ok (S := { S with sp := S.sp + R.2.size }) HCD.out⟩, (fun h => by cases h), fun _ => by rw [Sx.fail_ok (S := { S with sp := S.sp + R.2.size }) HCD.out]; exact ⟨by show (7 : Int) ≠ 0; decide, rfl, by show S.sp ≤ S.sp + R.2.size; omega, by show S.sp + R.2.size ≤ 8000; omega⟩⟩, K3.out⟩
      · have hb' : ¬ 4000 < (S.sp : Int) + (R.2.size : Int) := by omega
        obtain ⟨W5, hW5⟩ := nmE (wc.alloc (.cells #[] 9))
        have hb5 : Below wc.heap.size wc W5 := by rw [← hW5]; exact bAl
        have hr5 : W5.ownsRow wc.heap.size 9 1 (.slice (some ⟨wc.heap.size, 0, none⟩) 0 0) 0 [] := by rw [← hW5]; exact World.ownsRow_made wc #[] 0 (Nat.le_refl _) (by decide) rfl
        have Q5 := aQ0 (Q4.out.keep hb5)
        have X5 := aQ0 ((hb5.block _ (gLt X4.out)).trans X4.out)
        have B5 := aQ0 hb5
        have R5 := aQ0 hr5
        obtain ⟨i0, hi, hz0, hz1, hz2⟩ := info_parts cJ8
        have hone : ∀ y ∈ strs S.usg, y.oneCell' = true := by
         intro y hy; unfold strs at hy; obtain ⟨z, _, rfl⟩ := List.mem_map.1 hy; rfl
        have hm1 : 0 + S.usg.length ≤ maxLen := by unfold maxLen; omega
        have hm2 : (0 + S.usg.length) * 16 ≤ 140737488355328 := by omega
        have hm3 : wc.heap.size ≤ W5.heap.size := hb5.size
        clear hb5 hr5 c5 c7 e0 e1
        obtain ⟨_, _, _, _, _, d5, _, _, _, _⟩ := Q5.out.cells
        have hone1 : ∀ u ∈ [Value.string nm], u.oneCell' = true := by intro u hu; simp at hu; subst hu; rfl
        have hm4 : S.usg.length + 1 ≤ maxLen := by unfold maxLen; omega
        have hm5 : (S.usg.length + 1) * 16 ≤ 140737488355328 := by omega
        have hgx : w1.heap.size ≠ g := aQ5 X4.out Q4.out.box (by decide)
        go_wp2_with (at_builtin; first | (have h6 := hown6; refine wpList_append_own _ rfl _ _ 52 rfl wc.heap.size 9 i0 (.string ⟨#[]⟩) 1 16 underlying52 hi hz0 hz1 hz2 rfl (by decide) _ _ _ rfl (h6.out.alloc _) ⟨_, 0, none⟩ 1 1 [.string nm] rfl rfl (cell_one_new _ _ _) hone1 hm4 hm5 (bQ4 (Nat.le_trans hm3 hgrow6.out.size) _) ?_; intro v7 w7 hown7 hgrow7 _; obtain ⟨a7, c7', hv7, _⟩ := aQr hown7; subst hv7; have B7 := aQ0 (cQ8 B5.out R5.out hgrow6.out h6.out hgrow7); have Q7 := aQ0 (Q4.out.keep B7.out); obtain ⟨_, _, _, _, _, d7, _, _, _, _⟩ := Q7.out.cells; have f7 := Q7.out.thaw 5; obtain ⟨y0, y1⟩ := bVr ((B7.out.block _ (gLt X4.out)).trans X4.out); replace hown7 := aQ0 hown7; clear hgrow7) | (refine aJd rfl _ _ 52 rfl wc.heap.size B 9 i0 (.string ⟨#[]⟩) 1 16 underlying52 hi hz0 hz1 hz2 rfl (by decide) _ _ _ rfl R5.out _ _ _ rfl Q5.out.usg hone hm1 hm2 hm3 ?_; intro v6 w6 hown6 hgrow6; rw [Nat.zero_add, List.nil_append] at hown6; obtain ⟨a6, c6', hv6, _⟩ := aQr hown6; subst hv6; replace hown6 := aQ0 hown6; replace hgrow6 := aQ0 hgrow6))
        go_ret2
        have hq := Q7.out
        obtain ⟨p1, p2, p3⟩ := hq.put 5 (.slice a7 (S.usg.length + 1) c7')
        refine ⟨R.2, true, { S with usg := S.usg ++ [nm], sp := S.sp + R.2.size }, .slice a7 (S.usg.length + 1) c7', rfl, hq.re (usg' := S.usg ++ [nm]) (sp' := S.sp + R.2.size) (cd' := S.cd) (sn' := S.sn) (hd' := S.hd) p1 (fun k cs t _ hk _ => p3 k hk) p2 ?_, ⟨⟨_, _, S.cd, rfl⟩, fun _ => ⟨HCD.out, rfl, by show S.sp + R.2.size ≤ 4000; omega, by simp, HX.out⟩, fun h => by cases h⟩, ?_⟩
        · rw [List.length_append, aWf]
          exact aJx (aQ4 hown7.out (fun k hk => p3 k (by
           obtain ⟨cs, hc⟩ := aQ3 hown7.out hk
           exact aQ5 hc hq.box (by decide)))) Q4.out.sz
        · exact (K4.out.on B7.out).set (Or.inr List.mem_cons_self) 5 _
end
end Go.Proofs.YtocnfoeaikiecaaGreatDoor
