/- The law FnExactSpaced: its walk. -/
import Derived.Test.YtlfcmlcpdpkibaaDoorMkW
import Derived.Test.YtlfcmlcpdpkibaaDoorMsI
namespace Go.Proofs.YtlfcmlcpdpkibaaDoor.fnExactSpaced
open Go.RowKit Lists Ents PlainR PlainN
set_option linter.unusedVariables false

theorem form {w : World} {nds : List Nd} {P Q : Int} {en : Ending} {w' : World} (h : SpSays w ⟨nds, P, Q⟩ en w') : ∃ a c vs, en = .returned (.agg #[.slice a nds.length c, .int .i64 P, .int .i64 Q]) ∧ NdsAt w' w.heap.size (.slice a nds.length c) nds vs ∧ Below w.heap.size w w' := by
  obtain ⟨v, vs, he, hN, hb⟩ := h
  obtain ⟨a, c, rfl, _⟩ := row_sl hN.row
  exact ⟨a, c, vs, he, hN, hb⟩
theorem keepB {W W' : World} {k : Nat} {o : Obj} (hb : Below W.heap.size W W') (h : W.heap[k]? = some o) : W'.heap[k]? = some o := (hb.block _ (Array.getElem?_eq_some_iff.1 h).1).trans h
theorem gb {w w' : World} (h : w.grownBy w' none) : Below w.heap.size w w' := Ents.grown_below h
/-- What lies under a place is kept, on and on. -/
theorem onB {W W1 W2 : World} (h : Below W.heap.size W W1) (h' : Below W1.heap.size W1 W2) : Below W.heap.size W W2 := h.trans (h'.mono h.size)
theorem ndIn_of {W : World} {B : Nat} {a : Option Addr} {c : Nat} {nds : List Nd} {m : Nat} {vs : List (Value × Value)} (h : NdsAt W B (.slice a m c) nds vs) : NdIn W a nds := by
  obtain ⟨a', c', he, hN⟩ := h.ndIn
  cases he
  exact hN

set_option maxRecDepth 100000 in
set_option maxHeartbeats 8000000 in
theorem walk (a : Option Addr) (c : Nat) (evs : List Ev) (w : World) (m : Int) (hI : EvIn w a evs) (hl : evs.length ≤ maxLen) (hz : ∀ e ∈ evs, EvMx e) (hE : EnvS w m) :
    Calls Tryd.prog 3 #[.slice a evs.length c] w fun e w' => e = .returned (.bool true) ∧ Below w.heap.size w w' := by
  have hsz := szEventS_any w a _ c evs 1048576 rfl hl (by decide) (by decide) hz hI
  have HI := mkHidEa hI
  have HE := mkHidEa hE
  clear hI hE hl hz
  go_enter Tryd.func3, Tryd.ntmps3
  go_wp2_with fail
  refine hsz.mono ?_
  rintro e w1 ⟨⟨z, rfl, _, _, hz⟩, hg1⟩
  have B1 := mkHidEa (gb hg1)
  clear hsz hg1
  by_cases hneg : z < 0
  · clear hz
    go_wp2
    go_ret
    exact ⟨rfl, B1.out⟩
  obtain ⟨hbig, hsm⟩ := hz (by omega)
  have HLA := mkHidEa (show ∀ e ∈ evs, e.attrs.length ≤ 1048576 from fun e he => (hsm e he).2.2.1)
  have HNM := mkHidEa (show ∀ e ∈ evs, e.name.size ≤ 1048576 from fun e he => (hsm e he).1)
  have HNA := mkHidEa (show ∀ e ∈ evs, ∀ a ∈ e.attrs, a.1.size ≤ 1048576 from fun e he a ha => ((hsm e he).2.2.2 a ha).1)
  have hss := spaced_small HLA.out
  obtain ⟨⟨nds, P, Q⟩, hR⟩ : ∃ R, spacedZ evs = R := ⟨_, rfl⟩
  rw [hR] at hss
  have hnl : nds.length ≤ 1048576 := Nat.le_trans hss.1 hbig
  have HND := mkHidEa hss.2
  have HR := mkHidEa hR
  clear hz hsm hss hR
  have ht := toEventS_any w1 a _ c evs rfl hbig HLA.out (HI.out.below B1.out)
  go_wp2_with fail
  refine ht.mono ?_
  rintro e w2 ⟨⟨rfl, hO2⟩, hg2⟩
  have B2 := mkHidEa (onB B1.out (gb hg2))
  have hs := specSpaced_any w2 _ _ evs.length evs rfl hO2.evIn HLA.out HNM.out HNA.out hbig
  rw [HR.out] at hs
  clear ht hg2 hO2 B1
  go_wp2_with fail
  refine hs.mono ?_
  intro e w3 hs3
  obtain ⟨a0, c0, vs0, rfl, hN3, hb3⟩ := form hs3
  obtain ⟨W4, hW4⟩ : ∃ W4, w3.alloc (.cells #[.slice a0 nds.length c0, .int .i64 P, .int .i64 Q] 26) = W4 := ⟨_, rfl⟩
  have hb4 : Below w3.heap.size w3 W4 := by rw [← hW4]; exact (Below.refl _ _).alloc (Nat.le_refl _) _
  have hx4 : W4.heap[w3.heap.size]? = some (.cells #[.slice a0 nds.length c0, .int .i64 P, .int .i64 Q] 26) := by rw [← hW4]; exact heap_alloc_new _ _
  have B4 := mkHidEa (onB (onB B2.out hb3) hb4)
  have N4 := mkHidEa (hN3.below hb4)
  have X4 := mkHidEa hx4
  clear hs hs3 hN3 hb3 hb4 hx4 B2
  have ht := toEventS_any W4 a _ c evs rfl hbig HLA.out (HI.out.below B4.out)
  go_wp2_with fail
  refine ht.mono ?_
  rintro e w5 ⟨⟨rfl, hO5⟩, hg5⟩
  have hlh5 : W4.heap.size < w5.heap.size := by
    obtain ⟨xs, hw, _⟩ := hO5
    exact (hw.lt _ rfl).2
  obtain ⟨ys, hsh5⟩ := hO5.sh HLA.out
  have SH5 := mkHidEa hsh5
  have L5 := mkHidEa (gb hg5)
  have I5 := mkHidEa hO5.evIn
  have HLH := mkHidEa hlh5
  have hs := implSpaced_any w5 _ _ evs.length evs m rfl hO5.evIn (HE.out.below (onB B4.out (gb hg5))) HLA.out HNM.out HNA.out hbig
  rw [HR.out] at hs
  have HW4 := mkHidEa hW4
  clear ht hO5 hg5 hsh5 hW4 hlh5
  generalize w3.heap.size = p0 at X4 ⊢
  clear HW4
  go_wp2_with fail
  refine hs.mono ?_
  intro e w6 hs6
  obtain ⟨a1, c1, vs1, rfl, hN6, hb6⟩ := form hs6
  obtain ⟨W7, hW7⟩ : ∃ W7, w6.alloc (.cells #[.slice a1 nds.length c1, .int .i64 P, .int .i64 Q] 26) = W7 := ⟨_, rfl⟩
  have hb7 : Below w6.heap.size w6 W7 := by rw [← hW7]; exact (Below.refl _ _).alloc (Nat.le_refl _) _
  have hx7 : W7.heap[w6.heap.size]? = some (.cells #[.slice a1 nds.length c1, .int .i64 P, .int .i64 Q] 26) := by rw [← hW7]; exact heap_alloc_new _ _
  have HP1 := mkHidEa hb6.size
  have L7 := mkHidEa (onB L5.out (onB hb6 hb7))
  have I7 := mkHidEa (I5.out.below (onB hb6 hb7))
  have SH7 := mkHidEa (SH5.out.grown (Ents.below_grown (onB hb6 hb7)))
  have N7 := mkHidEa (hN6.below hb7)
  have X7 := mkHidEa hx7
  clear hs hs6 hN6 hb6 hb7 hx7 L5 I5 SH5
  obtain ⟨u0, u1, u2⟩ := three_cellsK X7.out
  obtain ⟨v0, v1, v2⟩ := three_cellsK (keepB L7.out X4.out)
  have EQ := mkHidEa (eqNodesOut_same W7 a1 a0 _ c1 c0 nds P Q rfl hnl HND.out (ndIn_of N7.out) (ndIn_of (N4.out.below L7.out)))
  go_wp2_with fail
  refine EQ.out.mono ?_
  rintro e w8 ⟨rfl, hg8⟩
  have L8 := mkHidEa (onB L7.out (gb hg8))
  have I8 := mkHidEa (I7.out.below (gb hg8))
  have SH8 := mkHidEa (SH7.out.grown hg8)
  have N8 := mkHidEa (N7.out.below (gb hg8))
  have X8 := mkHidEa (keepB (gb hg8) X7.out)
  clear hg8 L7 I7 SH7 N7 X7 EQ u0 u1 u2 v0 v1 v2 hW7
  generalize w6.heap.size = p1 at X8 HP1 ⊢
  have ht := toEventS_any w8 a _ c evs rfl hbig HLA.out (HI.out.below (onB B4.out L8.out))
  go_wp2_with fail
  refine ht.mono ?_
  rintro e w9 ⟨⟨rfl, hO9⟩, hg9⟩
  have L9 := mkHidEa (onB L8.out (gb hg9))
  have SH9 := mkHidEa (SH8.out.grown hg9)
  have N9 := mkHidEa (N8.out.below (gb hg9))
  have X9 := mkHidEa (keepB (gb hg9) X8.out)
  have EQ := mkHidEa (eqEventS_same w9 _ _ _ evs.length evs.length evs rfl hbig HLA.out (I8.out.below (gb hg9)) hO9.evIn)
  clear ht hO9 hg9 L8 I8 SH8 N8 X8
  go_wp2_with fail
  refine EQ.out.mono ?_
  rintro e w10 ⟨rfl, hg10⟩
  have L10 := mkHidEa (onB L9.out (gb hg10))
  have SH10 := mkHidEa (SH9.out.grown hg10)
  have N10 := mkHidEa (N9.out.below (gb hg10))
  have X10 := mkHidEa (keepB (gb hg10) X9.out)
  clear hg10 L9 SH9 N9 X9 EQ
  have MK := mkHidEa (markEventS_any w10 _ _ _ _ ys SH10.out HLH.out hbig)
  go_wp2_with fail
  refine MK.out.mono ?_
  rintro e w11 ⟨⟨zk, rfl⟩, hx11⟩
  have L11 : Hid (Below W4.heap.size W4 w11) := mkHidEa ⟨hx11.os.trans L10.out.os, hx11.tape.trans L10.out.tape, hx11.output.trans L10.out.output, Nat.le_trans L10.out.size hx11.size, fun k hk => (hx11.block k (Nat.lt_of_lt_of_le hk L10.out.size) (Or.inl hk)).trans (L10.out.block k hk)⟩
  have N11 := mkHidEa (N10.out.keepR (fun k h1 h2 => hx11.block k h2 (Or.inr h1)))
  have X11 := mkHidEa ((hx11.block _ (Array.getElem?_eq_some_iff.1 X10.out).1 (Or.inr HP1.out)).trans X10.out)
  have hzk : ¬ (zk : Int) < 0 := by omega
  clear hx11 L10 SH10 N10 X10 MK
  obtain ⟨u0, u1, u2⟩ := three_cellsK X11.out
  obtain ⟨v0, v1, v2⟩ := three_cellsK (keepB L11.out X4.out)
  have EQ := mkHidEa (eqNodesOut_same w11 a1 a0 _ c1 c0 nds P Q rfl hnl HND.out (ndIn_of N11.out) (ndIn_of (N4.out.below L11.out)))
  go_wp2_with fail
  refine EQ.out.mono ?_
  rintro e w12 ⟨rfl, hg12⟩
  have L12 := mkHidEa (onB L11.out (gb hg12))
  have N12 := mkHidEa (N11.out.below (gb hg12))
  have X12 := mkHidEa (keepB (gb hg12) X11.out)
  have hs12 : w5.heap.size ≤ w12.heap.size := by
    have h1 := HP1.out
    have h2 := (Array.getElem?_eq_some_iff.1 X12.out).1
    omega
  have MK := mkHidEa (markNodesOut_any w12 _ a1 c1 P Q nds vs1 N12.out hs12 hnl HND.out)
  clear hg12 L11 N11 X11 EQ u0 u1 u2 v0 v1 v2 hs12
  obtain ⟨u0, u1, u2⟩ := three_cellsK X12.out
  go_wp2_with fail
  refine MK.out.mono ?_
  rintro e w13 ⟨rfl, hn13, hb13, ht13⟩
  have L13 : Hid (Below W4.heap.size W4 w13) := mkHidEa ⟨hb13.os.trans L12.out.os, hb13.tape.trans L12.out.tape, hb13.output.trans L12.out.output, Nat.le_trans L12.out.size hb13.size, fun k hk => (hb13.block k (Nat.lt_trans hk HLH.out)).trans (L12.out.block k hk)⟩
  have N13 := mkHidEa hn13
  have X13 := mkHidEa ((ht13 _ _ _ _ X12.out (by decide) (by decide) (by decide)).trans X12.out)
  obtain ⟨mm, hmm⟩ : ∃ mm : Nat, 1 + mkT nds = mm := ⟨_, rfl⟩
  have HMM := mkHidEa hmm
  have hmz : ¬ (mm : Int) < 0 := by omega
  clear hn13 hb13 ht13 L12 N12 X12 MK u0 u1 u2
  have HL := mkHidEa (fun W (h : NdIn W a1 (mkNds 1 nds)) => heldNodesOut_any W a1 c1 P Q nds hnl HND.out h)
  rw [hmm] at HL ⊢
  clear hmm
  obtain ⟨u0, u1, u2⟩ := three_cellsK X13.out
  go_wp2_with fail
  refine (HL.out _ (ndIn_of N13.out)).mono ?_
  rintro e w14 ⟨rfl, hg14⟩
  have L14 := mkHidEa (onB L13.out (gb hg14))
  have N14 := mkHidEa (N13.out.below (gb hg14))
  have X14 := mkHidEa (keepB (gb hg14) X13.out)
  clear hg14 L13 N13 X13 u0 u1 u2
  have ht := toEventS_any w14 a _ c evs rfl hbig HLA.out (HI.out.below (onB B4.out L14.out))
  go_wp2_with fail
  refine ht.mono ?_
  rintro e w15 ⟨⟨rfl, hO15⟩, hg15⟩
  have L15 := mkHidEa (onB L14.out (gb hg15))
  have N15 := mkHidEa (N14.out.below (gb hg15))
  have X15 := mkHidEa (keepB (gb hg15) X14.out)
  have hs := implSpaced_any w15 _ _ evs.length evs m rfl hO15.evIn (HE.out.below (onB B4.out L15.out)) HLA.out HNM.out HNA.out hbig
  rw [HR.out] at hs
  clear ht hO15 hg15 L14 N14 X14
  go_wp2_with fail
  refine hs.mono ?_
  intro e w16 hs16
  obtain ⟨a2, c2, vs2, rfl, hN16, hb16⟩ := form hs16
  obtain ⟨W17, hW17⟩ : ∃ W17, w16.alloc (.cells #[.slice a2 nds.length c2, .int .i64 P, .int .i64 Q] 26) = W17 := ⟨_, rfl⟩
  have hb17 : Below w16.heap.size w16 W17 := by rw [← hW17]; exact (Below.refl _ _).alloc (Nat.le_refl _) _
  have hx17 : W17.heap[w16.heap.size]? = some (.cells #[.slice a2 nds.length c2, .int .i64 P, .int .i64 Q] 26) := by rw [← hW17]; exact heap_alloc_new _ _
  have L17 := mkHidEa (onB L15.out (onB hb16 hb17))
  have N17 := mkHidEa (N15.out.below (onB hb16 hb17))
  have X17 := mkHidEa (keepB (onB hb16 hb17) X15.out)
  obtain ⟨u0, u1, u2⟩ := three_cellsK hx17
  obtain ⟨v0, v1, v2⟩ := three_cellsK (keepB L17.out X4.out)
  have EQ := mkHidEa (eqNodesOut_same W17 a2 a0 _ c2 c0 nds P Q rfl hnl HND.out (ndIn_of (hN16.below hb17)) (ndIn_of (N4.out.below L17.out)))
  clear hs hs16 hN16 hb16 hb17 hx17 L15 N15 X15
  go_wp2_with fail
  refine EQ.out.mono ?_
  rintro e w18 ⟨rfl, hg18⟩
  have L18 := mkHidEa (onB L17.out (gb hg18))
  have N18 := mkHidEa (N17.out.below (gb hg18))
  have X18 := mkHidEa (keepB (gb hg18) X17.out)
  clear hg18 L17 N17 X17 EQ u0 u1 u2 v0 v1 v2 hW17
  obtain ⟨u0, u1, u2⟩ := three_cellsK X18.out
  go_wp2_with fail
  refine (HL.out _ (ndIn_of N18.out)).mono ?_
  rintro e w19 ⟨rfl, hg19⟩
  have B19 := mkHidEa (onB (onB B4.out L18.out) (gb hg19))
  clear hg19 L18 N18 X18 u0 u1 u2
  go_wp2
  go_ret
  exact ⟨rfl, B19.out⟩
end Go.Proofs.YtlfcmlcpdpkibaaDoor.fnExactSpaced
