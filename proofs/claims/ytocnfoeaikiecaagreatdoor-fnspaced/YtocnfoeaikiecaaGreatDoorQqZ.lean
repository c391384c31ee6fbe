import Derived.Test.YtocnfoeaikiecaaGreatDoorSpT
import Derived.Test.YtocnfoeaikiecaaGreatDoorQqA
set_option maxRecDepth 100000
set_option maxHeartbeats 4000000
set_option linter.unusedVariables false
namespace Go.Proofs.YtocnfoeaikiecaaGreatDoor
open Go.RowKit Lists Ents PlainN Tryz
theorem bD (w : World) : Below w.heap.size w w.drew := (Below.refl _ _).drew
theorem bN (w : World) (n : Nat) : Below w.heap.size w (w.drewN n) := ⟨rfl, rfl, rfl, Nat.le_refl _, fun _ _ => rfl⟩
theorem onQ {W W1 W2 : World} (h : Below W.heap.size W W1) (h' : Below W1.heap.size W1 W2) : Below W.heap.size W W2 := h.trans (h'.mono h.size)
theorem cXp {w w' : World} {a : Option Addr} {l : List (ByteArray × ByteArray)} (h : aZ2 w a l) (hb : Below w.heap.size w w') : aZ2 w' a l := h.keep fun k hk => hb.block k hk
theorem bKv (w : World) (a a' : Option Addr) (n c c' : Nat) (l : List (ByteArray × ByteArray)) (hn : n = l.length) (hl : l.length ≤ 1048576) (h : aZ2 w a l) (h' : aZ2 w a' l) :
 Calls prog 21 #[.slice a n c, .slice a' n c'] w fun e w' => e = .returned (.bool true) ∧ Below w.heap.size w w' := by
 subst hn
 have HA := aQ0 h
 have HA' := aQ0 h'
 clear h h'
 go_enter func21, ntmps21
 go_wp2
 go_loopw [5] (fun i wr => ∃ (k : Nat), k ≤ l.length ∧ i = .int .i64 k ∧ Below w.heap.size w wr) (fun i _ => l.length - (intOf i).toNat)
 case atStart => exact ⟨0, Nat.zero_le _, rfl, Below.refl _ _⟩
 case round =>
  obtain ⟨k, hk, rfl, hgr⟩ := hrel
  have HG := aQ0 hgr
  clear hgr
  by_cases hlt : k < l.length
  · obtain ⟨b, off, ha, hc⟩ := cXp HA.out HG.out
    obtain rfl := ha (by omega)
    obtain ⟨c1, c2⟩ := hc k hlt
    obtain ⟨b', off', ha', hc'⟩ := cXp HA'.out HG.out
    obtain rfl := ha' (by omega)
    obtain ⟨d1, d2⟩ := hc' k hlt
    obtain ⟨E, hE⟩ := nmE (l[k]'hlt)
    rw [hE] at c1 c2 d1 d2
    clear hc ha hE hc' ha' HA HA'
    go_wp2_with fail
    go_quiet (fail)
    go_wp2
    go_roundw
    case rel => exact ⟨k + 1, by omega, by go_num, onQ HG.out (bN _ _)⟩
    case measure => simp [intOf]; omega
  · go_wp2
    go_ret
    exact ⟨rfl, HG.out⟩
def ndV (D : Nd) (a x : Option Addr) (c y : Nat) : Value := .agg #[.int .i64 D.kind, .string D.name.pre, .string D.name.loc, .string D.name.spc, .string D.name.val, .slice a D.decls.length c, .slice x D.attrs.length y, .string D.text]
theorem aKi {W : World} {b : Nat} {v0 v1 v2 v3 v4 v5 v6 v7 : Value} {t : TypeId} (h : W.heap[b]? = some (.cells #[v0, v1, v2, v3, v4, v5, v6, v7] t)) : W.cell? ⟨b, 0, none⟩ = some v0 ∧ W.cell? ⟨b, 1, none⟩ = some v1 ∧ W.cell? ⟨b, 2, none⟩ = some v2 ∧ W.cell? ⟨b, 3, none⟩ = some v3 ∧ W.cell? ⟨b, 4, none⟩ = some v4 ∧ W.cell? ⟨b, 5, none⟩ = some v5 ∧ W.cell? ⟨b, 6, none⟩ = some v6 ∧ W.cell? ⟨b, 7, none⟩ = some v7 := by simp [World.cell?, h]
theorem cXc (w : World) (D : Nd) (a a' x x' : Option Addr) (c c' y y' : Nat) (hl : D.decls.length ≤ 1048576) (hl2 : D.attrs.length ≤ 1048576) (h : aZ2 w a D.decls) (h' : aZ2 w a' D.decls) (k : NmAt w x D.attrs) (k' : NmAt w x' D.attrs) :
 Calls prog 7 #[ndV D a x c y, ndV D a' x' c' y'] w fun e w' => e = .returned (.bool true) ∧ Below w.heap.size w w' := by
 unfold ndV
 obtain ⟨W1, hW1⟩ := nmE (w.alloc (.cells #[.int .i64 D.kind, .string D.name.pre, .string D.name.loc, .string D.name.spc, .string D.name.val, .slice a D.decls.length c, .slice x D.attrs.length y, .string D.text] 34))
 have hb1 : Below w.heap.size w W1 := by rw [← hW1]; exact bAl
 have hx1 : W1.heap[w.heap.size]? = some (.cells #[.int .i64 D.kind, .string D.name.pre, .string D.name.loc, .string D.name.spc, .string D.name.val, .slice a D.decls.length c, .slice x D.attrs.length y, .string D.text] 34) := by rw [← hW1]; exact heap_alloc_new _ _
 have hs1 : W1.heap.size = w.heap.size + 1 := by rw [← hW1]; simp
 obtain ⟨W2, hW2⟩ := nmE (W1.alloc (.cells #[.int .i64 D.kind, .string D.name.pre, .string D.name.loc, .string D.name.spc, .string D.name.val, .slice a' D.decls.length c', .slice x' D.attrs.length y', .string D.text] 34))
 have hb2 : Below W1.heap.size W1 W2 := by rw [← hW2]; exact bAl
 have hx2 : W2.heap[w.heap.size + 1]? = some (.cells #[.int .i64 D.kind, .string D.name.pre, .string D.name.loc, .string D.name.spc, .string D.name.val, .slice a' D.decls.length c', .slice x' D.attrs.length y', .string D.text] 34) := by rw [← hW2, ← hs1]; exact heap_alloc_new _ _
 have hx1' := (hb2.block _ (gLt hx1)).trans hx1
 have hb12 := onQ hb1 hb2
 have hat := bKv W2 a a' _ c c' D.decls rfl hl (cXp h hb12) (cXp h' hb12)
 obtain ⟨p0, p1, p2, p3, p4, p5, p6, p7⟩ := aKi hx1'
 obtain ⟨q0, q1, q2, q3, q4, q5, q6, q7⟩ := aKi hx2
 have X1 := aQ0 hx1'
 have X2 := aQ0 hx2
 have B2 := aQ0 hb12
 have HN := aQ0 k
 have HN' := aQ0 k'
 clear h h' k k' hb1 hb2 hx1 hx2 hx1' hb12
 go_enter func7, ntmps7
 go_wp2_with fail
 refine hat.mono ?_
 rintro e w3 ⟨rfl, hb3⟩
 have B3 := aQ0 (onQ B2.out hb3)
 have X1' := aQ0 ((hb3.block _ (gLt X1.out)).trans X1.out)
 have X2' := aQ0 ((hb3.block _ (gLt X2.out)).trans X2.out)
 obtain ⟨r0, r1, r2, r3, r4, r5, r6, r7⟩ := aKi X1'.out
 obtain ⟨s0, s1, s2, s3, s4, s5, s6, s7⟩ := aKi X2'.out
 clear hat hb3 p0 p1 p2 p3 p4 p5 p6 p7 q0 q1 q2 q3 q4 q5 q6 q7 X1 X2 hW1 hW2
 go_wp2_with fail
 go_loopw [5] (fun i wr => ∃ (k : Nat), k ≤ D.attrs.length ∧ i = .int .i64 k ∧ Below w3.heap.size w3 wr) (fun i _ => D.attrs.length - (intOf i).toNat)
 case atStart => exact ⟨0, Nat.zero_le _, rfl, Below.refl _ _⟩
 case round =>
  obtain ⟨k, hk, rfl, hgr⟩ := hrel
  have HG := aQ0 hgr
  have x1 := (hgr.block _ (gLt X1'.out)).trans X1'.out
  have x2 := (hgr.block _ (gLt X2'.out)).trans X2'.out
  have u6 := (aKi x1).2.2.2.2.2.2.1
  have v6 := (aKi x2).2.2.2.2.2.2.1
  clear hgr x1 x2 r0 r1 r2 r3 r4 r5 r6 r7 s0 s1 s2 s3 s4 s5 s6 s7
  by_cases hlt : k < D.attrs.length
  · obtain ⟨b, ha, hc⟩ := HN.out.below (onQ B3.out HG.out)
    obtain rfl := ha (by omega)
    obtain ⟨c1, c2, c3, c4⟩ := hc k hlt
    obtain ⟨b', ha', hc'⟩ := HN'.out.below (onQ B3.out HG.out)
    obtain rfl := ha' (by omega)
    obtain ⟨d1, d2, d3, d4⟩ := hc' k hlt
    obtain ⟨E, hE⟩ := nmE (D.attrs[k]'hlt)
    rw [hE] at c1 c2 c3 c4 d1 d2 d3 d4
    clear hc ha hE hc' ha' HN HN'
    go_wp2_with fail
    go_quiet (fail)
    go_wp2
    go_roundw
    case rel => exact ⟨k + 1, by omega, by go_num, onQ HG.out (bN _ _)⟩
    case measure => simp [intOf]; omega
  · go_wp2
    go_ret
    exact ⟨rfl, onQ B3.out HG.out⟩
end Go.Proofs.YtocnfoeaikiecaaGreatDoor
