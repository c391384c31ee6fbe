/- The laws' helpers over heads: their size, a copy, are two alike? -/
import Derived.Test.YtpkhdfddbcpciaaAttArgs2
namespace Go.Proofs.Ytpkhdfddbcpciaa
open Go.RowKit Lists Ents

/-- A head as it comes: its two lists. -/
structure DtdAt (w : World) (v : Value) (l : List (ByteArray × ByteArray)) (m : List At5) : Prop where
  at' : ∃ a c a' c', v = .agg #[.slice a l.length c, .slice a' m.length c'] ∧ EntsAt w a l ∧ AttsAt w a' m
theorem DtdAt.grown {w w' : World} {v : Value} {l : List (ByteArray × ByteArray)} {m : List At5} (h : DtdAt w v l m) (hg : w.grownBy w' none) : DtdAt w' v l m := by
  obtain ⟨a, c, a', c', hv, h1, h2⟩ := h
  exact ⟨a, c, a', c', hv, h1.grown hg, h2.grown hg⟩
def SizesL (l : List (ByteArray × ByteArray)) (m : List At5) (B : Nat) : Prop :=
  (l.length ≤ B ∧ ∀ e ∈ l, e.1.size ≤ B ∧ e.2.size ≤ B) ∧ (m.length ≤ B ∧ ∀ e ∈ m, e.of.size ≤ B ∧ e.nm.size ≤ B ∧ e.val.size ≤ B)
theorem box_keep {w w' : World} {o : Obj} (hg : (w.alloc o).grownBy w' none) : w'.heap[w.heap.size]? = some o := by
  rw [hg.block _ (by simp) (by simp)]; exact heap_alloc_new w o

set_option maxHeartbeats 2000000 in
theorem szDtd_any (w : World) (v : Value) (l : List (ByteArray × ByteArray)) (m : List At5) (hs : SizesL l m maxLen) (h : DtdAt w v l m) :
    Calls Try.prog 19 #[v, .int .i64 1048576] w fun e w' => (∃ z, e = .returned (.int .i64 z) ∧ (0 ≤ z → SizesL l m 1048576)) ∧ w.grownBy w' none := by
  obtain ⟨a, c, a', c', rfl, hA, hA'⟩ := h
  have h1 := szEntS_any _ a _ c l 1048576 rfl hs.1.1 (by omega) (by omega) hs.1.2 (hA.grown (gnA w (.cells #[.slice a l.length c, .slice a' m.length c'] 37)))
  have HS := mkHidEa hs
  have HA := mkHidEa hA'
  clear hA hA' hs
  go_enter Try.func19, Try.ntmps19
  go_wp2_with fail
  refine h1.mono ?_
  rintro e w1 ⟨⟨z, rfl, z0, z1, z2⟩, hg1⟩
  have HG1 := mkHidEa (gnT (gnA w _) hg1)
  have hbx := box_keep hg1
  have d1 : w1.cell? ⟨w.heap.size, 1, none⟩ = some (.slice a' m.length c') := by simp [World.cell?, hbx]
  clear h1 hg1 hbx
  by_cases hneg : z < 0
  · go_wp2
    go_ret
    exact ⟨⟨-1, rfl, by omega⟩, HG1.out⟩
  · have HL := mkHidEa (z2 (by omega))
    have h2 := szAttS_any w1 a' _ c' m z rfl HS.out.2.1 (by omega) (by omega) HS.out.2.2 (HA.out.grown HG1.out)
    clear z2
    go_wp2_with fail
    refine h2.mono ?_
    rintro e w2 ⟨⟨z', rfl, y0, y1, y2⟩, hg2⟩
    have HG2 := mkHidEa (gnT HG1.out hg2)
    clear h2 hg2 d1
    by_cases hneg2 : z' < 0
    · go_wp2
      go_ret
      exact ⟨⟨-1, rfl, by omega⟩, HG2.out⟩
    · have HM := mkHidEa (y2 (by omega))
      clear y2
      go_wp2
      go_ret
      exact ⟨⟨z', rfl, fun _ => ⟨HL.out, HM.out⟩⟩, HG2.out⟩

theorem gnS {w W : World} (h : w.grownBy W none) {k j : Nat} (hk : w.heap.size ≤ k) (u : Value) : w.grownBy (W.setCell ⟨k, j, none⟩ u) none :=
  ⟨h.os, h.tape, h.output, by have := h.size; simpa using this, fun i hi hr => by rw [Below.heap_setCell W ⟨k, j, none⟩ u i (by simp only; omega)]; exact h.block i hi hr⟩

/-- Three boxes of a call's own: the argument, the answer, the answer in the making. -/
structure Bx3 (w W : World) (o0 : Obj) (u0 u1 : Value) : Prop where
  b0 : W.heap[w.heap.size]? = some o0
  b1 : W.heap[w.heap.size + 1]? = some (.cells #[.slice none 0 0, .slice none 0 0] 45)
  b2 : W.heap[w.heap.size + 2]? = some (.cells #[u0, u1] 45)
  gr : w.grownBy W none
theorem bx3_start (w : World) (o0 : Obj) : Bx3 w (((w.alloc o0).alloc (.cells #[.slice none 0 0, .slice none 0 0] 45)).alloc (.cells #[.slice none 0 0, .slice none 0 0] 45)) o0 (.slice none 0 0) (.slice none 0 0) := by
  refine ⟨?_, ?_, ?_, gnT (gnT (gnA _ _) (gnA _ _)) (gnA _ _)⟩
  · rw [heap_alloc_old _ _ (by simp; omega), heap_alloc_old _ _ (by simp)]; exact heap_alloc_new _ _
  · rw [heap_alloc_old _ _ (by simp)]
    have := heap_alloc_new (w.alloc o0) (.cells #[.slice none 0 0, .slice none 0 0] 45)
    simpa using this
  · have := heap_alloc_new ((w.alloc o0).alloc (.cells #[.slice none 0 0, .slice none 0 0] 45)) (.cells #[.slice none 0 0, .slice none 0 0] 45)
    simpa using this
theorem Bx3.step {w W W' : World} {o0 : Obj} {u0 u1 : Value} (h : Bx3 w W o0 u0 u1) (hg : W.grownBy W' none) : Bx3 w W' o0 u0 u1 := by
  have k0 := (Array.getElem?_eq_some_iff.1 h.b0).1
  have k1 := (Array.getElem?_eq_some_iff.1 h.b1).1
  have k2 := (Array.getElem?_eq_some_iff.1 h.b2).1
  exact ⟨by rw [hg.block _ k0 (by simp)]; exact h.b0, by rw [hg.block _ k1 (by simp)]; exact h.b1, by rw [hg.block _ k2 (by simp)]; exact h.b2, gnT h.gr hg⟩
theorem Bx3.set {w W : World} {o0 : Obj} {u0 u1 v0 v1 : Value} (h : Bx3 w W o0 u0 u1) (j : Nat) (u : Value) (hu : (#[u0, u1] : Array Value).setIfInBounds j u = #[v0, v1]) : Bx3 w (W.setCell ⟨w.heap.size + 2, j, none⟩ u) o0 v0 v1 := by
  refine ⟨?_, ?_, ?_, gnS h.gr (by omega) _⟩
  · rw [Below.heap_setCell W ⟨w.heap.size + 2, j, none⟩ u _ (by simp only; omega)]; exact h.b0
  · rw [Below.heap_setCell W ⟨w.heap.size + 2, j, none⟩ u _ (by simp only; omega)]; exact h.b1
  · rw [heap_setCell_same W (w.heap.size + 2) j _ _ u h.b2, hu]
theorem ents_set {W : World} {a : Option Addr} {l : List (ByteArray × ByteArray)} {k j : Nat} {u : Value} (h : EntsAt W a l) (hne : ∀ b o, a = some ⟨b, o, none⟩ → b ≠ k) : EntsAt (W.setCell ⟨k, j, none⟩ u) a l := by
  obtain ⟨b, off, h1, h2⟩ := h
  refine ⟨b, off, h1, fun i hi => ?_⟩
  have hb := hne b off (h1 (by omega))
  exact ⟨by rw [World.cell?_of_block (w := W) (a := ⟨b, off + i * 2, none⟩) (Below.heap_setCell W ⟨k, j, none⟩ u b hb)]; exact (h2 i hi).1,
    by rw [World.cell?_of_block (w := W) (a := ⟨b, off + i * 2 + 1, none⟩) (Below.heap_setCell W ⟨k, j, none⟩ u b hb)]; exact (h2 i hi).2⟩
theorem atts_set {W : World} {a : Option Addr} {l : List At5} {k j : Nat} {u : Value} (h : AttsAt W a l) (hne : ∀ b o, a = some ⟨b, o, none⟩ → b ≠ k) : AttsAt (W.setCell ⟨k, j, none⟩ u) a l := by
  obtain ⟨b, off, h1, h2⟩ := h
  refine ⟨b, off, h1, fun i hi => ?_⟩
  have hb := hne b off (h1 (by omega))
  have hk : ∀ {o : Nat} {v : Value}, W.cell? ⟨b, o, none⟩ = some v → (W.setCell ⟨k, j, none⟩ u).cell? ⟨b, o, none⟩ = some v := fun {o v} h0 => by
    rw [World.cell?_of_block (w := W) (a := ⟨b, o, none⟩) (Below.heap_setCell W ⟨k, j, none⟩ u b hb)]; exact h0
  exact ⟨hk (h2 i hi).1, hk (h2 i hi).2.1, hk (h2 i hi).2.2.1, hk (h2 i hi).2.2.2.1, hk (h2 i hi).2.2.2.2⟩

set_option maxHeartbeats 2000000 in
theorem toDtd_any (w : World) (v : Value) (l : List (ByteArray × ByteArray)) (m : List At5) (hs : SizesL l m 1048576) (h : DtdAt w v l m) :
    Calls Try.prog 21 #[v] w fun e w' => (∃ u, e = .returned u ∧ (∃ b c b' c', u = .agg #[.slice (some ⟨b, 0, none⟩) l.length c, .slice (some ⟨b', 0, none⟩) m.length c'] ∧ w.heap.size ≤ b ∧ w.heap.size ≤ b' ∧ EntsAt w' (some ⟨b, 0, none⟩) l ∧ AttsAt w' (some ⟨b', 0, none⟩) m)) ∧ w.grownBy w' none := by
  obtain ⟨a, c, a', c', rfl, hA, hA'⟩ := h
  have B0 := mkHidEa (bx3_start w (.cells #[.slice a l.length c, .slice a' m.length c'] 37))
  have h1 := toEntS_any _ a _ c l rfl hs.1.1 (hA.grown B0.out.gr)
  have HA := mkHidEa hA'
  have hlm := hs.2.1
  clear hA hA' hs
  have hz : (((w.alloc (.cells #[.slice a l.length c, .slice a' m.length c'] 37)).alloc (.cells #[.slice none 0 0, .slice none 0 0] 45)).alloc (.cells #[.slice none 0 0, .slice none 0 0] 45)).heap.size = w.heap.size + 3 := by simp
  have HZ := mkHidEa hz
  clear hz
  go_enter Try.func21, Try.ntmps21
  go_wp2_with fail
  refine h1.mono ?_
  rintro e w1 ⟨⟨b, cb, rfl, hb, hE⟩, hg1⟩
  have B1 := mkHidEa (B0.out.step hg1)
  rw [HZ.out] at hb
  have HE := mkHidEa hE
  clear h1 hg1 B0 HZ hE
  have q0 : w1.cell? ⟨w.heap.size + 2, 0, none⟩ = some (.slice none 0 0) := by simp [World.cell?, B1.out.b2]
  have q1 : w1.frozen? ⟨w.heap.size + 2, 0, none⟩ = false := by simp [World.frozen?, B1.out.b2]
  have q2 : w1.cell? ⟨w.heap.size, 1, none⟩ = some (.slice a' m.length c') := by simp [World.cell?, B1.out.b0]
  go_wp2_with fail
  have B2 := mkHidEa (B1.out.set 0 (.slice (some ⟨b, 0, none⟩) l.length cb) rfl)
  have HE2 := mkHidEa (ents_set (k := w.heap.size + 2) (j := 0) (u := .slice (some ⟨b, 0, none⟩) l.length cb) HE.out (fun b' o' e => by simp only [Option.some.injEq, Addr.mk.injEq] at e; omega))
  have h2 := toAttS_any _ a' _ c' m rfl hlm (HA.out.grown B2.out.gr)
  have hz2 := B2.out.gr.size
  clear B1 HE q0 q1 q2
  refine h2.mono ?_
  rintro e w2 ⟨⟨b', cb', rfl, hb', hE'⟩, hg2⟩
  have B3 := mkHidEa (B2.out.step hg2)
  have HE3 := mkHidEa (HE2.out.grown hg2)
  have HF3 := mkHidEa hE'
  have hb3 : w.heap.size + 3 ≤ b' := by
    have := (Array.getElem?_eq_some_iff.1 B2.out.b2).1
    omega
  clear h2 hg2 B2 HE2 hE' hb' hz2
  have q0 : w2.cell? ⟨w.heap.size + 2, 1, none⟩ = some (.slice none 0 0) := by simp [World.cell?, B3.out.b2]
  have q1 : w2.frozen? ⟨w.heap.size + 2, 1, none⟩ = false := by simp [World.frozen?, B3.out.b2]
  have q3 : w2.cell? ⟨w.heap.size + 2, 0, none⟩ = some (.slice (some ⟨b, 0, none⟩) l.length cb) := by simp [World.cell?, B3.out.b2]
  have r0 : w2.cell? ⟨w.heap.size + 1, 0, none⟩ = some (.slice none 0 0) := by simp [World.cell?, B3.out.b1]
  have r1 : w2.cell? ⟨w.heap.size + 1, 1, none⟩ = some (.slice none 0 0) := by simp [World.cell?, B3.out.b1]
  have s0 : w2.frozen? ⟨w.heap.size + 1, 0, none⟩ = false := by simp [World.frozen?, B3.out.b1]
  have s1 : w2.frozen? ⟨w.heap.size + 1, 1, none⟩ = false := by simp [World.frozen?, B3.out.b1]
  go_wp2
  refine bodyPost_ret (v := .agg #[.slice (some ⟨b, 0, none⟩) l.length cb, .slice (some ⟨b', 0, none⟩) m.length cb']) (by simp [results, Try.results21, go_sem, r0, r1]) rfl ?_
  have hne : ∀ {x : Nat} {k : Nat}, w.heap.size + 3 ≤ x → k ≤ w.heap.size + 2 → ∀ b0 o0, (some ⟨x, 0, none⟩ : Option Addr) = some ⟨b0, o0, none⟩ → b0 ≠ k := fun hx hk b0 o0 e => by simp only [Option.some.injEq, Addr.mk.injEq] at e; omega
  refine ⟨⟨_, rfl, b, cb, b', cb', rfl, by omega, by omega, ?_, ?_⟩, ?_⟩
  · exact ents_set (ents_set (ents_set HE3.out (hne hb (by omega))) (hne hb (by omega))) (hne hb (by omega))
  · exact atts_set (atts_set (atts_set HF3.out (hne hb3 (by omega))) (hne hb3 (by omega))) (hne hb3 (by omega))
  · exact gnS (gnS (gnS B3.out.gr (by omega) _) (by omega) _) (by omega) _

set_option maxHeartbeats 2000000 in
theorem eqDtd_same (w : World) (v v' : Value) (l : List (ByteArray × ByteArray)) (m : List At5) (hs : SizesL l m 1048576) (h : DtdAt w v l m) (h' : DtdAt w v' l m) :
    Calls Try.prog 24 #[v, v'] w fun e w' => e = .returned (.bool true) ∧ w.grownBy w' none := by
  obtain ⟨a, c, a', c', rfl, hA, hA'⟩ := h
  obtain ⟨e, d, e', d', rfl, hE, hE'⟩ := h'
  obtain ⟨W0, hW0⟩ : ∃ W0, (w.alloc (.cells #[.slice a l.length c, .slice a' m.length c'] 45)).alloc (.cells #[.slice e l.length d, .slice e' m.length d'] 45) = W0 := ⟨_, rfl⟩
  have hg0 : w.grownBy W0 none := by rw [← hW0]; exact gnT (gnA _ _) (gnA _ _)
  have b0 : W0.heap[w.heap.size]? = some (.cells #[.slice a l.length c, .slice a' m.length c'] 45) := by
    rw [← hW0, heap_alloc_old _ _ (by simp)]; exact heap_alloc_new _ _
  have b1 : W0.heap[w.heap.size + 1]? = some (.cells #[.slice e l.length d, .slice e' m.length d'] 45) := by
    rw [← hW0]
    have := heap_alloc_new (w.alloc (.cells #[.slice a l.length c, .slice a' m.length c'] 45)) (.cells #[.slice e l.length d, .slice e' m.length d'] 45)
    simpa using this
  have h1 := eqEntS_same W0 a e _ c d l rfl hs.1.1 (hA.grown hg0) (hE.grown hg0)
  rw [← hW0] at h1
  have HA := mkHidEa hA'
  have HE := mkHidEa hE'
  have HG0 := mkHidEa hg0
  have HB0 := mkHidEa b0
  have HB1 := mkHidEa b1
  have HW0 := mkHidEa hW0
  have hlm := hs.2.1
  clear hA hA' hE hE' hs hg0 b0 b1 hW0
  go_enter Try.func24, Try.ntmps24
  go_wp2_with fail
  refine h1.mono ?_
  rintro _ w1 ⟨rfl, hg1⟩
  rw [HW0.out] at hg1
  have k0 : w1.heap[w.heap.size]? = _ := (hg1.block _ (Array.getElem?_eq_some_iff.1 HB0.out).1 (by simp)).trans HB0.out
  have k1 : w1.heap[w.heap.size + 1]? = _ := (hg1.block _ (Array.getElem?_eq_some_iff.1 HB1.out).1 (by simp)).trans HB1.out
  have q0 : w1.cell? ⟨w.heap.size, 1, none⟩ = some (.slice a' m.length c') := by simp [World.cell?, k0]
  have q1 : w1.cell? ⟨w.heap.size + 1, 1, none⟩ = some (.slice e' m.length d') := by simp [World.cell?, k1]
  have HG1 := mkHidEa (gnT HG0.out hg1)
  have h2 := eqAttS_same w1 a' e' _ c' d' m rfl hlm (HA.out.grown HG1.out) (HE.out.grown HG1.out)
  clear h1 hg1 k0 k1 HW0 HB0 HB1 HG0
  go_wp2_with fail
  refine h2.mono ?_
  rintro _ w2 ⟨rfl, hg2⟩
  have HG2 := mkHidEa (gnT HG1.out hg2)
  clear h2 hg2 q0 q1
  go_wp2
  go_ret
  exact ⟨rfl, HG2.out⟩
end Go.Proofs.Ytpkhdfddbcpciaa
