/- The laws' helpers over events: their sizes. -/
/- The laws' helpers over events: the sizes of a row of them. -/
/- The laws' helpers over events: a copy. -/
/- The laws' helpers over events: a copy of a row of them. -/
/- The laws' helpers over events: are two alike? -/
/- What a proof's frame tells of a row of events that came in, each with its row of attributes, as they lie in memory. -/
import Derived.Test.YtlfcmlcpdpkibaaDoorAtA
import Derived.Test.YtlfcmlcpdpkibaaDoorSpR
import Derived.Deep.SlicePairs
import Derived.OpenShut
import Derived.WideShapes
namespace Go.Proofs.YtlfcmlcpdpkibaaDoor
open Go.RowKit Lists Ents PlainR PlainN
set_option linter.unusedVariables false

theorem EvIn.grown {w wr : World} {a : Option Addr} {evs : List Ev} (h : EvIn w a evs) (hg : w.grownBy wr none) : EvIn wr a evs := h.below (Ents.grown_below hg)
/-- An event that is not great. -/
def EvSm (e : Ev) : Prop := e.name.size ≤ 1048576 ∧ e.text.size ≤ 1048576 ∧ e.attrs.length ≤ 1048576 ∧ ∀ a ∈ e.attrs, a.1.size ≤ 1048576 ∧ a.2.size ≤ 1048576
/-- An event whose parts are no longer than anything may be. -/
def EvMx (e : Ev) : Prop := e.name.size ≤ maxLen ∧ e.text.size ≤ maxLen ∧ e.attrs.length ≤ maxLen ∧ ∀ a ∈ e.attrs, a.1.size ≤ maxLen ∧ a.2.size ≤ maxLen
set_option maxRecDepth 100000 in
set_option maxHeartbeats 1000000 in
theorem szEvent_any (e : Ev) (ao : Option Addr) (ac : Nat) (L : Int) (w : World) (h0 : 0 ≤ L) (h1 : L ≤ 1048576) (hm : EvMx e) (hA : EntsAt w ao e.attrs) :
    Calls Tryd.prog 13 #[.agg #[.int .i64 e.kind, .string e.name, .string e.text, .slice ao e.attrs.length ac], .int .i64 L] w fun en w' => (∃ z, en = .returned (.int .i64 z) ∧ -1 ≤ z ∧ z ≤ L ∧ (0 ≤ z → EvSm e)) ∧ w.grownBy w' none := by
  obtain ⟨hn, ht, hl, hs⟩ := hm
  have hn' := hn
  have ht' := ht
  unfold maxLen at hn' ht'
  have HLM := mkHidEa hl
  have HSM := mkHidEa hs
  have HAA := mkHidEa hA
  clear hn ht hl hs hA
  have c1b : ∀ z, -1 ≤ z → z < 0 → (0 ≤ z → EvSm e) := fun z _ h h' => by omega
  have HM1 := mkHidEa c1b
  have HL1 : Hid (-1 ≤ L) := mkHidEa (by omega)
  clear c1b
  obtain ⟨W1, hW1⟩ : ∃ W1, w.alloc (.cells #[.int .i64 e.kind, .string e.name, .string e.text, .slice ao e.attrs.length ac] 38) = W1 := ⟨_, rfl⟩
  have hg1 : w.grownBy W1 none := by rw [← hW1]; exact gnA _ _
  have hev : W1.heap[w.heap.size]? = some (.cells #[.int .i64 e.kind, .string e.name, .string e.text, .slice ao e.attrs.length ac] 38) := by rw [← hW1]; exact heap_alloc_new _ _
  obtain ⟨v0, v1, v2, v3⟩ := four_cells hev
  have G1 := mkHidEa hg1
  by_cases c1 : L - (e.name.size : Int) < 0
  · have w1 : IntKind.i64.wrap (L - (e.name.size : Int)) = L - (e.name.size : Int) := wrapBig (by omega) (by omega)
    clear hn' ht'
    go_enter Tryd.func13, Tryd.ntmps13
    go_wp2
    go_ret
    exact ⟨⟨-1, rfl, by decide, HL1.out, HM1.out _ (by decide) (by decide)⟩, G1.out⟩
  by_cases c2 : L - (e.name.size : Int) - (e.text.size : Int) < 0
  · have b1 : -9223372036854775808 ≤ L - (e.name.size : Int) ∧ L - (e.name.size : Int) ≤ 9223372036854775807 := by omega
    have b2 : -9223372036854775808 ≤ L - (e.name.size : Int) - (e.text.size : Int) ∧ L - (e.name.size : Int) - (e.text.size : Int) ≤ 9223372036854775807 := by omega
    have w1 := wrapBig b1.1 b1.2
    have w2 := wrapBig b2.1 b2.2
    clear b1 b2
    clear hn' ht'
    go_enter Tryd.func13, Tryd.ntmps13
    go_wp2
    go_ret
    exact ⟨⟨-1, rfl, by decide, HL1.out, HM1.out _ (by decide) (by decide)⟩, G1.out⟩
  obtain ⟨z0, hz0⟩ : ∃ z0, L - (e.name.size : Int) - (e.text.size : Int) = z0 := ⟨_, rfl⟩
  have hzl : z0 ≤ L := by omega
  have hz1 : 0 ≤ z0 := by omega
  have hsm1 : e.name.size ≤ 1048576 := by omega
  have hsm2 : e.text.size ≤ 1048576 := by omega
  have hcall := szAttrS_any W1 ao _ ac e.attrs z0 rfl HLM.out hz1 (by omega) HSM.out (HAA.out.grown hg1)
  have b1 : -9223372036854775808 ≤ L - (e.name.size : Int) ∧ L - (e.name.size : Int) ≤ 9223372036854775807 := by omega
  have b2 : -9223372036854775808 ≤ L - (e.name.size : Int) - (e.text.size : Int) ∧ L - (e.name.size : Int) - (e.text.size : Int) ≤ 9223372036854775807 := by omega
  have w1 := wrapBig b1.1 b1.2
  have w2 := wrapBig b2.1 b2.2
  clear b1 b2
  clear hn' ht' hg1 hev
  go_enter Tryd.func13, Tryd.ntmps13
  go_wp2_with fail
  refine hcall.mono ?_
  rintro en w2' ⟨⟨z, rfl, y0, y1, y2⟩, hg2⟩
  have G2 := mkHidEa (gnT G1.out hg2)
  have HY := mkHidEa y2
  clear hcall hg2 y2 w1 w2
  by_cases hneg : z < 0
  · go_wp2
    go_ret
    exact ⟨⟨-1, rfl, by decide, HL1.out, HM1.out _ (by decide) (by decide)⟩, G2.out⟩
  · go_wp2
    go_ret
    exact ⟨⟨z, rfl, by omega, by omega, fun h => ⟨hsm1, hsm2, (HY.out h).1, (HY.out h).2⟩⟩, G2.out⟩
end Go.Proofs.YtlfcmlcpdpkibaaDoor

namespace Go.Proofs.YtlfcmlcpdpkibaaDoor
open Go.RowKit Lists Ents PlainR PlainN
set_option linter.unusedVariables false

set_option maxRecDepth 100000 in
set_option maxHeartbeats 1500000 in
theorem szEventS_any (w : World) (a : Option Addr) (n c : Nat) (l : List Ev) (L : Int) (hn : n = l.length) (hl : l.length ≤ maxLen) (h0 : 0 ≤ L) (h1 : L ≤ 1048576) (hz : ∀ e ∈ l, EvMx e) (h : EvIn w a l) :
    Calls Tryd.prog 4 #[.slice a n c, .int .i64 L] w fun e w' => (∃ z, e = .returned (.int .i64 z) ∧ -1 ≤ z ∧ z ≤ L ∧ (0 ≤ z → l.length ≤ 1048576 ∧ ∀ e ∈ l, EvSm e)) ∧ w.grownBy w' none := by
  subst hn
  unfold maxLen at hl
  have w1 : IntKind.i64.wrap (L - (l.length : Int)) = L - (l.length : Int) := wrapBig (by omega) (by omega)
  by_cases c1 : L - (l.length : Int) < 0
  · go_enter Tryd.func4, Tryd.ntmps4
    go_wp2
    go_ret
    exact ⟨⟨-1, rfl, by omega, by omega, by omega⟩, gnR _⟩
  have HA := mkHidEa h
  have HZ := mkHidEa hz
  clear h hz
  go_enter Tryd.func4, Tryd.ntmps4
  go_wp2
  go_loopw [5, 1] (fun i lf wr => ∃ (k : Nat) (z : Int), k ≤ l.length ∧ i = .int .i64 k ∧ lf = .int .i64 z ∧ 0 ≤ z ∧ z ≤ L ∧ (∀ j (hj : j < l.length), j < k → EvSm (l[j]'hj)) ∧ w.grownBy wr none) (fun i _ _ => l.length - (intOf i).toNat)
  case atStart => exact ⟨0, _, Nat.zero_le _, rfl, rfl, by omega, by omega, fun j _ hj => absurd hj (by omega), gnR _⟩
  case round =>
    obtain ⟨k, z, hk, rfl, rfl, z0, z1, hsz, hgr⟩ := hrel
    have HS := mkHidEa hsz
    have HG := mkHidEa hgr
    clear hsz hgr
    by_cases hlt : k < l.length
    · obtain ⟨b, off, ha, hc⟩ := HA.out.grown HG.out
      obtain rfl := ha (by omega)
      obtain ⟨c1', c2', c3', ao, ac, c4', hEA⟩ := hc k hlt
      have hzk := HZ.out _ (List.getElem_mem hlt)
      obtain ⟨E, hE⟩ : ∃ E, l[k]'hlt = E := ⟨_, rfl⟩
      rw [hE] at c1' c2' c3' c4' hEA hzk
      have HE := mkHidEa hE
      have hcall := szEvent_any E ao ac z wr z0 (by omega) hzk hEA
      clear hc ha hE hzk hEA
      go_wp2_with fail
      refine hcall.mono ?_
      rintro e w' ⟨⟨z', rfl, y0, y1, y2⟩, hg'⟩
      have HG' := mkHidEa (gnT HG.out hg')
      clear hcall hg' c1' c2' c3' c4'
      by_cases hneg : z' < 0
      · go_wp2
        go_ret
        exact ⟨⟨-1, rfl, by omega, by omega, by omega⟩, HG'.out⟩
      · have HY := mkHidEa (y2 (by omega))
        clear y2
        go_wp2
        go_roundw
        case rel =>
          refine ⟨k + 1, z', by omega, by go_num, rfl, by omega, by omega, fun j hj hjk => ?_, HG'.out⟩
          by_cases hjk' : j = k
          · subst hjk'; rw [HE.out]; exact HY.out
          · exact HS.out j hj (by omega)
        case measure => simp [intOf]; omega
    · go_wp2
      go_ret
      refine ⟨⟨z, rfl, by omega, by omega, fun _ => ⟨by omega, fun e he => ?_⟩⟩, HG.out⟩
      obtain ⟨j, hj, rfl⟩ := List.getElem_of_mem he
      exact HS.out j hj (by omega)
end Go.Proofs.YtlfcmlcpdpkibaaDoor

namespace Go.Proofs.YtlfcmlcpdpkibaaDoor
open Go.RowKit Lists Ents PlainR PlainN
set_option linter.unusedVariables false

theorem ents_setCell {w : World} {b : Nat} {l : List (ByteArray × ByteArray)} (h : EntsAt w (some ⟨b, 0, none⟩) l) (p : Addr) (v : Value) (hp : p.block ≠ b) : EntsAt (w.setCell p v) (some ⟨b, 0, none⟩) l := by
  obtain ⟨b', off', ha, hc⟩ := h
  refine ⟨b, 0, fun _ => rfl, fun j hj => ?_⟩
  have hq := ha (by omega)
  simp only [Option.some.injEq, Addr.mk.injEq] at hq
  obtain ⟨rfl, rfl, _⟩ := hq
  have hk : (w.setCell p v).heap[b]? = w.heap[b]? := Below.heap_setCell _ p _ b (by omega)
  exact ⟨cell_keepS hk (hc j hj).1, cell_keepS hk (hc j hj).2⟩
theorem own_keepA {w w' : World} {base : Nat} {e : TypeId} {size : Nat} {b n c : Nat} {xs : List Value} (h : w.ownsRow base e size (.slice (some ⟨b, 0, none⟩) n c) n xs) (hk : w'.heap[b]? = w.heap[b]?) : w'.ownsRow base e size (.slice (some ⟨b, 0, none⟩) n c) n xs := by
  obtain ⟨h1, h2⟩ := h
  refine ⟨h1, ?_⟩
  rcases h2 with h2 | ⟨g, cap, cur, hv, hb, hg, rest⟩
  · exact .inl h2
  · cases hv
    exact .inr ⟨b, c, cur, rfl, hb, by rw [hk]; exact hg, rest⟩
theorem AtrOwn.set {w : World} {b c : Nat} {l : List (ByteArray × ByteArray)} (h : AtrOwn w b c l) (p : Addr) (v : Value) (hp : p.block ≠ b) : AtrOwn (w.setCell p v) b c l := by
  obtain ⟨h1, B, ys, h2⟩ := h
  exact ⟨ents_setCell h1 p v hp, B, ys, own_keepA h2 (Below.heap_setCell _ p _ b (by omega))⟩
theorem AtrOwn.grown {w wr : World} {b c : Nat} {l : List (ByteArray × ByteArray)} (h : AtrOwn w b c l) (hg : w.grownBy wr none) : AtrOwn wr b c l := by
  obtain ⟨h1, B, ys, h2⟩ := h
  exact ⟨h1.grown hg, B, ys, h2.kept hg (.inr (by simp [Value.ownBlock]))⟩
theorem grown_setCell {w W : World} (h : w.grownBy W none) (p : Addr) (v : Value) (hp : w.heap.size ≤ p.block) : w.grownBy (W.setCell p v) none :=
  ⟨h.os, h.tape, h.output, by have := h.size; simpa using this, fun i hi hr => by rw [Below.heap_setCell _ p _ i (by omega)]; exact h.block i hi hr⟩

theorem heap_three (w : World) (a b c : Obj) : (((w.alloc a).alloc b).alloc c).heap[w.heap.size + 1]? = some b ∧ (((w.alloc a).alloc b).alloc c).heap[w.heap.size + 1 + 1]? = some c := by
  constructor
  · simp [World.alloc, Array.getElem_push, -World.alloc_eq]
  · simp [World.alloc, Array.getElem_push, -World.alloc_eq]
theorem cells_thaw {W : World} {k o : Nat} {cs : Array Value} {t : TypeId} (h : W.heap[k]? = some (.cells cs t)) : W.frozen? ⟨k, o, none⟩ = false := by simp [World.frozen?, h]

set_option maxRecDepth 100000 in
set_option maxHeartbeats 1000000 in
theorem toEvent_any (e : Ev) (ao : Option Addr) (ac : Nat) (w : World) (hm : e.attrs.length ≤ 1048576) (hA : EntsAt w ao e.attrs) :
    Calls Tryd.prog 16 #[.agg #[.int .i64 e.kind, .string e.name, .string e.text, .slice ao e.attrs.length ac]] w fun en w' => (∃ b c', en = .returned (.agg #[.int .i64 e.kind, .string e.name, .string e.text, .slice (some ⟨b, 0, none⟩) e.attrs.length c']) ∧ w.heap.size ≤ b ∧ AtrOwn w' b c' e.attrs) ∧ w.grownBy w' none := by
  have HM := mkHidEa hm
  have HA := mkHidEa hA
  clear hm hA
  go_enter Tryd.func16, Tryd.ntmps16
  go_wp2_with fail
  have hg3 : w.grownBy (((w.alloc (.cells #[.int .i64 e.kind, .string e.name, .string e.text, .slice ao e.attrs.length ac] 38)).alloc (.cells #[.int .i64 0, .string ⟨#[]⟩, .string ⟨#[]⟩, .slice none 0 0] 42)).alloc (.cells #[.int .i64 e.kind, .string e.name, .string e.text, .slice none 0 0] 42)) none := gnT (gnT (gnA _ _) (gnA _ _)) (gnA _ _)
  have hev := heap_three w (.cells #[.int .i64 e.kind, .string e.name, .string e.text, .slice ao e.attrs.length ac] 38) (.cells #[.int .i64 0, .string ⟨#[]⟩, .string ⟨#[]⟩, .slice none 0 0] 42) (.cells #[.int .i64 e.kind, .string e.name, .string e.text, .slice none 0 0] 42)
  revert hg3 hev
  generalize ((w.alloc (.cells #[.int .i64 e.kind, .string e.name, .string e.text, .slice ao e.attrs.length ac] 38)).alloc (.cells #[.int .i64 0, .string ⟨#[]⟩, .string ⟨#[]⟩, .slice none 0 0] 42)).alloc (.cells #[.int .i64 e.kind, .string e.name, .string e.text, .slice none 0 0] 42) = W3
  intro hg3 hev
  refine (toAttrS_any W3 ao _ ac e.attrs rfl HM.out (HA.out.grown hg3)).mono ?_
  rintro en w' ⟨⟨b, c', rfl, hbb, hEn⟩, hg'⟩
  have hlt := (Array.getElem?_eq_some_iff.1 hev.2).1
  have hev' := (hg'.block _ hlt (by simp)).trans hev.2
  have heu' := (hg'.block (w.heap.size + 1) (by omega) (by simp)).trans hev.1
  obtain ⟨v0, v1, v2, v3⟩ := four_cells hev'
  obtain ⟨u0, u1, u2, u3⟩ := four_cells heu'
  have f3 := cells_thaw (o := 3) hev'
  have g0 := cells_thaw (o := 0) heu'
  have g1 := cells_thaw (o := 1) heu'
  have g2 := cells_thaw (o := 2) heu'
  have g3 := cells_thaw (o := 3) heu'
  have HB := mkHidEa (show w.heap.size ≤ b by omega)
  have q2 : w.heap.size + 1 + 1 ≠ b := by omega
  have q1 : w.heap.size + 1 ≠ b := by omega
  have HN := mkHidEa (((((hEn.set ⟨w.heap.size + 1 + 1, 3, none⟩ (.slice (some ⟨b, 0, none⟩) e.attrs.length c') q2).set ⟨w.heap.size + 1, 0, none⟩ (.int .i64 e.kind) q1).set ⟨w.heap.size + 1, 1, none⟩ (.string e.name) q1).set ⟨w.heap.size + 1, 2, none⟩ (.string e.text) q1).set ⟨w.heap.size + 1, 3, none⟩ (.slice (some ⟨b, 0, none⟩) e.attrs.length c') q1)
  have p2 : w.heap.size ≤ w.heap.size + 1 + 1 := by omega
  have p1 : w.heap.size ≤ w.heap.size + 1 := by omega
  have HG := mkHidEa (grown_setCell (grown_setCell (grown_setCell (grown_setCell (grown_setCell (gnT hg3 hg') ⟨w.heap.size + 1 + 1, 3, none⟩ (.slice (some ⟨b, 0, none⟩) e.attrs.length c') p2) ⟨w.heap.size + 1, 0, none⟩ (.int .i64 e.kind) p1) ⟨w.heap.size + 1, 1, none⟩ (.string e.name) p1) ⟨w.heap.size + 1, 2, none⟩ (.string e.text) p1) ⟨w.heap.size + 1, 3, none⟩ (.slice (some ⟨b, 0, none⟩) e.attrs.length c') p1)
  clear hg3 hev hg' hEn hbb hlt hev' heu' q1 q2 p1 p2
  go_wp2
  refine bodyPost_ret (v := .agg #[.int .i64 e.kind, .string e.name, .string e.text, .slice (some ⟨b, 0, none⟩) e.attrs.length c']) (by simp [results, Tryd.results16, go_sem, *]) rfl ⟨⟨b, c', rfl, HB.out, HN.out⟩, HG.out⟩
end Go.Proofs.YtlfcmlcpdpkibaaDoor

namespace Go.Proofs.YtlfcmlcpdpkibaaDoor
open Go.RowKit Lists Ents PlainR PlainN
set_option linter.unusedVariables false

theorem infoEvA : (Tryd.prog.info? 42).map (fun i => (i.zero, i.size, i.bytes)) = some (some (.agg #[.int .i64 0, .string ⟨#[]⟩, .string ⟨#[]⟩, .slice none 0 0]), 4, 64) := by kernel_rfl
/-- What four values of a row say of an event. -/
def EvRow (lo : Nat) (W : World) (xs : List Value) (j : Nat) (e : Ev) : Prop :=
  xs[j * 4]? = some (.int .i64 e.kind) ∧ xs[j * 4 + 1]? = some (.string e.name) ∧ xs[j * 4 + 2]? = some (.string e.text) ∧ ∃ b c, xs[j * 4 + 3]? = some (.slice (some ⟨b, 0, none⟩) e.attrs.length c) ∧ lo < b ∧ AtrOwn W b c e.attrs
/-- Events of our own: their row lies at the floor, their attributes above it. -/
def EvOwn (lo : Nat) (W : World) (c : Nat) (l : List Ev) : Prop :=
  ∃ xs, W.ownsRow lo 42 4 (.slice (some ⟨lo, 0, none⟩) l.length c) l.length xs ∧ ∀ j (hj : j < l.length), EvRow lo W xs j (l[j]'hj)
theorem EvRow.grown {lo : Nat} {W W' : World} {xs : List Value} {j : Nat} {e : Ev} (h : EvRow lo W xs j e) (hg : W.grownBy W' none) : EvRow lo W' xs j e := by
  obtain ⟨h0, h1, h2, b, c, h3, hb, hA⟩ := h
  exact ⟨h0, h1, h2, b, c, h3, hb, hA.grown hg⟩
theorem EvRow.set {lo : Nat} {W : World} {xs : List Value} {j : Nat} {e : Ev} (h : EvRow lo W xs j e) (p : Addr) (v : Value) (hp : p.block = lo) (i : Nat) (u : Value) (hi : i < j * 4 ∨ j * 4 + 3 < i) : EvRow lo (W.setCell p v) (xs.set i u) j e := by
  obtain ⟨h0, h1, h2, b, c, h3, hb, hA⟩ := h
  refine ⟨?_, ?_, ?_, b, c, ?_, hb, hA.set p v (by omega)⟩
  · rw [List.getElem?_set_ne (by omega)]; exact h0
  · rw [List.getElem?_set_ne (by omega)]; exact h1
  · rw [List.getElem?_set_ne (by omega)]; exact h2
  · rw [List.getElem?_set_ne (by omega)]; exact h3

set_option maxRecDepth 100000 in
set_option maxHeartbeats 2000000 in
theorem toEventS_any (w : World) (a : Option Addr) (n c : Nat) (l : List Ev) (hn : n = l.length) (hl : l.length ≤ 1048576) (hla : ∀ e ∈ l, e.attrs.length ≤ 1048576) (h : EvIn w a l) :
    Calls Tryd.prog 6 #[.slice a n c] w fun e w' => (e = .returned (.slice (some ⟨w.heap.size, 0, none⟩) l.length l.length) ∧ EvOwn w.heap.size w' l.length l) ∧ w.grownBy w' none := by
  subst hn
  obtain ⟨cs, hmk, hcs⟩ := run_make_wide (P := Tryd.prog) 28 42 _ 4 64 Tryd.underlying28 infoEvA .i64 .i64 l.length (by omega) (by unfold maxLen; omega) w
  have HA := mkHidEa h
  have HLA := mkHidEa hla
  have HO := mkHidEa (World.ownsRow_lit (base := w.heap.size) (e := 42) (size := 4) w cs l.length (Nat.le_refl _) (by unfold maxLen; omega) hcs)
  clear h hla
  go_enter Tryd.func6, Tryd.ntmps6
  go_wp2
  go_loopw [4] (fun i wr => ∃ (k : Nat) (xs : List Value), k ≤ l.length ∧ i = .int .i64 k ∧ wr.ownsRow w.heap.size 42 4 (.slice (some ⟨w.heap.size, 0, none⟩) l.length l.length) l.length xs ∧ w.grownBy wr none ∧ ∀ j (hj : j < l.length), j < k → EvRow w.heap.size wr xs j (l[j]'hj)) (fun i _ => l.length - (intOf i).toNat)
  case atStart => exact ⟨0, _, Nat.zero_le _, rfl, HO.out, gnA _ _, fun j _ hj => absurd hj (by omega)⟩
  case round =>
    obtain ⟨k, xs, hk, rfl, hown, hgr, hxs⟩ := hrel
    have HX := mkHidEa hxs
    have HG := mkHidEa hgr
    have HW := mkHidEa hown
    clear hxs hgr hown HO hmk
    by_cases hlt : k < l.length
    · obtain ⟨b, off, ha, hc⟩ := HA.out.grown HG.out
      obtain rfl := ha (by omega)
      obtain ⟨c1, c2, c3, ao, ac, c4, hEA⟩ := hc k hlt
      have hzk := HLA.out _ (List.getElem_mem hlt)
      obtain ⟨E, hE⟩ : ∃ E, l[k]'hlt = E := ⟨_, rfl⟩
      rw [hE] at c1 c2 c3 c4 hEA hzk
      have HE := mkHidEa hE
      have hcall := toEvent_any E ao ac wr hzk hEA
      have hrs : w.heap.size < wr.heap.size := by
        obtain ⟨cs', h'⟩ := own_cells HW.out
        exact (Array.getElem?_eq_some_iff.1 h').1
      have HRS := mkHidEa hrs
      clear hc ha hE hzk hEA hrs
      go_wp2_with fail
      refine hcall.mono ?_
      rintro e w' ⟨⟨b', c', rfl, hb', hO'⟩, hg'⟩
      have HW' := mkHidEa (HW.out.kept hg' (.inr (by simp [Value.ownBlock])))
      have HG' := mkHidEa (gnT HG.out hg')
      have HB' := mkHidEa (show w.heap.size < b' by have := HRS.out; omega)
      have HO' := mkHidEa hO'
      have HX' : Hid (∀ j (hj : j < l.length), j < k → EvRow w.heap.size w' xs j (l[j]'hj)) := mkHidEa fun j hj hjk => (HX.out j hj hjk).grown hg'
      clear hcall hg' c1 c2 c3 c4 HW HG HX hO' hb' HRS
      have hxl : xs.length = l.length * 4 := HW'.out.1
      have k1 := HW'.out.cellAt (k * 4) (by omega)
      have k2 := HW'.out.cellAt (k * 4 + 1) (by omega)
      have k3 := HW'.out.cellAt (k * 4 + 2) (by omega)
      have k4 := HW'.out.cellAt (k * 4 + 3) (by omega)
      rw [List.getElem?_eq_getElem (by omega)] at k1 k2 k3 k4
      have f1 := HW'.out.frozenAt (k * 4)
      have f2 := HW'.out.frozenAt (k * 4 + 1)
      have f3 := HW'.out.frozenAt (k * 4 + 2)
      have f4 := HW'.out.frozenAt (k * 4 + 3)
      have HW2 := mkHidEa ((((HW'.out.stored (k * 4) (.int .i64 E.kind)).1.stored (k * 4 + 1) (.string E.name)).1.stored (k * 4 + 2) (.string E.text)).1.stored (k * 4 + 3) (.slice (some ⟨b', 0, none⟩) E.attrs.length c')).1
      have HG2 := mkHidEa (grown_setCell (grown_setCell (grown_setCell (grown_setCell HG'.out ⟨w.heap.size, k * 4, none⟩ (.int .i64 E.kind) (Nat.le_refl _)) ⟨w.heap.size, k * 4 + 1, none⟩ (.string E.name) (Nat.le_refl _)) ⟨w.heap.size, k * 4 + 2, none⟩ (.string E.text) (Nat.le_refl _)) ⟨w.heap.size, k * 4 + 3, none⟩ (.slice (some ⟨b', 0, none⟩) E.attrs.length c') (Nat.le_refl _))
      have hq : w.heap.size ≠ b' := by have := HB'.out; omega
      have HO2 := mkHidEa ((((HO'.out.set ⟨w.heap.size, k * 4, none⟩ (.int .i64 E.kind) hq).set ⟨w.heap.size, k * 4 + 1, none⟩ (.string E.name) hq).set ⟨w.heap.size, k * 4 + 2, none⟩ (.string E.text) hq).set ⟨w.heap.size, k * 4 + 3, none⟩ (.slice (some ⟨b', 0, none⟩) E.attrs.length c') hq)
      clear HG' hq HO'
      go_wp2
      go_roundw
      case rel =>
        refine ⟨k + 1, _, by omega, by go_num, HW2.out, HG2.out, fun j hj hjk => ?_⟩
        by_cases hjk' : j = k
        · subst hjk'
          rw [HE.out]
          refine ⟨?_, ?_, ?_, b', c', ?_, HB'.out, HO2.out⟩
          · rw [List.getElem?_set_ne (by omega), List.getElem?_set_ne (by omega), List.getElem?_set_ne (by omega), List.getElem?_set_self (by omega)]
          · rw [List.getElem?_set_ne (by omega), List.getElem?_set_ne (by omega), List.getElem?_set_self (by simp only [List.length_set]; omega)]
          · rw [List.getElem?_set_ne (by omega), List.getElem?_set_self (by simp only [List.length_set]; omega)]
          · rw [List.getElem?_set_self (by simp only [List.length_set]; omega)]
        · exact ((((HX'.out j hj (by omega)).set ⟨w.heap.size, k * 4, none⟩ _ rfl _ _ (by omega)).set ⟨w.heap.size, k * 4 + 1, none⟩ _ rfl _ _ (by omega)).set ⟨w.heap.size, k * 4 + 2, none⟩ _ rfl _ _ (by omega)).set ⟨w.heap.size, k * 4 + 3, none⟩ _ rfl _ _ (by omega)
      case measure => simp [intOf]; omega
    · go_wp2
      go_ret
      exact ⟨⟨rfl, _, HW.out, fun j hj => HX.out j hj (by omega)⟩, HG.out⟩
end Go.Proofs.YtlfcmlcpdpkibaaDoor

namespace Go.Proofs.YtlfcmlcpdpkibaaDoor
open Go.RowKit Lists Ents PlainR PlainN
set_option linter.unusedVariables false

theorem EvOwn.evIn {lo : Nat} {W : World} {c : Nat} {l : List Ev} (h : EvOwn lo W c l) : EvIn W (some ⟨lo, 0, none⟩) l := by
  obtain ⟨xs, hw, hx⟩ := h
  refine ⟨lo, 0, fun _ => rfl, fun j hj => ?_⟩
  obtain ⟨h0, h1, h2, b, c, h3, hb, hA⟩ := hx j hj
  have k0 := hw.cellAt (j * 4) (by omega)
  have k1 := hw.cellAt (j * 4 + 1) (by omega)
  have k2 := hw.cellAt (j * 4 + 2) (by omega)
  have k3 := hw.cellAt (j * 4 + 3) (by omega)
  rw [Nat.zero_add]
  exact ⟨k0.trans h0, k1.trans h1, k2.trans h2, _, c, k3.trans h3, hA.1⟩

set_option maxRecDepth 100000 in
set_option maxHeartbeats 2000000 in
theorem eqEvent_same (w : World) (kd : Int) (nm tx : ByteArray) (a a' : Option Addr) (n c c' : Nat) (l : List (ByteArray × ByteArray)) (hn : n = l.length) (hl : l.length ≤ 1048576) (h : EntsAt w a l) (h' : EntsAt w a' l) :
    Calls Tryd.prog 20 #[.agg #[.int .i64 kd, .string nm, .string tx, .slice a n c], .agg #[.int .i64 kd, .string nm, .string tx, .slice a' n c']] w fun e w' => e = .returned (.bool true) ∧ w.grownBy w' none := by
  subst hn
  have G1 := gnT (gnA w (.cells #[.int .i64 kd, .string nm, .string tx, .slice a l.length c] 42)) (gnA _ (.cells #[.int .i64 kd, .string nm, .string tx, .slice a' l.length c'] 42))
  have he := eqAttrS_same _ a a' _ c c' l rfl hl (h.grown G1) (h'.grown G1)
  have HE := mkHidEa he
  have HG := mkHidEa G1
  clear h h' G1 he hl
  go_enter Tryd.func20, Tryd.ntmps20
  go_wp2_with fail
  refine HE.out.mono ?_
  rintro e w1 ⟨rfl, hg⟩
  have HG1 := mkHidEa (gnT HG.out hg)
  clear hg HE
  go_wp2
  go_ret
  exact ⟨rfl, HG1.out⟩

set_option maxRecDepth 100000 in
set_option maxHeartbeats 2000000 in
theorem eqEventS_same (w : World) (a a' : Option Addr) (n c c' : Nat) (l : List Ev) (hn : n = l.length) (hl : l.length ≤ 1048576) (hla : ∀ e ∈ l, e.attrs.length ≤ 1048576) (h : EvIn w a l) (h' : EvIn w a' l) :
    Calls Tryd.prog 9 #[.slice a n c, .slice a' n c'] w fun e w' => e = .returned (.bool true) ∧ w.grownBy w' none := by
  subst hn
  have HA := mkHidEa h
  have HA' := mkHidEa h'
  have HLA := mkHidEa hla
  clear h h' hla
  go_enter Tryd.func9, Tryd.ntmps9
  go_wp2
  go_loopw [5] (fun i wr => ∃ (k : Nat), k ≤ l.length ∧ i = .int .i64 k ∧ w.grownBy wr none) (fun i _ => l.length - (intOf i).toNat)
  case atStart => exact ⟨0, Nat.zero_le _, rfl, gnR _⟩
  case round =>
    obtain ⟨k, hk, rfl, hgr⟩ := hrel
    have HG := mkHidEa hgr
    clear hgr
    by_cases hlt : k < l.length
    · obtain ⟨b, off, ha, hc⟩ := HA.out.grown HG.out
      obtain rfl := ha (by omega)
      obtain ⟨c1, c2, c3, ao, ac, c4, hEA⟩ := hc k hlt
      obtain ⟨b', off', ha', hc'⟩ := HA'.out.grown HG.out
      obtain rfl := ha' (by omega)
      obtain ⟨d1, d2, d3, ao', ac', d4, hEA'⟩ := hc' k hlt
      have hzk := HLA.out _ (List.getElem_mem hlt)
      obtain ⟨E, hE⟩ : ∃ E, l[k]'hlt = E := ⟨_, rfl⟩
      rw [hE] at c1 c2 c3 c4 d1 d2 d3 d4 hzk hEA hEA'
      have hcall := eqEvent_same (wr.drewN 1) E.kind E.name E.text ao ao' _ ac ac' E.attrs rfl hzk (hEA.grown (gnD wr 1)) (hEA'.grown (gnD wr 1))
      have HC := mkHidEa hcall
      clear hc ha hE hc' ha' HA HA' hzk hEA hEA' hcall
      go_wp2_with fail
      go_region_held3 (fun W => W.cell? ⟨b, off + k * 4, none⟩ = some (.int .i64 E.kind) ∧ W.cell? ⟨b, off + k * 4 + 1, none⟩ = some (.string E.name) ∧ W.cell? ⟨b, off + k * 4 + 2, none⟩ = some (.string E.text) ∧ W.cell? ⟨b, off + k * 4 + 3, none⟩ = some (.slice ao E.attrs.length ac) ∧ W.cell? ⟨b', off' + k * 4, none⟩ = some (.int .i64 E.kind) ∧ W.cell? ⟨b', off' + k * 4 + 1, none⟩ = some (.string E.name) ∧ W.cell? ⟨b', off' + k * 4 + 2, none⟩ = some (.string E.text) ∧ W.cell? ⟨b', off' + k * 4 + 3, none⟩ = some (.slice ao' E.attrs.length ac')) (go_keep)
        (first | (go_at_call 20; refine HC.out.mono ?_; rintro e w' ⟨rfl, hg'⟩; have hk' : ∀ k, k < wr.heap.size → w'.heap[k]? = wr.heap[k]? := (fun k hk => hg'.block k hk (by simp)); have e1 := cell_keep hk' c1; have e2 := cell_keep hk' c2; have e3 := cell_keep hk' c3; have e4 := cell_keep hk' c4; have m1 := cell_keep hk' d1; have m2 := cell_keep hk' d2; have m3 := cell_keep hk' d3; have m4 := cell_keep hk' d4))
      have HG' : Hid (w.grownBy w' none) := mkHidEa (gnT HG.out (gnT (gnD wr 1) hg'))
      clear hg' hk'
      go_wp2
      go_roundw
      case rel => exact ⟨k + 1, by omega, by go_num, HG'.out⟩
      case measure => simp [intOf]; omega
    · go_wp2
      go_ret
      exact ⟨rfl, HG.out⟩
end Go.Proofs.YtlfcmlcpdpkibaaDoor

namespace Go.Proofs.YtlfcmlcpdpkibaaDoor
open Go.ChangeShapes Go.WideShapes Go.RowKit Lists Ents Go.Deep PlainR PlainN

theorem addr_plain {W : World} {x : Addr} {i : Nat} {v : Value} (h : W.cell? (x.add i) = some v) (hi : i = 0) : x = ⟨x.block, x.off, none⟩ := by
  subst hi
  obtain ⟨b, off, spot⟩ := x
  have hspot : spot = none := by simpa [Addr.add] using World.cell?_spot h
  subst hspot
  rfl

section
variable {H : Type} {enc : TypeId × Value → H} {W : World} {fuel : Nat} {u : Value} {x : DataW H × List MemPlace}

theorem open_attrs (h : DataW.trod enc Tryd.prog W 0 (fun _ => true) true fuel 36 [u] = some x) :
    ∃ a c l, u = .slice a (List.length l) c ∧ EntsAt W a l ∧ l.length ≤ maxLen ∧ ∀ e ∈ l, e.1.size ≤ maxLen ∧ e.2.size ≤ maxLen := by
  rcases open_slice_pairs (e := 78) Tryd.underlying36 Tryd.underlying78 (by kernel_rfl) rfl rfl (by kernel_rfl) (by kernel_rfl) h with ⟨hcs, _⟩ | ⟨a, len, cap, m, n, V0, V1, D0, D1, P0, P1, hcs, _, hl, hm, hmm, _, hx⟩
  · simp only [List.cons.injEq, and_true] at hcs
    subst hcs
    exact ⟨none, 0, [], rfl, ⟨0, 0, by simp, by simp⟩, by simp, by simp⟩
  · simp only [List.cons.injEq, and_true] at hcs
    subst hcs
    have hlm : len ≤ m := by rw [hmm]; split <;> omega
    have each : ∀ i, i < len → ∃ q : ByteArray × ByteArray, V0 i = .string q.1 ∧ V1 i = .string q.2 ∧ q.1.size ≤ maxLen ∧ q.2.size ≤ maxLen := fun i hi => by
      obtain ⟨_, _, h0, h1⟩ := hx i (by omega)
      obtain ⟨s0, e0, _, z0⟩ := DataW.trod_string Tryd.underlying9 h0
      obtain ⟨s1, e1, _, z1⟩ := DataW.trod_string Tryd.underlying9 h1
      simp only [List.cons.injEq, and_true] at e0 e1
      exact ⟨(s0, s1), e0, e1, z0, z1⟩
    haveI : Inhabited (ByteArray × ByteArray) := ⟨(ByteArray.empty, ByteArray.empty)⟩
    obtain ⟨q, hq⟩ := choose_lt each
    refine ⟨some a, cap, (List.range len).map q, by simp, ?_, by simp; omega, ?_⟩
    · refine ⟨a.block, a.off, fun h0 => ?_, fun i hi => ?_⟩
      · simp only [List.length_map, List.length_range] at h0
        rw [addr_plain (hx 0 (by omega)).1 (by omega)]
      · simp only [List.length_map, List.length_range] at hi
        have ha := addr_plain (hx 0 (by omega)).1 (by omega)
        obtain ⟨c0, c1, _, _⟩ := hx i (by omega)
        rw [ha, add_plain] at c0 c1
        obtain ⟨e0, e1, _, _⟩ := hq i hi
        rw [e0] at c0
        rw [e1] at c1
        simp only [List.getElem_map, List.getElem_range]
        exact ⟨c0, by rw [Nat.add_assoc]; exact c1⟩
    · intro e he
      obtain ⟨i, hi, rfl⟩ := List.mem_map.1 he
      exact (hq i (List.mem_range.1 hi)).2.2

set_option maxRecDepth 100000 in
theorem open_evs (h : DataW.trod enc Tryd.prog W 0 (fun _ => true) true fuel 22 [u] = some x) :
    ∃ a c l, u = .slice a (List.length l) c ∧ EvIn W a l ∧ l.length ≤ maxLen ∧ ∀ e ∈ l, EvMx e := by
  have ce : Tryd.prog.cellsOf 38 = 4 := by kernel_rfl
  have cs1 : Tryd.prog.cellsOf 9 = 1 := by kernel_rfl
  have ci1 : Tryd.prog.cellsOf 2 = 1 := by kernel_rfl
  have ca1 : Tryd.prog.cellsOf 36 = 1 := by kernel_rfl
  rcases open_slice (e := 38) Tryd.underlying22 h with ⟨hcs, _⟩ | ⟨a, len, cap, m, n, D, Pl, hcs, _, hl, hm, hmm, _, hx⟩
  · simp only [List.cons.injEq, and_true] at hcs
    subst hcs
    exact ⟨none, 0, [], rfl, ⟨0, 0, by simp, by simp⟩, by simp, by simp⟩
  · simp only [List.cons.injEq, and_true] at hcs
    subst hcs
    have hlm : len ≤ m := by rw [hmm]; split <;> omega
    have each : ∀ i, i < len → ∃ q : Ev, (W.cell? (a.add (i * 4)) = some (.int .i64 q.kind) ∧ W.cell? (a.add (i * 4 + 1)) = some (.string q.name) ∧ W.cell? (a.add (i * 4 + 2)) = some (.string q.text) ∧ ∃ ao ac, W.cell? (a.add (i * 4 + 3)) = some (.slice ao q.attrs.length ac) ∧ EntsAt W ao q.attrs) ∧ EvMx q := fun i hi => by
      obtain ⟨cs', h1, h2⟩ := hx i (by omega)
      rw [ce] at h1
      obtain ⟨_, hlen, hcell⟩ := World.cells?_some h1
      obtain ⟨xs, k, hk, hxy, _, hxl, hf⟩ := DataW.trod_struct Tryd.underlying38 h2
      match xs, hxl, cs', hlen with
      | [y0, y1, y2, y3], _, [v0, v1, v2, v3], _ =>
        have g0 := hf 0 _ rfl
        have g1 := hf 1 _ rfl
        have g2 := hf 2 _ rfl
        have g3 := hf 3 _ rfl
        simp [cs1, ci1, ca1] at g0 g1 g2 g3
        obtain ⟨s0, e0, _, _⟩ := DataW.trod_int Tryd.underlying2 g0
        obtain ⟨s1, e1, _, z1⟩ := DataW.trod_string Tryd.underlying9 g1
        obtain ⟨s2, e2, _, z2⟩ := DataW.trod_string Tryd.underlying9 g2
        obtain ⟨a3, c3', l3, e3, hA, hl1, hl2⟩ := open_attrs g3
        simp only [List.cons.injEq, and_true] at e0 e1 e2
        have c0 := hcell 0 (by omega)
        have c1 := hcell 1 (by omega)
        have c2 := hcell 2 (by omega)
        have c3 := hcell 3 (by omega)
        rw [add_add] at c0 c1 c2 c3
        exact ⟨⟨s0, s1, s2, l3⟩, ⟨by simpa [e0] using c0, by simpa [e1] using c1, by simpa [e2] using c2, a3, c3', by simpa [e3] using c3, hA⟩, z1, z2, hl1, hl2⟩
    haveI : Inhabited Ev := ⟨⟨0, ByteArray.empty, ByteArray.empty, []⟩⟩
    obtain ⟨q, hq⟩ := choose_lt each
    refine ⟨some a, cap, (List.range len).map q, by simp, ?_, by simp; omega, ?_⟩
    · refine ⟨a.block, a.off, fun h0 => ?_, fun i hi => ?_⟩
      · simp only [List.length_map, List.length_range] at h0
        rw [addr_plain (hq 0 (by omega)).1.1 (by omega)]
      · simp only [List.length_map, List.length_range] at hi
        have ha := addr_plain (hq 0 (by omega)).1.1 (by omega)
        obtain ⟨⟨c0, c1, c2, ao, ac, c3, hA⟩, _⟩ := hq i hi
        rw [ha, add_plain] at c0 c1 c2 c3
        simp only [List.getElem_map, List.getElem_range]
        simp only [Nat.add_assoc] at c1 c2 c3 ⊢
        exact ⟨c0, c1, c2, ao, ac, c3, hA⟩
    · intro e he
      obtain ⟨i, hi, rfl⟩ := List.mem_map.1 he
      exact (hq i (List.mem_range.1 hi)).2
end
end Go.Proofs.YtlfcmlcpdpkibaaDoor
