/- What a proof's frame tells of a head that came in: its two lists, as they lie in memory. -/
import Derived.Test.YtpkhdfddbcpciaaDtdArgs
import Derived.Deep.SlicePairs
import Derived.OpenShut
import Derived.WideShapes
namespace Go.Proofs.Ytpkhdfddbcpciaa
open Go.ChangeShapes Go.WideShapes Go.RowKit Lists Ents Go.Deep

theorem addr_plain {W : World} {x : Addr} {i : Nat} {v : Value} (h : W.cell? (x.add i) = some v) (hi : i = 0) : x = ⟨x.block, x.off, none⟩ := by
  subst hi
  obtain ⟨b, off, spot⟩ := x
  have hspot : spot = none := by simpa [Addr.add] using World.cell?_spot h
  subst hspot
  rfl

section
variable {H : Type} {enc : TypeId × Value → H} {W : World} {fuel : Nat} {u : Value} {x : DataW H × List MemPlace}

theorem open_ents (h : DataW.trod enc Try.prog W 0 (fun _ => true) true fuel 34 [u] = some x) :
    ∃ a c l, u = .slice a (List.length l) c ∧ EntsAt W a l ∧ l.length ≤ maxLen ∧ ∀ e ∈ l, e.1.size ≤ maxLen ∧ e.2.size ≤ maxLen := by
  rcases open_slice_pairs (e := 75) Try.underlying34 Try.underlying75 (by kernel_rfl) rfl rfl (by kernel_rfl) (by kernel_rfl) h with ⟨hcs, _⟩ | ⟨a, len, cap, m, n, V0, V1, D0, D1, P0, P1, hcs, _, hl, hm, hmm, _, hx⟩
  · simp only [List.cons.injEq, and_true] at hcs
    subst hcs
    exact ⟨none, 0, [], rfl, ⟨0, 0, by simp, by simp⟩, by simp, by simp⟩
  · simp only [List.cons.injEq, and_true] at hcs
    subst hcs
    have hlm : len ≤ m := by rw [hmm]; split <;> omega
    have each : ∀ i, i < len → ∃ q : ByteArray × ByteArray, V0 i = .string q.1 ∧ V1 i = .string q.2 ∧ q.1.size ≤ maxLen ∧ q.2.size ≤ maxLen := fun i hi => by
      obtain ⟨_, _, h0, h1⟩ := hx i (by omega)
      obtain ⟨s0, e0, _, z0⟩ := DataW.trod_string Try.underlying9 h0
      obtain ⟨s1, e1, _, z1⟩ := DataW.trod_string Try.underlying9 h1
      simp only [List.cons.injEq, and_true] at e0 e1
      exact ⟨(s0, s1), e0, e1, z0, z1⟩
    haveI : Inhabited (ByteArray × ByteArray) := ⟨(ByteArray.empty, ByteArray.empty)⟩
    obtain ⟨q, hq⟩ := choose_lt each
    refine ⟨some a, cap, (List.range len).map q, by simp, ?_, by simp; omega, ?_⟩
    · refine ⟨a.block, a.off, fun h0 => ?_, fun i hi => ?_⟩
      · simp only [List.length_map, List.length_range] at h0
        rw [addr_plain (hx 0 (by omega)).1 (by omega)]
      · simp only [List.length_map, List.length_range] at hi
        have ha := addr_plain (hx 0 (by omega)).1 (by omega)
        obtain ⟨c0, c1, _, _⟩ := hx i (by omega)
        rw [ha, add_plain] at c0 c1
        obtain ⟨e0, e1, _, _⟩ := hq i hi
        rw [e0] at c0
        rw [e1] at c1
        simp only [List.getElem_map, List.getElem_range]
        exact ⟨c0, by rw [Nat.add_assoc]; exact c1⟩
    · intro e he
      obtain ⟨i, hi, rfl⟩ := List.mem_map.1 he
      exact (hq i (List.mem_range.1 hi)).2.2

theorem open_atts (h : DataW.trod enc Try.prog W 0 (fun _ => true) true fuel 35 [u] = some x) :
    ∃ a c l, u = .slice a (List.length l) c ∧ AttsAt W a l ∧ l.length ≤ maxLen ∧ ∀ e ∈ l, e.of.size ≤ maxLen ∧ e.nm.size ≤ maxLen ∧ e.val.size ≤ maxLen := by
  have ce : Try.prog.cellsOf 77 = 5 := by kernel_rfl
  have cs1 : Try.prog.cellsOf 9 = 1 := by kernel_rfl
  have cb1 : Try.prog.cellsOf 4 = 1 := by kernel_rfl
  rcases open_slice (e := 77) Try.underlying35 h with ⟨hcs, _⟩ | ⟨a, len, cap, m, n, D, Pl, hcs, _, hl, hm, hmm, _, hx⟩
  · simp only [List.cons.injEq, and_true] at hcs
    subst hcs
    exact ⟨none, 0, [], rfl, ⟨0, 0, by simp, by simp⟩, by simp, by simp⟩
  · simp only [List.cons.injEq, and_true] at hcs
    subst hcs
    have hlm : len ≤ m := by rw [hmm]; split <;> omega
    have each : ∀ i, i < len → ∃ q : At5, (W.cell? (a.add (i * 5)) = some (.string q.of) ∧ W.cell? (a.add (i * 5 + 1)) = some (.string q.nm) ∧ W.cell? (a.add (i * 5 + 2)) = some (.bool q.words) ∧ W.cell? (a.add (i * 5 + 3)) = some (.bool q.has) ∧ W.cell? (a.add (i * 5 + 4)) = some (.string q.val)) ∧
        q.of.size ≤ maxLen ∧ q.nm.size ≤ maxLen ∧ q.val.size ≤ maxLen := fun i hi => by
      obtain ⟨cs', h1, h2⟩ := hx i (by omega)
      rw [ce] at h1
      obtain ⟨_, hlen, hcell⟩ := World.cells?_some h1
      obtain ⟨xs, k, hk, hxy, _, hxl, hf⟩ := DataW.trod_struct Try.underlying77 h2
      match xs, hxl, cs', hlen with
      | [y0, y1, y2, y3, y4], _, [v0, v1, v2, v3, v4], _ =>
        have g0 := hf 0 _ rfl
        have g1 := hf 1 _ rfl
        have g2 := hf 2 _ rfl
        have g3 := hf 3 _ rfl
        have g4 := hf 4 _ rfl
        simp [cs1, cb1] at g0 g1 g2 g3 g4
        obtain ⟨s0, e0, _, z0⟩ := DataW.trod_string Try.underlying9 g0
        obtain ⟨s1, e1, _, z1⟩ := DataW.trod_string Try.underlying9 g1
        obtain ⟨b2, e2, _⟩ := DataW.trod_bool Try.underlying4 g2
        obtain ⟨b3, e3, _⟩ := DataW.trod_bool Try.underlying4 g3
        obtain ⟨s4, e4, _, z4⟩ := DataW.trod_string Try.underlying9 g4
        simp only [List.cons.injEq, and_true] at e0 e1 e2 e3 e4
        have c0 := hcell 0 (by omega)
        have c1 := hcell 1 (by omega)
        have c2 := hcell 2 (by omega)
        have c3 := hcell 3 (by omega)
        have c4 := hcell 4 (by omega)
        rw [add_add] at c0 c1 c2 c3 c4
        exact ⟨⟨s0, s1, b2, b3, s4⟩, ⟨by simpa [e0] using c0, by simpa [e1] using c1, by simpa [e2] using c2, by simpa [e3] using c3, by simpa [e4] using c4⟩, z0, z1, z4⟩
    haveI : Inhabited At5 := ⟨zAtt⟩
    obtain ⟨q, hq⟩ := choose_lt each
    refine ⟨some a, cap, (List.range len).map q, by simp, ?_, by simp; omega, ?_⟩
    · refine ⟨a.block, a.off, fun h0 => ?_, fun i hi => ?_⟩
      · simp only [List.length_map, List.length_range] at h0
        rw [addr_plain (hq 0 (by omega)).1.1 (by omega)]
      · simp only [List.length_map, List.length_range] at hi
        have ha := addr_plain (hq 0 (by omega)).1.1 (by omega)
        obtain ⟨⟨c0, c1, c2, c3, c4⟩, _⟩ := hq i hi
        rw [ha, add_plain] at c0 c1 c2 c3 c4
        simp only [List.getElem_map, List.getElem_range]
        simp only [Nat.add_assoc] at c1 c2 c3 c4 ⊢
        exact ⟨c0, c1, c2, c3, c4⟩
    · intro e he
      obtain ⟨i, hi, rfl⟩ := List.mem_map.1 he
      exact (hq i (List.mem_range.1 hi)).2
end

theorem open_dtd {H : Type} {enc : TypeId × Value → H} {W : World} {base : Nat} {v : Value} {d : DataW H} {p : List MemPlace} (hok : Value.okWide Try.prog W .any base 37 v) (h : DataW.Trod enc Try.prog W 0 (fun _ => true) true 37 v d p) :
    ∃ l m, DtdAt W v l m ∧ SizesL l m maxLen := by
  obtain ⟨cs, rfl, hsz⟩ := okWide_struct Try.underlying37 hok
  have c2 : Try.prog.cellsOf 37 = 2 := by kernel_rfl
  have cE : Try.prog.cellsOf 34 = 1 := by kernel_rfl
  have cA : Try.prog.cellsOf 35 = 1 := by kernel_rfl
  rw [c2] at hsz
  obtain ⟨fuel, hf⟩ := h
  obtain ⟨xs, k, hk, hxy, _, hxl, hff⟩ := DataW.trod_struct Try.underlying37 hf
  obtain ⟨l0⟩ := cs
  simp only [List.size_toArray] at hsz
  match xs, hxl, l0, hsz with
  | [y0, y1], _, [v0, v1], _ =>
    have g0 := hff 0 _ rfl
    have g1 := hff 1 _ rfl
    simp [Value.cells, cE, cA] at g0 g1
    obtain ⟨a, c, l, rfl, hl, hl2, hl3⟩ := open_ents g0
    obtain ⟨a', c', m, rfl, hm, hm2, hm3⟩ := open_atts g1
    exact ⟨l, m, ⟨a, c, a', c', rfl, hl, hm⟩, ⟨hl2, hl3⟩, hm2, hm3⟩
end Go.Proofs.Ytpkhdfddbcpciaa
