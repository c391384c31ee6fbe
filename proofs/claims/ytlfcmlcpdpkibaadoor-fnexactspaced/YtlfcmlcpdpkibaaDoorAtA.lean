/- Lists of entities and of attributes that a head tells, in memory, and the first of a name. Nothing of the program is named here. -/
/- The laws' helpers over entities: their sizes, a copy, are two alike? -/
/- The laws' helpers over lists of entities: a copy, are two alike? -/
import Derived.Test.YtlfcmlcpdpkibaaDoorPlA
import Derived.Below
import Derived.Test.YtlfcmlcpdpkibaaDoorProg
import Derived.WalkKit
import Derived.WalkSmall
import Derived.Deep.OwnRows
import Derived.Deep.QuietTactic
import Derived.BigQuiet
import Derived.Deep.RegionHeld3
import Derived.Laws.BitsLemmas
namespace Go.Proofs.YtlfcmlcpdpkibaaDoor.Ents
open Go.RowKit Lists

def EntsAt (w : World) (a : Option Addr) (l : List (ByteArray × ByteArray)) : Prop :=
  ∃ b off, (0 < l.length → a = some ⟨b, off, none⟩) ∧ ∀ i (h : i < l.length), w.cell? ⟨b, off + i * 2, none⟩ = some (.string (l[i]'h).1) ∧ w.cell? ⟨b, off + i * 2 + 1, none⟩ = some (.string (l[i]'h).2)
structure At5 where
  of : ByteArray
  nm : ByteArray
  words : Bool
  has : Bool
  val : ByteArray
def AttsAt (w : World) (a : Option Addr) (l : List At5) : Prop :=
  ∃ b off, (0 < l.length → a = some ⟨b, off, none⟩) ∧ ∀ i (h : i < l.length), w.cell? ⟨b, off + i * 5, none⟩ = some (.string (l[i]'h).of) ∧ w.cell? ⟨b, off + i * 5 + 1, none⟩ = some (.string (l[i]'h).nm) ∧
    w.cell? ⟨b, off + i * 5 + 2, none⟩ = some (.bool (l[i]'h).words) ∧ w.cell? ⟨b, off + i * 5 + 3, none⟩ = some (.bool (l[i]'h).has) ∧ w.cell? ⟨b, off + i * 5 + 4, none⟩ = some (.string (l[i]'h).val)
theorem cell_keep {w w' : World} (h : ∀ k, k < w.heap.size → w'.heap[k]? = w.heap[k]?) {b o : Nat} {v : Value} (hc : w.cell? ⟨b, o, none⟩ = some v) : w'.cell? ⟨b, o, none⟩ = some v := by
  have := h b (block_lt hc)
  rw [World.cell?_of_block (a := ⟨b, o, none⟩) this]; exact hc
theorem EntsAt.keep {w w' : World} {a : Option Addr} {l : List (ByteArray × ByteArray)} (h : EntsAt w a l) (hk : ∀ k, k < w.heap.size → w'.heap[k]? = w.heap[k]?) : EntsAt w' a l := by
  obtain ⟨b, off, h1, h2⟩ := h
  exact ⟨b, off, h1, fun i hi => ⟨cell_keep hk (h2 i hi).1, cell_keep hk (h2 i hi).2⟩⟩
theorem AttsAt.keep {w w' : World} {a : Option Addr} {l : List At5} (h : AttsAt w a l) (hk : ∀ k, k < w.heap.size → w'.heap[k]? = w.heap[k]?) : AttsAt w' a l := by
  obtain ⟨b, off, h1, h2⟩ := h
  exact ⟨b, off, h1, fun i hi => ⟨cell_keep hk (h2 i hi).1, cell_keep hk (h2 i hi).2.1, cell_keep hk (h2 i hi).2.2.1, cell_keep hk (h2 i hi).2.2.2.1, cell_keep hk (h2 i hi).2.2.2.2⟩⟩
theorem EntsAt.grown {w w' : World} {a : Option Addr} {l : List (ByteArray × ByteArray)} (h : EntsAt w a l) (hg : w.grownBy w' none) : EntsAt w' a l := h.keep fun k hk => hg.block k hk (by simp)
theorem AttsAt.grown {w w' : World} {a : Option Addr} {l : List At5} (h : AttsAt w a l) (hg : w.grownBy w' none) : AttsAt w' a l := h.keep fun k hk => hg.block k hk (by simp)
theorem EntsAt.below {w w' : World} {a : Option Addr} {l : List (ByteArray × ByteArray)} (h : EntsAt w a l) (hg : Below w.heap.size w w') : EntsAt w' a l := h.keep fun k hk => hg.block k hk
theorem AttsAt.below {w w' : World} {a : Option Addr} {l : List At5} (h : AttsAt w a l) (hg : Below w.heap.size w w') : AttsAt w' a l := h.keep fun k hk => hg.block k hk
theorem grown_below {w w' : World} (h : w.grownBy w' none) : Below w.heap.size w w' := ⟨h.os, h.tape, h.output, h.size, fun k hk => h.block k hk (by simp)⟩
theorem below_grown {w w' : World} (h : Below w.heap.size w w') : w.grownBy w' none := ⟨h.os, h.tape, h.output, h.size, fun k hk _ => h.block k hk⟩

/-- The first of a list that a test takes, or the zero one. -/
theorem find_hit {α : Type} {l : List α} {p : α → Bool} {k : Nat} (hk : k < l.length) (h0 : (l.take k).find? p = none) (h1 : p (l[k]'hk) = true) : l.find? p = some (l[k]'hk) := by
  have e : l = l.take k ++ (l[k]'hk) :: l.drop (k + 1) := by simp
  conv => lhs; rw [e]
  rw [List.find?_append, h0, List.find?_cons_of_pos h1]
  rfl
theorem find_on {α : Type} {l : List α} {p : α → Bool} {k : Nat} (hk : k < l.length) (h0 : (l.take k).find? p = none) (h1 : p (l[k]'hk) = false) : (l.take (k + 1)).find? p = none := by
  rw [List.take_succ_eq_append_getElem hk, List.find?_append, h0]
  simp [h1]
theorem find_end {α : Type} {l : List α} {p : α → Bool} {k : Nat} (hk : l.length ≤ k) (h0 : (l.take k).find? p = none) : l.find? p = none := by
  rw [List.take_of_length_le hk] at h0; exact h0
def isEnt (n : ByteArray) (e : ByteArray × ByteArray) : Bool := e.1.toList == n.toList
def isAtt (o n : ByteArray) (e : At5) : Bool := (e.of.toList == o.toList) && (e.nm.toList == n.toList)
def zAtt : At5 := ⟨⟨#[]⟩, ⟨#[]⟩, false, false, ⟨#[]⟩⟩
def entR (l : List (ByteArray × ByteArray)) (n : ByteArray) : ByteArray × ByteArray := if 4000 < n.size then (⟨#[]⟩, ⟨#[]⟩) else (l.find? (isEnt n)).getD (⟨#[]⟩, ⟨#[]⟩)
def attR (l : List At5) (o n : ByteArray) : At5 := if 4000 < o.size ∨ 4000 < n.size then zAtt else (l.find? (isAtt o n)).getD zAtt
theorem ent_long {l : List (ByteArray × ByteArray)} {n : ByteArray} (h : 4000 < n.size) : entR l n = (⟨#[]⟩, ⟨#[]⟩) := by unfold entR; rw [if_pos h]
theorem ent_hit {l : List (ByteArray × ByteArray)} {n : ByteArray} {k : Nat} (h : ¬ 4000 < n.size) (hk : k < l.length) (h0 : (l.take k).find? (isEnt n) = none) (h1 : isEnt n (l[k]'hk) = true) : entR l n = l[k]'hk := by
  unfold entR; rw [if_neg h, find_hit hk h0 h1]; rfl
theorem ent_none {l : List (ByteArray × ByteArray)} {n : ByteArray} {k : Nat} (h : ¬ 4000 < n.size) (hk : l.length ≤ k) (h0 : (l.take k).find? (isEnt n) = none) : entR l n = (⟨#[]⟩, ⟨#[]⟩) := by
  unfold entR; rw [if_neg h, find_end hk h0]; rfl
theorem att_long {l : List At5} {o n : ByteArray} (h : 4000 < o.size ∨ 4000 < n.size) : attR l o n = zAtt := by unfold attR; rw [if_pos h]
theorem att_hit {l : List At5} {o n : ByteArray} {k : Nat} (h : ¬ (4000 < o.size ∨ 4000 < n.size)) (hk : k < l.length) (h0 : (l.take k).find? (isAtt o n) = none) (h1 : isAtt o n (l[k]'hk) = true) : attR l o n = l[k]'hk := by
  unfold attR; rw [if_neg h, find_hit hk h0 h1]; rfl
theorem att_none {l : List At5} {o n : ByteArray} {k : Nat} (h : ¬ (4000 < o.size ∨ 4000 < n.size)) (hk : l.length ≤ k) (h0 : (l.take k).find? (isAtt o n) = none) : attR l o n = zAtt := by
  unfold attR; rw [if_neg h, find_end hk h0]; rfl
end Go.Proofs.YtlfcmlcpdpkibaaDoor.Ents

namespace Go.Proofs.YtlfcmlcpdpkibaaDoor
open Go.RowKit Lists Ents

theorem mkHidEa {p : Prop} (h : p) : Hid p := h
theorem wrapBig {z : Int} (h0 : -9223372036854775808 ≤ z) (h1 : z ≤ 9223372036854775807) : IntKind.i64.wrap z = z := by
  rw [IntKind.wrap_i64]; omega
theorem gnT {a b c : World} (h : a.grownBy b none) (k : b.grownBy c none) : a.grownBy c none :=
  ⟨k.os.trans h.os, k.tape.trans h.tape, k.output.trans h.output, Nat.le_trans h.size k.size, fun i hi hr => (k.block i (Nat.lt_of_lt_of_le hi h.size) hr).trans (h.block i hi hr)⟩
theorem gnA (w : World) (o : Obj) : w.grownBy (w.alloc o) none := ⟨rfl, rfl, rfl, by simp, fun _ hk _ => heap_alloc_old w o hk⟩
theorem gnR (w : World) : w.grownBy w none := ⟨rfl, rfl, rfl, Nat.le_refl _, fun _ _ _ => rfl⟩
theorem gnD (w : World) (n : Nat) : w.grownBy (w.drewN n) none := ⟨rfl, rfl, rfl, Nat.le_refl _, fun _ _ _ => rfl⟩

set_option maxHeartbeats 1000000 in
theorem szAttr_any (n t : ByteArray) (L : Int) (w : World) (h0 : 0 ≤ L) (h1 : L ≤ 1048576) (hn : n.size ≤ maxLen) (ht : t.size ≤ maxLen) :
    Calls Tryd.prog 36 #[.agg #[.string n, .string t], .int .i64 L] w fun e w' => (∃ z, e = .returned (.int .i64 z) ∧ -1 ≤ z ∧ z ≤ L ∧ (0 ≤ z → n.size ≤ 1048576 ∧ t.size ≤ 1048576)) ∧ w.grownBy w' none := by
  unfold maxLen at hn ht
  have w1 : IntKind.i64.wrap (L - (n.size : Int)) = L - (n.size : Int) := wrapBig (by omega) (by omega)
  by_cases c1 : L - (n.size : Int) < 0
  · go_enter Tryd.func36, Tryd.ntmps36
    go_wp2
    go_ret
    exact ⟨⟨-1, rfl, by omega, by omega, by omega⟩, gnA _ _⟩
  have w2 : IntKind.i64.wrap (L - (n.size : Int) - (t.size : Int)) = L - (n.size : Int) - (t.size : Int) := wrapBig (by omega) (by omega)
  by_cases c2 : L - (n.size : Int) - (t.size : Int) < 0
  · go_enter Tryd.func36, Tryd.ntmps36
    go_wp2
    go_ret
    exact ⟨⟨-1, rfl, by omega, by omega, by omega⟩, gnA _ _⟩
  · go_enter Tryd.func36, Tryd.ntmps36
    go_wp2
    go_ret
    exact ⟨⟨L - (n.size : Int) - (t.size : Int), rfl, by omega, by omega, by omega⟩, gnA _ _⟩

set_option maxHeartbeats 2000000 in
theorem szAttrS_any (w : World) (a : Option Addr) (n c : Nat) (l : List (ByteArray × ByteArray)) (L : Int) (hn : n = l.length) (hl : l.length ≤ maxLen) (h0 : 0 ≤ L) (h1 : L ≤ 1048576) (hz : ∀ e ∈ l, e.1.size ≤ maxLen ∧ e.2.size ≤ maxLen) (h : EntsAt w a l) :
    Calls Tryd.prog 25 #[.slice a n c, .int .i64 L] w fun e w' => (∃ z, e = .returned (.int .i64 z) ∧ -1 ≤ z ∧ z ≤ L ∧ (0 ≤ z → l.length ≤ 1048576 ∧ ∀ e ∈ l, e.1.size ≤ 1048576 ∧ e.2.size ≤ 1048576)) ∧ w.grownBy w' none := by
  subst hn
  unfold maxLen at hl
  have w1 : IntKind.i64.wrap (L - (l.length : Int)) = L - (l.length : Int) := wrapBig (by omega) (by omega)
  by_cases c1 : L - (l.length : Int) < 0
  · go_enter Tryd.func25, Tryd.ntmps25
    go_wp2
    go_ret
    exact ⟨⟨-1, rfl, by omega, by omega, by omega⟩, gnR _⟩
  have HA := mkHidEa h
  have HZ := mkHidEa hz
  clear h hz
  go_enter Tryd.func25, Tryd.ntmps25
  go_wp2
  go_loopw [5, 1] (fun i lf wr => ∃ (k : Nat) (z : Int), k ≤ l.length ∧ i = .int .i64 k ∧ lf = .int .i64 z ∧ 0 ≤ z ∧ z ≤ L ∧ (∀ j (hj : j < l.length), j < k → (l[j]'hj).1.size ≤ 1048576 ∧ (l[j]'hj).2.size ≤ 1048576) ∧ w.grownBy wr none) (fun i _ _ => l.length - (intOf i).toNat)
  case atStart => exact ⟨0, _, Nat.zero_le _, rfl, rfl, by omega, by omega, fun j _ hj => absurd hj (by omega), gnR _⟩
  case round =>
    obtain ⟨k, z, hk, rfl, rfl, z0, z1, hsz, hgr⟩ := hrel
    have HS := mkHidEa hsz
    have HG := mkHidEa hgr
    clear hsz hgr
    by_cases hlt : k < l.length
    · obtain ⟨b, off, ha, hc⟩ := HA.out.grown HG.out
      obtain rfl := ha (by omega)
      obtain ⟨c1', c2'⟩ := hc k hlt
      have hzk := HZ.out _ (List.getElem_mem hlt)
      obtain ⟨E, hE⟩ : ∃ E, l[k]'hlt = E := ⟨_, rfl⟩
      rw [hE] at c1' c2' hzk
      have HE := mkHidEa hE
      have hcall := szAttr_any E.1 E.2 z wr z0 (by omega) hzk.1 hzk.2
      clear hc ha hE
      go_wp2_with fail
      refine hcall.mono ?_
      rintro e w' ⟨⟨z', rfl, y0, y1, y2⟩, hg'⟩
      have HG' := mkHidEa (gnT HG.out hg')
      clear hcall hg' c1' c2'
      by_cases hneg : z' < 0
      · go_wp2
        go_ret
        exact ⟨⟨-1, rfl, by omega, by omega, by omega⟩, HG'.out⟩
      · have HY := mkHidEa (y2 (by omega))
        clear y2
        go_wp2
        go_roundw
        case rel =>
          refine ⟨k + 1, z', by omega, by go_num, rfl, by omega, by omega, fun j hj hjk => ?_, HG'.out⟩
          by_cases hjk' : j = k
          · subst hjk'; rw [HE.out]; exact HY.out
          · exact HS.out j hj (by omega)
        case measure => simp [intOf]; omega
    · go_wp2
      go_ret
      refine ⟨⟨z, rfl, by omega, by omega, fun _ => ⟨by omega, fun e he => ?_⟩⟩, HG.out⟩
      obtain ⟨j, hj, rfl⟩ := List.getElem_of_mem he
      exact HS.out j hj (by omega)

theorem toAttr_any (n t : ByteArray) (w : World) :
    Calls Tryd.prog 41 #[.agg #[.string n, .string t]] w fun e w' => e = .returned (.agg #[.string n, .string t]) ∧ w.grownBy w' none := by
  go_enter Tryd.func41, Tryd.ntmps41
  go_wp2
  refine bodyPost_ret (v := .agg #[.string n, .string t]) (by simp [results, Tryd.results41, go_sem]) rfl ⟨rfl, ?_⟩
  exact gnT (gnT (gnA _ _) (gnA _ _)) (gnA _ _)

theorem eqAttr_any (n t : ByteArray) (w : World) :
    Calls Tryd.prog 51 #[.agg #[.string n, .string t], .agg #[.string n, .string t]] w fun e w' => e = .returned (.bool true) ∧ w.grownBy w' none := by
  go_enter Tryd.func51, Tryd.ntmps51
  go_wp2
  go_ret
  exact ⟨rfl, gnT (gnA _ _) (gnA _ _)⟩
end Go.Proofs.YtlfcmlcpdpkibaaDoor

namespace Go.Proofs.YtlfcmlcpdpkibaaDoor
open Go.RowKit Lists Ents

theorem infoEnt : (Tryd.prog.info? 62).map (fun i => (i.zero, i.size, i.bytes)) = some (some (.agg #[.string ⟨#[]⟩, .string ⟨#[]⟩]), 2, 32) := by kernel_rfl
theorem run_make_wide {P : Program} (t e : TypeId) (z : Value) (size bytes : Nat) (ht : P.underlying t = some (.slice e)) (hinfo : (P.info? e).map (fun i => (i.zero, i.size, i.bytes)) = some (some z, size, bytes))
    (kl kc : IntKind) (n : Nat) (hbytes : bytes * n ≤ 281474976710656) (h63 : n ≤ maxLen) (w : World) :
    ∃ cs : Array Value, (Instr.makeSlice t (.int kl (n : Int)) (.int kc (n : Int))).run P w = .ok (.slice (some ⟨w.heap.size, 0, none⟩) n n) (w.alloc (.cells cs e)) ∧ cs.size = n * size := by
  obtain ⟨i, hi, hzz⟩ := Option.map_eq_some_iff.1 hinfo
  simp only [Prod.mk.injEq] at hzz
  obtain ⟨hz, hs, hb⟩ := hzz
  unfold maxLen at h63
  have hb' : (i.bytes : Int) * (n : Int) ≤ 281474976710656 := by
    rw [hb]
    have h : ((bytes * n : Nat) : Int) ≤ 281474976710656 := by omega
    rwa [Int.natCast_mul] at h
  have hr := run_make (P := P) w t e i z ht hi hz kl kc n n (by omega) (Int.le_refl _) hb' (by omega)
  simp only [Int.toNat_natCast] at hr
  exact ⟨_, hr, by rw [size_madeCells, hs]⟩
theorem ents_of_row {w : World} {g n c : Nat} {e : TypeId} {B : Nat} {xs : List Value} {l : List (ByteArray × ByteArray)} (h : w.ownsRow B e 2 (.slice (some ⟨g, 0, none⟩) n c) n xs) (hn : n = l.length)
    (hx : ∀ j (hj : j < l.length), xs[j * 2]? = some (.string (l[j]'hj).1) ∧ xs[j * 2 + 1]? = some (.string (l[j]'hj).2)) : EntsAt w (some ⟨g, 0, none⟩) l := by
  refine ⟨g, 0, fun _ => rfl, fun j hj => ?_⟩
  have h1 := h.cellAt (j * 2) (by omega)
  have h2 := h.cellAt (j * 2 + 1) (by omega)
  rw [Nat.zero_add]
  exact ⟨by rw [h1]; exact (hx j hj).1, by rw [h2]; exact (hx j hj).2⟩

/-- A row of attributes of our own, that may be written. -/
def AtrOwn (W : World) (b c : Nat) (l : List (ByteArray × ByteArray)) : Prop := EntsAt W (some ⟨b, 0, none⟩) l ∧ ∃ B ys, W.ownsRow B 62 2 (.slice (some ⟨b, 0, none⟩) l.length c) l.length ys
theorem own_cells {w : World} {base : Nat} {e : TypeId} {size : Nat} {g n cap : Nat} {xs : List Value} (h : w.ownsRow base e size (.slice (some ⟨g, 0, none⟩) n cap) n xs) : ∃ cs, w.heap[g]? = some (.cells cs e) := by
  rcases h.2 with ⟨h0, _⟩ | ⟨g', cap', cur, hv, hb, hg, _⟩
  · cases h0
  · cases hv; exact ⟨_, hg⟩

set_option maxHeartbeats 2000000 in
theorem toAttrS_any (w : World) (a : Option Addr) (n c : Nat) (l : List (ByteArray × ByteArray)) (hn : n = l.length) (hl : l.length ≤ 1048576) (h : EntsAt w a l) :
    Calls Tryd.prog 28 #[.slice a n c] w fun e w' => (∃ b c', e = .returned (.slice (some ⟨b, 0, none⟩) l.length c') ∧ w.heap.size ≤ b ∧ AtrOwn w' b c' l) ∧ w.grownBy w' none := by
  subst hn
  obtain ⟨cs, hmk, hcs⟩ := run_make_wide (P := Tryd.prog) 40 62 _ 2 32 Tryd.underlying40 infoEnt .i64 .i64 l.length (by omega) (by unfold maxLen; omega) w
  have HA := mkHidEa h
  have HO := mkHidEa (World.ownsRow_lit (base := w.heap.size) (e := 62) (size := 2) w cs l.length (Nat.le_refl _) (by unfold maxLen; omega) hcs)
  clear h
  go_enter Tryd.func28, Tryd.ntmps28
  go_wp2
  go_loopw [4] (fun i wr => ∃ (k : Nat) (xs : List Value), k ≤ l.length ∧ i = .int .i64 k ∧ wr.ownsRow w.heap.size 62 2 (.slice (some ⟨w.heap.size, 0, none⟩) l.length l.length) l.length xs ∧ w.grownBy wr none ∧ ∀ j (hj : j < l.length), j < k → xs[j * 2]? = some (.string (l[j]'hj).1) ∧ xs[j * 2 + 1]? = some (.string (l[j]'hj).2)) (fun i _ => l.length - (intOf i).toNat)
  case atStart => exact ⟨0, _, Nat.zero_le _, rfl, HO.out, gnA _ _, fun j _ hj => absurd hj (by omega)⟩
  case round =>
    obtain ⟨k, xs, hk, rfl, hown, hgr, hxs⟩ := hrel
    have HX := mkHidEa hxs
    have HG := mkHidEa hgr
    have HW := mkHidEa hown
    clear hxs hgr hown HO hmk
    by_cases hlt : k < l.length
    · obtain ⟨b, off, ha, hc⟩ := HA.out.grown HG.out
      obtain rfl := ha (by omega)
      obtain ⟨c1, c2⟩ := hc k hlt
      obtain ⟨E, hE⟩ : ∃ E, l[k]'hlt = E := ⟨_, rfl⟩
      rw [hE] at c1 c2
      have HE := mkHidEa hE
      have hcall := toAttr_any E.1 E.2 wr
      clear hc ha hE
      go_wp2_with fail
      refine hcall.mono ?_
      rintro e w' ⟨rfl, hg'⟩
      have HW' := mkHidEa (HW.out.kept hg' (.inr (by simp [Value.ownBlock])))
      have HG' := mkHidEa (gnT HG.out hg')
      clear hcall hg' c1 c2 HW HG
      have hxl : xs.length = l.length * 2 := HW'.out.1
      have k1 := HW'.out.cellAt (k * 2) (by omega)
      have k2 := HW'.out.cellAt (k * 2 + 1) (by omega)
      rw [List.getElem?_eq_getElem (by omega)] at k1 k2
      have f1 := HW'.out.frozenAt (k * 2)
      have f2 := HW'.out.frozenAt (k * 2 + 1)
      have hw2 := ((HW'.out.stored (k * 2) (.string E.1)).1.stored (k * 2 + 1) (.string E.2))
      have HW2 := mkHidEa hw2.1
      have HG2 : Hid (w.grownBy ((w'.setCell ⟨w.heap.size, k * 2, none⟩ (.string E.1)).setCell ⟨w.heap.size, k * 2 + 1, none⟩ (.string E.2)) none) := by
        refine mkHidEa ⟨HG'.out.os, HG'.out.tape, HG'.out.output, by have := HG'.out.size; simpa using this, fun i hi hr => ?_⟩
        rw [Below.heap_setCell _ ⟨w.heap.size, k * 2 + 1, none⟩ _ i (by simp only; omega), Below.heap_setCell _ ⟨w.heap.size, k * 2, none⟩ _ i (by simp only; omega)]
        exact HG'.out.block i hi hr
      clear hw2 HG'
      go_wp2
      go_roundw
      case rel =>
        refine ⟨k + 1, _, by omega, by go_num, HW2.out, HG2.out, fun j hj hjk => ?_⟩
        by_cases hjk' : j = k
        · subst hjk'
          rw [HE.out]
          exact ⟨by rw [List.getElem?_set_ne (by omega), List.getElem?_set_self (by omega)], by rw [List.getElem?_set_self (by simp; omega)]⟩
        · have := HX.out j hj (by omega)
          rw [List.getElem?_set_ne (by omega), List.getElem?_set_ne (by omega), List.getElem?_set_ne (by omega), List.getElem?_set_ne (by omega)]
          exact this
      case measure => simp [intOf]; omega
    · go_wp2
      go_ret
      exact ⟨⟨_, _, rfl, Nat.le_refl _, ents_of_row HW.out rfl fun j hj => HX.out j hj (by omega), _, _, HW.out⟩, HG.out⟩

set_option maxHeartbeats 2000000 in
theorem eqAttrS_same (w : World) (a a' : Option Addr) (n c c' : Nat) (l : List (ByteArray × ByteArray)) (hn : n = l.length) (hl : l.length ≤ 1048576) (h : EntsAt w a l) (h' : EntsAt w a' l) :
    Calls Tryd.prog 32 #[.slice a n c, .slice a' n c'] w fun e w' => e = .returned (.bool true) ∧ w.grownBy w' none := by
  subst hn
  have HA := mkHidEa h
  have HA' := mkHidEa h'
  clear h h'
  go_enter Tryd.func32, Tryd.ntmps32
  go_wp2
  go_loopw [5] (fun i wr => ∃ (k : Nat), k ≤ l.length ∧ i = .int .i64 k ∧ w.grownBy wr none) (fun i _ => l.length - (intOf i).toNat)
  case atStart => exact ⟨0, Nat.zero_le _, rfl, gnR _⟩
  case round =>
    obtain ⟨k, hk, rfl, hgr⟩ := hrel
    have HG := mkHidEa hgr
    clear hgr
    by_cases hlt : k < l.length
    · obtain ⟨b, off, ha, hc⟩ := HA.out.grown HG.out
      obtain rfl := ha (by omega)
      obtain ⟨c1, c2⟩ := hc k hlt
      obtain ⟨b', off', ha', hc'⟩ := HA'.out.grown HG.out
      obtain rfl := ha' (by omega)
      obtain ⟨d1, d2⟩ := hc' k hlt
      obtain ⟨E, hE⟩ : ∃ E, l[k]'hlt = E := ⟨_, rfl⟩
      rw [hE] at c1 c2 d1 d2
      clear hc ha hE hc' ha' HA HA'
      go_wp2_with fail
      go_region_held3 (fun W => W.cell? ⟨b, off + k * 2, none⟩ = some (.string E.1) ∧ W.cell? ⟨b, off + k * 2 + 1, none⟩ = some (.string E.2) ∧ W.cell? ⟨b', off' + k * 2, none⟩ = some (.string E.1) ∧ W.cell? ⟨b', off' + k * 2 + 1, none⟩ = some (.string E.2)) (go_keep)
        (first | (go_at_call 51; refine (eqAttr_any _ _ _).mono ?_; rintro e w' ⟨rfl, hg'⟩; have hk' : ∀ k, k < wr.heap.size → w'.heap[k]? = wr.heap[k]? := (fun k hk => hg'.block k hk (by simp)); have e1 := cell_keep hk' c1; have e2 := cell_keep hk' c2; have e3 := cell_keep hk' d1; have e4 := cell_keep hk' d2))
      have HG' : Hid (w.grownBy w' none) := mkHidEa (gnT HG.out (gnT (gnD wr 1) hg'))
      clear hg' hk'
      go_wp2
      go_roundw
      case rel => exact ⟨k + 1, by omega, by go_num, HG'.out⟩
      case measure => simp [intOf]; omega
    · go_wp2
      go_ret
      exact ⟨rfl, HG.out⟩
end Go.Proofs.YtlfcmlcpdpkibaaDoor
