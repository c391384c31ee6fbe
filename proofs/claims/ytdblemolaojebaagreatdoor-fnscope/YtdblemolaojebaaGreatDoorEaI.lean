import Derived.Test.YtdblemolaojebaaGreatDoorFreH
set_option maxHeartbeats 4000000
namespace Go.Proofs.YtdblemolaojebaaGreatDoor
open Go.RowKit Ents
theorem aZo {p : Prop} (h : p) : Hid p := h
structure DBox (w W : World) (a : Option Addr) (n c : Nat) (a' : Option Addr) (n' c' : Nat) (o : Obj) : Prop where
 head : W.heap[w.heap.size]? = some (.cells #[.slice a n c, .slice a' n' c'] 49)
 res : W.heap[w.heap.size + 1]? = some o
 grown : w.grownBy W none
theorem bVy (w : World) (a : Option Addr) (n c : Nat) (a' : Option Addr) (n' c' : Nat) (o : Obj) : DBox w ((w.alloc (.cells #[.slice a n c, .slice a' n' c'] 49)).alloc o) a n c a' n' c' o :=
 ⟨by rw [heap_alloc_old _ _ (by simp)]; exact heap_alloc_new _ _, by have := heap_alloc_new (w.alloc (.cells #[.slice a n c, .slice a' n' c'] 49)) o; simpa using this,
  ⟨rfl, rfl, rfl, by simp; omega, fun k hk _ => by rw [heap_alloc_old _ _ (by simp; omega), heap_alloc_old _ _ hk]⟩⟩
theorem DBox.cells {w W : World} {a a' : Option Addr} {n c n' c' : Nat} {o : Obj} (h : DBox w W a n c a' n' c' o) : W.cell? ⟨w.heap.size, 0, none⟩ = some (.slice a n c) ∧ W.cell? ⟨w.heap.size, 1, none⟩ = some (.slice a' n' c') := by
 simp [World.cell?, h.head]
theorem aJy {w W : World} (h : w.grownBy W none) {k j : Nat} (hk : w.heap.size ≤ k) (u : Value) : w.grownBy (W.setCell ⟨k, j, none⟩ u) none :=
 ⟨h.os, h.tape, h.output, by have := h.size; simpa using this, fun i hi hr => by rw [Below.heap_setCell W ⟨k, j, none⟩ u i (by simp only; omega)]; exact h.block i hi hr⟩
open Go.RowKit Ents
def zObj5 : Obj := .cells #[.string ⟨#[]⟩, .string ⟨#[]⟩, .bool false, .bool false, .string ⟨#[]⟩] 150
theorem att_no1 {o n : ByteArray} {e : At5} (h : (e.of.toList == o.toList) = false) : aVu o n e = false := by unfold aVu; rw [h]; rfl
theorem att_no2 {o n : ByteArray} {e : At5} (h : (e.nm.toList == n.toList) = false) : aVu o n e = false := by unfold aVu; rw [h, Bool.and_false]
theorem att_yes {o n : ByteArray} {e : At5} (h1 : (e.of.toList == o.toList) = true) (h2 : (e.nm.toList == n.toList) = true) : aVu o n e = true := by unfold aVu; rw [h1, h2]; rfl
theorem res5 {w W : World} {a a' : Option Addr} {n c n' c' : Nat} (h : DBox w W a n c a' n' c' zObj5) :
 W.cell? ⟨w.heap.size + 1, 0, none⟩ = some (.string ⟨#[]⟩) ∧ W.cell? ⟨w.heap.size + 1, 1, none⟩ = some (.string ⟨#[]⟩) ∧ W.cell? ⟨w.heap.size + 1, 2, none⟩ = some (.bool false) ∧ W.cell? ⟨w.heap.size + 1, 3, none⟩ = some (.bool false) ∧ W.cell? ⟨w.heap.size + 1, 4, none⟩ = some (.string ⟨#[]⟩) ∧
 W.frozen? ⟨w.heap.size + 1, 0, none⟩ = false ∧ W.frozen? ⟨w.heap.size + 1, 1, none⟩ = false ∧ W.frozen? ⟨w.heap.size + 1, 2, none⟩ = false ∧ W.frozen? ⟨w.heap.size + 1, 3, none⟩ = false ∧ W.frozen? ⟨w.heap.size + 1, 4, none⟩ = false := by
 have hr := h.res
 unfold zObj5 at hr
 simp [World.cell?, World.frozen?, hr]
theorem grown5 {w W : World} (h : w.grownBy W none) {k : Nat} (hk : w.heap.size ≤ k) (u0 u1 u2 u3 u4 : Value) :
 w.grownBy (((((W.setCell ⟨k, 0, none⟩ u0).setCell ⟨k, 1, none⟩ u1).setCell ⟨k, 2, none⟩ u2).setCell ⟨k, 3, none⟩ u3).setCell ⟨k, 4, none⟩ u4) none :=
 aJy (aJy (aJy (aJy (aJy h hk _) hk _) hk _) hk _) hk _
open Go.RowKit Lists Ents
theorem bZi (a : At5) (t : List At5) : aJp (a :: t) = .string a.of :: .string a.nm :: .bool a.words :: .bool a.has :: .string a.val :: aJp t := rfl
theorem bVj : ∀ (l : List At5) (i : Nat) (h : i < l.length), (aJp l)[5 * i]? = some (.string (l[i]'h).of) ∧ (aJp l)[5 * i + 1]? = some (.string (l[i]'h).nm) ∧ (aJp l)[5 * i + 2]? = some (.bool (l[i]'h).words) ∧ (aJp l)[5 * i + 3]? = some (.bool (l[i]'h).has) ∧ (aJp l)[5 * i + 4]? = some (.string (l[i]'h).val)
 | a :: t, 0, h => by rw [bZi]; exact ⟨rfl, rfl, rfl, rfl, rfl⟩
 | a :: t, i + 1, h => by
  have ih := bVj t i (by simpa using h)
  rw [bZi, show 5 * (i + 1) = 5 * i + 1 + 1 + 1 + 1 + 1 by omega]
  simpa using ih
theorem bJl {w : World} {base : Nat} {e : TypeId} {v : Value} {l : List (ByteArray × ByteArray)} (h : w.ownsRow base e 2 v l.length (aQ8 l)) : ∃ a c, v = .slice a l.length c ∧ aJs w a l := by
 rcases aZm h with ⟨rfl, hn⟩ | ⟨g, cap, rfl⟩
 · have hl : l = [] := List.eq_nil_of_length_eq_zero hn
   subst hl
   exact ⟨none, 0, rfl, 0, 0, fun hh => absurd hh (by simp), fun i hi => absurd hi (by simp)⟩
 · refine ⟨_, cap, rfl, g, 0, fun _ => rfl, fun i hi => ?_⟩
   have hg := aYl l i hi
   rw [Nat.mul_comm] at hg
   rw [Nat.zero_add]
   exact ⟨by rw [h.cellAt (i * 2) (by omega)]; exact hg.1, by rw [h.cellAt (i * 2 + 1) (by omega)]; exact hg.2⟩
theorem aWu {w : World} {base : Nat} {e : TypeId} {v : Value} {l : List At5} (h : w.ownsRow base e 5 v l.length (aJp l)) : ∃ a c, v = .slice a l.length c ∧ aY0 w a l := by
 rcases aZm h with ⟨rfl, hn⟩ | ⟨g, cap, rfl⟩
 · have hl : l = [] := List.eq_nil_of_length_eq_zero hn
   subst hl
   exact ⟨none, 0, rfl, 0, 0, fun hh => absurd hh (by simp), fun i hi => absurd hi (by simp)⟩
 · refine ⟨_, cap, rfl, g, 0, fun _ => rfl, fun i hi => ?_⟩
   have hg := bVj l i hi
   rw [Nat.mul_comm] at hg
   rw [Nat.zero_add]
   exact ⟨by rw [h.cellAt (i * 5) (by omega)]; exact hg.1, by rw [h.cellAt (i * 5 + 1) (by omega)]; exact hg.2.1, by rw [h.cellAt (i * 5 + 2) (by omega)]; exact hg.2.2.1, by rw [h.cellAt (i * 5 + 3) (by omega)]; exact hg.2.2.2.1, by rw [h.cellAt (i * 5 + 4) (by omega)]; exact hg.2.2.2.2⟩
open Go.RowKit Lists Ents
theorem gnTrans {a b c : World} (h : a.grownBy b none) (k : b.grownBy c none) : a.grownBy c none :=
 ⟨k.os.trans h.os, k.tape.trans h.tape, k.output.trans h.output, Nat.le_trans h.size k.size, fun i hi hr => (k.block i (Nat.lt_of_lt_of_le hi h.size) hr).trans (h.block i hi hr)⟩
theorem aWb {w W W' : World} {a a' : Option Addr} {n c n' c' : Nat} {o : Obj} (h : DBox w W a n c a' n' c' o) (hg : W.grownBy W' none) : DBox w W' a n c a' n' c' o := by
 have h1 := (gLt h.head)
 have h2 := (gLt h.res)
 exact ⟨by rw [hg.block _ h1 (by simp)]; exact h.head, by rw [hg.block _ h2 (by simp)]; exact h.res, gnTrans h.grown hg⟩
theorem bJg (w : World) (o : Obj) : w.grownBy (w.alloc o) none := ⟨rfl, rfl, rfl, by simp, fun k hk _ => heap_alloc_old w o hk⟩
structure EFr (w W : World) (i : Nat) (E : ByteArray × ByteArray) : Prop where
 i0 : W.cell? ⟨i, 0, none⟩ = some (.string E.1)
 i1 : W.cell? ⟨i, 1, none⟩ = some (.string E.2)
 r0 : W.cell? ⟨w.heap.size + 1, 0, none⟩ = some (.string ⟨#[]⟩)
 r1 : W.cell? ⟨w.heap.size + 1, 1, none⟩ = some (.string ⟨#[]⟩)
 f0 : W.frozen? ⟨w.heap.size + 1, 0, none⟩ = false
 f1 : W.frozen? ⟨w.heap.size + 1, 1, none⟩ = false
 gr : w.grownBy W none
theorem EFr.step {w W W' : World} {i : Nat} {E : ByteArray × ByteArray} (h : EFr w W i E) (hg : W.grownBy W' none) : EFr w W' i E := by
 have hk : ∀ k, k < W.heap.size → W'.heap[k]? = W.heap[k]? := fun k hk => hg.block k hk (by simp)
 have hb := hk _ (aQf h.r0)
 exact ⟨aXs hk h.i0, aXs hk h.i1, aXs hk h.r0, aXs hk h.r1, by rw [World.frozen?_of_block (a := ⟨w.heap.size + 1, 0, none⟩) hb]; exact h.f0, by rw [World.frozen?_of_block (a := ⟨w.heap.size + 1, 1, none⟩) hb]; exact h.f1, gnTrans h.gr hg⟩
theorem EFr.drew {w W : World} {i : Nat} {E : ByteArray × ByteArray} (h : EFr w W i E) : EFr w W.drew i E := h.step ⟨rfl, rfl, rfl, Nat.le_refl _, fun _ _ _ => rfl⟩
theorem efr_start {w wr : World} {a a' : Option Addr} {n c n' c' : Nat} (h : DBox w wr a n c a' n' c' (.cells #[.string ⟨#[]⟩, .string ⟨#[]⟩] 195)) (E : ByteArray × ByteArray) : EFr w (wr.alloc (.cells #[.string E.1, .string E.2] 195)) wr.heap.size E := by
 have hn := heap_alloc_new wr (.cells #[.string E.1, .string E.2] 195)
 have hr := (aWb h (bJg wr (.cells #[.string E.1, .string E.2] 195)))
 exact ⟨by unfold World.cell?; rw [hn]; rfl, by unfold World.cell?; rw [hn]; rfl, by simp [World.cell?, hr.res], by simp [World.cell?, hr.res], by simp [World.frozen?, hr.res], by simp [World.frozen?, hr.res], hr.grown⟩
theorem bKy (w : World) (a a' : Option Addr) (n c n' c' : Nat) (l : List (ByteArray × ByteArray)) (nm : ByteArray) (hn : n = l.length) (hl : l.length ≤ 1048576) (hz : ∀ e ∈ l, e.1.size ≤ 1048576 ∧ e.2.size ≤ 1048576) (h : aJs w a l) :
 Calls Tryz.prog 132 #[.agg #[.slice a n c, .slice a' n' c'], .string nm] w fun e w' => e = .returned (.agg #[.string (entR l nm).1, .string (entR l nm).2]) ∧ w.grownBy w' none := by
 subst hn
 obtain ⟨R, hR⟩ : ∃ R, entR l nm = R := ⟨_, rfl⟩
 rw [hR]
 have HR := aZo hR
 clear hR
 have HA := aZo h
 have HZ := aZo hz
 clear h hz
 have HB := aZo (bVy w a l.length c a' n' c' (.cells #[.string ⟨#[]⟩, .string ⟨#[]⟩] 195))
 by_cases hbig : 4000 < nm.size
 · have hR0 : R = (⟨#[]⟩, ⟨#[]⟩) := by rw [← HR.out]; exact ent_long hbig
   subst hR0
   go_enter Tryz.func132, Tryz.ntmps132
   go_wp2
   exact bodyPost_ret (v := .agg #[.string ⟨#[]⟩, .string ⟨#[]⟩]) (by simp [results, Tryz.results132, go_sem]) rfl ⟨rfl, HB.out.grown⟩
 go_enter Tryz.func132, Tryz.ntmps132
 go_wp2
 go_loopw [14] (fun i wr => ∃ k : Nat, k ≤ l.length ∧ i = .int .i64 k ∧ (l.take k).find? (aW6 nm) = none ∧ DBox w wr a l.length c a' n' c' (.cells #[.string ⟨#[]⟩, .string ⟨#[]⟩] 195)) (fun i _ => l.length - (intOf i).toNat)
 case atStart => exact ⟨0, Nat.zero_le _, rfl, rfl, HB.out⟩
 case round =>
  obtain ⟨k, hk, rfl, hno, hbx⟩ := hrel
  have HNO := aZo hno
  have HX := aZo hbx
  have hr0 : wr.cell? ⟨w.heap.size + 1, 0, none⟩ = some (.string ⟨#[]⟩) := by simp [World.cell?, hbx.res]
  have hr1 : wr.cell? ⟨w.heap.size + 1, 1, none⟩ = some (.string ⟨#[]⟩) := by simp [World.cell?, hbx.res]
  have hf0 : wr.frozen? ⟨w.heap.size + 1, 0, none⟩ = false := by simp [World.frozen?, hbx.res]
  have hf1 : wr.frozen? ⟨w.heap.size + 1, 1, none⟩ = false := by simp [World.frozen?, hbx.res]
  clear hno hbx HB
  by_cases hlt : k < l.length
  · obtain ⟨b, off, ha, hc⟩ := HA.out.grown HX.out.grown
    obtain rfl := ha (by omega)
    obtain ⟨c1, c2⟩ := hc k hlt
    obtain ⟨E, hE⟩ : ∃ E, l[k]'hlt = E := ⟨_, rfl⟩
    rw [hE] at c1 c2
    have HE := aZo hE
    clear hc ha hE HA
    cases hst : (E.1.toList == nm.toList) with
    | true =>
     have hRE : R = E := by rw [← HR.out, ent_hit hbig hlt HNO.out (by rw [HE.out]; exact hst), HE.out]
     subst hRE
     have hE := efr_start HX.out R
     have hs1 : R.1.size ≤ 1048576 := by rw [← HE.out]; exact (HZ.out _ (List.getElem_mem hlt)).1
     have hs2 : R.2.size ≤ 1048576 := by rw [← HE.out]; exact (HZ.out _ (List.getElem_mem hlt)).2
     go_wp2_with fail
     clear hr0 hr1 hf0 hf1 c1 c2
     generalize wr.alloc (.cells #[.string R.1, .string R.2] 195) = W0 at hE ⊢
     generalize wr.heap.size = gi at hE ⊢
     obtain ⟨i0, i1, r0, r1, f0, f1, _⟩ := hE
     have hE : EFr w W0 gi R := ⟨i0, i1, r0, r1, f0, f1, by assumption⟩
     go_region_with (go_at_call 94; refine (aVl _ _ (by assumption)).mono ?_; rintro e w' ⟨rfl, hg'⟩; first | (have hE := hE.step hg'; have hQ := hE; obtain ⟨i0, i1, r0, r1, f0, f1, _⟩ := hQ) | (have hE := hE.drew.step hg'; have hQ := hE; obtain ⟨i0, i1, r0, r1, f0, f1, _⟩ := hQ))
     all_goals
      have HEE := aZo hE
      clear hE
      go_wp2
      refine bodyPost_ret (v := .agg #[.string R.1, .string R.2]) (by simp [results, Tryz.results132, go_sem, r0, r1]) rfl ⟨rfl, ?_⟩
      exact aJy (aJy HEE.out.gr (by omega) _) (by omega) _
    | false =>
     have hno2 := bW6 hlt HNO.out (p := aW6 nm) (by rw [HE.out]; exact hst)
     have HN2 := aZo hno2
     clear hno2
     go_wp2
     go_roundw
     case rel => exact ⟨k + 1, by omega, by go_num, HN2.out, aWb HX.out (bJg _ _)⟩
     case measure => simp [intOf]; omega
  · have hR0 : R = (⟨#[]⟩, ⟨#[]⟩) := by rw [← HR.out]; exact ent_none hbig (by omega) HNO.out
    subst hR0
    clear HA
    go_wp2
    refine bodyPost_ret (v := .agg #[.string ⟨#[]⟩, .string ⟨#[]⟩]) (by simp [results, Tryz.results132, go_sem, hr0, hr1]) rfl ⟨rfl, ?_⟩
    exact aJy (aJy HX.out.grown (by omega) _) (by omega) _
open Go.RowKit Ents
structure AFr (w W : World) (i : Nat) (E : At5) : Prop where
 i0 : W.cell? ⟨i, 0, none⟩ = some (.string E.of)
 i1 : W.cell? ⟨i, 1, none⟩ = some (.string E.nm)
 i2 : W.cell? ⟨i, 2, none⟩ = some (.bool E.words)
 i3 : W.cell? ⟨i, 3, none⟩ = some (.bool E.has)
 i4 : W.cell? ⟨i, 4, none⟩ = some (.string E.val)
 res : W.heap[w.heap.size + 1]? = some zObj5
 gr : w.grownBy W none
theorem AFr.step {w W W' : World} {i : Nat} {E : At5} (h : AFr w W i E) (hg : W.grownBy W' none) : AFr w W' i E := by
 have hk : ∀ k, k < W.heap.size → W'.heap[k]? = W.heap[k]? := fun k hk => hg.block k hk (by simp)
 have hb := hk _ (gLt h.res)
 exact ⟨aXs hk h.i0, aXs hk h.i1, aXs hk h.i2, aXs hk h.i3, aXs hk h.i4, hb.trans h.res, gnTrans h.gr hg⟩
theorem AFr.drew {w W : World} {i : Nat} {E : At5} (h : AFr w W i E) : AFr w W.drew i E := h.step ⟨rfl, rfl, rfl, Nat.le_refl _, fun _ _ _ => rfl⟩
theorem AFr.cells {w W : World} {i : Nat} {E : At5} (h : AFr w W i E) :
 W.cell? ⟨w.heap.size + 1, 0, none⟩ = some (.string ⟨#[]⟩) ∧ W.cell? ⟨w.heap.size + 1, 1, none⟩ = some (.string ⟨#[]⟩) ∧ W.cell? ⟨w.heap.size + 1, 2, none⟩ = some (.bool false) ∧ W.cell? ⟨w.heap.size + 1, 3, none⟩ = some (.bool false) ∧ W.cell? ⟨w.heap.size + 1, 4, none⟩ = some (.string ⟨#[]⟩) ∧
 W.frozen? ⟨w.heap.size + 1, 0, none⟩ = false ∧ W.frozen? ⟨w.heap.size + 1, 1, none⟩ = false ∧ W.frozen? ⟨w.heap.size + 1, 2, none⟩ = false ∧ W.frozen? ⟨w.heap.size + 1, 3, none⟩ = false ∧ W.frozen? ⟨w.heap.size + 1, 4, none⟩ = false := by
 have hr := h.res
 unfold zObj5 at hr
 simp [World.cell?, World.frozen?, hr]
theorem afr_start {w wr : World} {a a' : Option Addr} {n c n' c' : Nat} (h : DBox w wr a n c a' n' c' zObj5) (E : At5) : AFr w (wr.alloc (.cells #[.string E.of, .string E.nm, .bool E.words, .bool E.has, .string E.val] 150)) wr.heap.size E := by
 have hn := heap_alloc_new wr (.cells #[.string E.of, .string E.nm, .bool E.words, .bool E.has, .string E.val] 150)
 have hr := (aWb h (bJg wr (.cells #[.string E.of, .string E.nm, .bool E.words, .bool E.has, .string E.val] 150)))
 exact ⟨by unfold World.cell?; rw [hn]; rfl, by unfold World.cell?; rw [hn]; rfl, by unfold World.cell?; rw [hn]; rfl, by unfold World.cell?; rw [hn]; rfl, by unfold World.cell?; rw [hn]; rfl, hr.res, hr.grown⟩
theorem keep1 {W : World} {k gi j i : Nat} {u v : Value} (hne : gi ≠ k) (h : W.cell? ⟨gi, i, none⟩ = some v) : (W.setCell ⟨k, j, none⟩ u).cell? ⟨gi, i, none⟩ = some v := by
 rw [World.cell?_of_block (a := ⟨gi, i, none⟩) (w := W) (Below.heap_setCell W ⟨k, j, none⟩ u gi hne)]; exact h
theorem keep5 {W : World} {k gi i : Nat} {u0 u1 u2 u3 u4 v : Value} (hne : gi ≠ k) (h : W.cell? ⟨gi, i, none⟩ = some v) :
 (((((W.setCell ⟨k, 0, none⟩ u0).setCell ⟨k, 1, none⟩ u1).setCell ⟨k, 2, none⟩ u2).setCell ⟨k, 3, none⟩ u3).setCell ⟨k, 4, none⟩ u4).cell? ⟨gi, i, none⟩ = some v :=
 keep1 hne (keep1 hne (keep1 hne (keep1 hne (keep1 hne h))))
theorem bKz (w : World) (a a' : Option Addr) (n c n' c' : Nat) (l : List At5) (o nm : ByteArray) (hn : n' = l.length) (hl : l.length ≤ 1048576) (hz : ∀ e ∈ l, e.of.size ≤ 1048576 ∧ e.nm.size ≤ 1048576 ∧ e.val.size ≤ 1048576) (h : aY0 w a' l) :
 Calls Tryz.prog 76 #[.agg #[.slice a n c, .slice a' n' c'], .string o, .string nm] w fun e w' =>
  e = .returned (.agg #[.string (attR l o nm).of, .string (attR l o nm).nm, .bool (attR l o nm).words, .bool (attR l o nm).has, .string (attR l o nm).val]) ∧ w.grownBy w' none := by
 subst hn
 obtain ⟨R, hR⟩ : ∃ R, attR l o nm = R := ⟨_, rfl⟩
 rw [hR]
 have HR := aZo hR
 clear hR
 have HA := aZo h
 have HZ := aZo hz
 clear h hz
 have HB := aZo (bVy w a n c a' l.length c' zObj5)
 unfold zObj5 at HB
 by_cases hbig : 4000 < o.size ∨ 4000 < nm.size
 · have hR0 : R = zAtt := by rw [← HR.out]; exact att_long hbig
   subst hR0
   clear HR HA
   by_cases h1 : 4000 < o.size
   · clear hbig
     go_enter Tryz.func76, Tryz.ntmps76
     go_wp2
     exact bodyPost_ret (v := .agg #[.string ⟨#[]⟩, .string ⟨#[]⟩, .bool false, .bool false, .string ⟨#[]⟩]) (by simp [results, Tryz.results76, go_sem]) rfl ⟨rfl, HB.out.grown⟩
   · have h2 : 4000 < nm.size := by omega
     clear hbig
     go_enter Tryz.func76, Tryz.ntmps76
     go_wp2
     exact bodyPost_ret (v := .agg #[.string ⟨#[]⟩, .string ⟨#[]⟩, .bool false, .bool false, .string ⟨#[]⟩]) (by simp [results, Tryz.results76, go_sem]) rfl ⟨rfl, HB.out.grown⟩
 have h1 : ¬ 4000 < o.size := by omega
 have h2 : ¬ 4000 < nm.size := by omega
 have HBIG := aZo hbig
 clear hbig
 go_enter Tryz.func76, Tryz.ntmps76
 go_wp2
 go_loopw [21] (fun i wr => ∃ k : Nat, k ≤ l.length ∧ i = .int .i64 k ∧ (l.take k).find? (aVu o nm) = none ∧ DBox w wr a n c a' l.length c' zObj5) (fun i _ => l.length - (intOf i).toNat)
 case atStart => exact ⟨0, Nat.zero_le _, rfl, rfl, HB.out⟩
 case round =>
  obtain ⟨k, hk, rfl, hno, hbx⟩ := hrel
  have HNO := aZo hno
  have HX := aZo hbx
  obtain ⟨r0, r1, r2, r3, r4, f0, f1, f2, f3, f4⟩ := res5 hbx
  clear hno hbx HB
  by_cases hlt : k < l.length
  · obtain ⟨b, off, ha, hc⟩ := HA.out.grown HX.out.grown
    obtain rfl := ha (by omega)
    obtain ⟨c1, c2, c3, c4, c5⟩ := hc k hlt
    obtain ⟨E, hE⟩ : ∃ E, l[k]'hlt = E := ⟨_, rfl⟩
    rw [hE] at c1 c2 c3 c4 c5
    have HE := aZo hE
    clear hc ha hE HA
    cases hst : (E.of.toList == o.toList) with
    | true =>
     cases hsu : (E.nm.toList == nm.toList) with
     | true =>
      have hRE : R = E := by rw [← HR.out, att_hit HBIG.out hlt HNO.out (by rw [HE.out]; exact att_yes hst hsu), HE.out]
      subst hRE
      have hE := afr_start HX.out R
      have hzz := HZ.out _ (List.getElem_mem hlt)
      rw [HE.out] at hzz
      obtain ⟨hs1, hs2, hs3⟩ := hzz
      have hne : wr.heap.size ≠ w.heap.size + 1 := by
       have := (gLt HX.out.res)
       omega
      go_wp2_with fail
      clear r0 r1 r2 r3 r4 f0 f1 f2 f3 f4 c1 c2 c3 c4 c5
      generalize wr.alloc (.cells #[.string R.of, .string R.nm, .bool R.words, .bool R.has, .string R.val] 150) = W0 at hE ⊢
      generalize wr.heap.size = gi at hE hne ⊢
      have hQ := hE
      obtain ⟨i0, i1, i2, i3, i4, _, _⟩ := hQ
      go_region_held3 (fun W => W.cell? ⟨gi, 0, none⟩ = some (.string R.of) ∧ W.cell? ⟨gi, 1, none⟩ = some (.string R.nm) ∧ W.cell? ⟨gi, 2, none⟩ = some (.bool R.words) ∧ W.cell? ⟨gi, 3, none⟩ = some (.bool R.has) ∧ W.cell? ⟨gi, 4, none⟩ = some (.string R.val)) (first | go_keep | exact ⟨keep5 hne i0, keep5 hne i1, keep5 hne i2, keep5 hne i3, keep5 hne i4⟩)
       (first | (go_at_call 94; refine (aVl _ _ (by assumption)).mono ?_; rintro e w' ⟨rfl, hg'⟩; first | (have hE := hE.step hg'; have hQ := hE; obtain ⟨i0, i1, i2, i3, i4, _, _⟩ := hQ; obtain ⟨r0, r1, r2, r3, r4, f0, f1, f2, f3, f4⟩ := hE.cells) | (have hE := hE.drew.step hg'; have hQ := hE; obtain ⟨i0, i1, i2, i3, i4, _, _⟩ := hQ; obtain ⟨r0, r1, r2, r3, r4, f0, f1, f2, f3, f4⟩ := hE.cells)))
      all_goals
       have HEE := aZo hE
       clear hE
       go_wp2
       refine bodyPost_ret (v := .agg #[.string R.of, .string R.nm, .bool R.words, .bool R.has, .string R.val]) (by simp [results, Tryz.results76, go_sem, r0, r1, r2, r3, r4]) rfl ⟨rfl, ?_⟩
       exact grown5 HEE.out.gr (by omega) _ _ _ _ _
     | false =>
      have hno2 := bW6 hlt HNO.out (p := aVu o nm) (by rw [HE.out]; exact att_no2 hsu)
      have HN2 := aZo hno2
      clear hno2
      go_wp2
      go_roundw
      case rel => exact ⟨k + 1, by omega, by go_num, HN2.out, aWb HX.out (bJg _ _)⟩
      case measure => simp [intOf]; omega
    | false =>
     have hno2 := bW6 hlt HNO.out (p := aVu o nm) (by rw [HE.out]; exact att_no1 hst)
     have HN2 := aZo hno2
     clear hno2
     go_wp2
     go_roundw
     case rel => exact ⟨k + 1, by omega, by go_num, HN2.out, aWb HX.out (bJg _ _)⟩
     case measure => simp [intOf]; omega
  · have hR0 : R = zAtt := by rw [← HR.out]; exact att_none HBIG.out (by omega) HNO.out
    subst hR0
    clear HA
    go_wp2
    refine bodyPost_ret (v := .agg #[.string ⟨#[]⟩, .string ⟨#[]⟩, .bool false, .bool false, .string ⟨#[]⟩]) (by simp [results, Tryz.results76, go_sem, r0, r1, r2, r3, r4]) rfl ⟨rfl, ?_⟩
    exact grown5 HX.out.grown (by omega) _ _ _ _ _
end Go.Proofs.YtdblemolaojebaaGreatDoor
