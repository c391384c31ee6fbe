import Derived.Test.YtocnfoeaikiecaaGreatDoorPlM
set_option maxHeartbeats 2000000
set_option maxRecDepth 100000
namespace Go.Proofs.YtocnfoeaikiecaaGreatDoor
open Go.RowKit Ents Tryz
theorem aJj {p : Prop} (h : p) : Hid p := h
structure DBox (w W : World) (a : Option Addr) (n c : Nat) (a' : Option Addr) (n' c' : Nat) (o : Obj) : Prop where
 head : W.heap[w.heap.size]? = some (.cells #[.slice a n c, .slice a' n' c'] 94)
 res : W.heap[w.heap.size + 1]? = some o
 grown : w.grownBy W none
theorem bKb (w : World) (a : Option Addr) (n c : Nat) (a' : Option Addr) (n' c' : Nat) (o : Obj) : DBox w ((w.alloc (.cells #[.slice a n c, .slice a' n' c'] 94)).alloc o) a n c a' n' c' o :=
 ⟨by rw [heap_alloc_old _ _ (by simp)]; exact heap_alloc_new _ _, by have := heap_alloc_new (w.alloc (.cells #[.slice a n c, .slice a' n' c'] 94)) o; simpa using this,
  ⟨rfl, rfl, rfl, by simp; omega, fun k hk _ => by rw [heap_alloc_old _ _ (by simp; omega), heap_alloc_old _ _ hk]⟩⟩
theorem DBox.cells {w W : World} {a a' : Option Addr} {n c n' c' : Nat} {o : Obj} (h : DBox w W a n c a' n' c' o) : W.cell? ⟨w.heap.size, 0, none⟩ = some (.slice a n c) ∧ W.cell? ⟨w.heap.size, 1, none⟩ = some (.slice a' n' c') := by
 simp [World.cell?, h.head]
theorem aV8 {w W : World} (h : w.grownBy W none) {k j : Nat} (hk : w.heap.size ≤ k) (u : Value) : w.grownBy (W.setCell ⟨k, j, none⟩ u) none :=
 ⟨h.os, h.tape, h.output, by have := h.size; simpa using this, fun i hi hr => by rw [Below.heap_setCell W ⟨k, j, none⟩ u i (by simp only; omega)]; exact h.block i hi hr⟩
open Go.RowKit Ents
theorem bQr (w : World) (a a' : Option Addr) (n c n' c' : Nat) (l : List (ByteArray × ByteArray)) (nm : ByteArray) (hn : n = l.length) (hl : l.length ≤ 1048576) (h : aZ2 w a l) :
 Calls prog 112 #[.agg #[.slice a n c, .slice a' n' c'], .string nm] w fun e w' => e = .returned (.agg #[.string (entR l nm).1, .string (entR l nm).2]) ∧ w.grownBy w' none := by
 subst hn
 obtain ⟨R, hR⟩ := nmE (entR l nm)
 rw [hR]
 have HR := aJj hR
 clear hR
 have HA := aJj h
 clear h
 have hb0 := bKb w a l.length c a' n' c' (.cells #[.string ⟨#[]⟩, .string ⟨#[]⟩] 163)
 have HB := aJj hb0
 clear hb0
 by_cases hbig : 4000 < nm.size
 · have hR0 : R = (⟨#[]⟩, ⟨#[]⟩) := by rw [← HR.out]; exact dZb hbig
   subst hR0
   go_enter func112, ntmps112
   go_wp2
   exact bodyPost_ret (v := .agg #[.string ⟨#[]⟩, .string ⟨#[]⟩]) (by simp [results, results112, go_sem]) rfl ⟨rfl, HB.out.grown⟩
 go_enter func112, ntmps112
 go_wp2
 go_loopw [5] (fun i wr => ∃ k : Nat, k ≤ l.length ∧ i = .int .i64 k ∧ (l.take k).find? (aWa nm) = none ∧ DBox w wr a l.length c a' n' c' (.cells #[.string ⟨#[]⟩, .string ⟨#[]⟩] 163)) (fun i _ => l.length - (intOf i).toNat)
 case atStart => exact ⟨0, Nat.zero_le _, rfl, rfl, HB.out⟩
 case round =>
  obtain ⟨k, hk, rfl, hno, hbx⟩ := hrel
  have HNO := aJj hno
  have HX := aJj hbx
  obtain ⟨d0, _⟩ := hbx.cells
  have hr0 : wr.cell? ⟨w.heap.size + 1, 0, none⟩ = some (.string ⟨#[]⟩) := by simp [World.cell?, hbx.res]
  have hr1 : wr.cell? ⟨w.heap.size + 1, 1, none⟩ = some (.string ⟨#[]⟩) := by simp [World.cell?, hbx.res]
  have hf0 : wr.frozen? ⟨w.heap.size + 1, 0, none⟩ = false := by simp [World.frozen?, hbx.res]
  have hf1 : wr.frozen? ⟨w.heap.size + 1, 1, none⟩ = false := by simp [World.frozen?, hbx.res]
  clear hno hbx HB
  by_cases hlt : k < l.length
  · obtain ⟨b, off, ha, hc⟩ := HA.out.grown HX.out.grown
    obtain rfl := ha (by omega)
    obtain ⟨c1, c2⟩ := hc k hlt
    obtain ⟨E, hE⟩ := nmE (l[k]'hlt)
    rw [hE] at c1 c2
    have HE := aJj hE
    clear hc ha hE HA
    cases hst : (E.1.toList == nm.toList) with
    | true =>
     have hRE : R = E := by rw [← HR.out, dK6 hbig hlt HNO.out (by rw [HE.out]; exact hst), HE.out]
     subst hRE
     go_wp2
     refine bodyPost_ret (v := .agg #[.string R.1, .string R.2]) (by simp [results, results112, go_sem, hr0, hr1]) rfl ⟨rfl, ?_⟩
     exact aV8 (aV8 HX.out.grown (by omega) _) (by omega) _
    | false =>
     have hno2 := cXn hlt HNO.out (p := aWa nm) (by rw [HE.out]; exact hst)
     have HN2 := aJj hno2
     clear hno2
     go_wp2
     go_roundw
     case rel => exact ⟨k + 1, by omega, by go_num, HN2.out, HX.out⟩
     case measure => simp [intOf]; omega
  · have hR0 : R = (⟨#[]⟩, ⟨#[]⟩) := by rw [← HR.out]; exact dZa hbig (by omega) HNO.out
    subst hR0
    clear HA
    go_wp2
    refine bodyPost_ret (v := .agg #[.string ⟨#[]⟩, .string ⟨#[]⟩]) (by simp [results, results112, go_sem, hr0, hr1]) rfl ⟨rfl, ?_⟩
    exact aV8 (aV8 HX.out.grown (by omega) _) (by omega) _
open Go.RowKit Plain1 Go.Lib
theorem bQz : (prog.info? 5).map (fun i => (i.zero, i.size, i.bytes)) = some (some (.int .u8 0), 1, 1) := by kernel_rfl
theorem put1 (B : Nat) (v : Value) (n : Nat) (xs : List Value) (c : Int) (hp : 0 ≤ c) (h1 : c ≤ 127) (w : World) (hown : w.ownsRow B 5 1 v n xs) (hlen : n + 4 ≤ 140737488355328) (hBw : B ≤ w.heap.size) :
 Calls prog 97 #[v, .int .i64 c] w fun e w' => ∃ v', e = .returned v' ∧ w'.ownsRow B 5 1 v' (n + 1) (xs ++ [.int .u8 c]) ∧ ∃ o, (w.alloc o).grownBy w' v.ownBlock := by
 obtain ⟨i0, hi, hz0, hz1, hz2⟩ := info_parts bQz
 go_enter func97, ntmps97
 go_wp2_with (at_builtin; refine wpList_append_own _ rfl _ _ 22 rfl B 5 i0 (.int .u8 0) 1 1 underlying22 hi hz0 hz1 hz2 rfl (by decide) _ _ _ rfl (hown.alloc _) ⟨w.heap.size, 0, none⟩ 1 1 [.int .u8 c] rfl rfl ?c1 ?c2 ?c3 ?c4 ?c5 ?_)
 case c1 =>
  intro j u hj
  match j, hj with
  | 0, hj => simp at hj; subst hj; simp [Addr.add]
  | (j + 1), hj => simp at hj
 case c2 => intro u hu; simp at hu; subst hu; rfl
 case c3 => unfold maxLen; omega
 case c4 => omega
 case c5 => simp; omega
 intro v' w2 hown' hgrow _
 go_wp2
 go_ret
 exact ⟨_, rfl, hown', _, hgrow⟩
theorem put2 (B : Nat) (v : Value) (n : Nat) (xs : List Value) (c : Int) (h0 : 128 ≤ c) (h1 : c ≤ 2047) (w : World) (hown : w.ownsRow B 5 1 v n xs) (hlen : n + 4 ≤ 140737488355328) (hBw : B ≤ w.heap.size) :
 Calls prog 97 #[v, .int .i64 c] w fun e w' => ∃ v', e = .returned v' ∧ w'.ownsRow B 5 1 v' (n + 2) (xs ++ [.int .u8 (192 + c / 64), .int .u8 (128 + c % 64)]) ∧ ∃ o, (w.alloc o).grownBy w' v.ownBlock := by
 obtain ⟨i0, hi, hz0, hz1, hz2⟩ := info_parts bQz
 go_enter func97, ntmps97
 go_wp2_with (at_builtin; refine wpList_append_own _ rfl _ _ 22 rfl B 5 i0 (.int .u8 0) 1 1 underlying22 hi hz0 hz1 hz2 rfl (by decide) _ _ _ rfl (hown.alloc _) ⟨w.heap.size, 0, none⟩ 2 2 [.int .u8 (192 + c / 64), .int .u8 (128 + c % 64)] rfl rfl ?c1 ?c2 ?c3 ?c4 ?c5 ?_)
 case c1 =>
  intro j u hj
  match j, hj with
  | 0, hj => simp at hj; subst hj; simp [Addr.add]
  | 1, hj => simp at hj; subst hj; simp [Addr.add]
  | (j + 2), hj => simp at hj
 case c2 => intro u hu; simp at hu; rcases hu with rfl | rfl <;> rfl
 case c3 => unfold maxLen; omega
 case c4 => omega
 case c5 => simp; omega
 intro v' w2 hown' hgrow _
 go_wp2
 go_ret
 exact ⟨_, rfl, hown', _, hgrow⟩
theorem put3 (B : Nat) (v : Value) (n : Nat) (xs : List Value) (c : Int) (h0 : 2048 ≤ c) (h1 : c ≤ 65535) (w : World) (hown : w.ownsRow B 5 1 v n xs) (hlen : n + 4 ≤ 140737488355328) (hBw : B ≤ w.heap.size) :
 Calls prog 97 #[v, .int .i64 c] w fun e w' => ∃ v', e = .returned v' ∧ w'.ownsRow B 5 1 v' (n + 3) (xs ++ [.int .u8 (224 + c / 4096), .int .u8 (128 + c / 64 % 64), .int .u8 (128 + c % 64)]) ∧ ∃ o, (w.alloc o).grownBy w' v.ownBlock := by
 obtain ⟨i0, hi, hz0, hz1, hz2⟩ := info_parts bQz
 go_enter func97, ntmps97
 go_wp2_with (at_builtin; refine wpList_append_own _ rfl _ _ 22 rfl B 5 i0 (.int .u8 0) 1 1 underlying22 hi hz0 hz1 hz2 rfl (by decide) _ _ _ rfl (hown.alloc _) ⟨w.heap.size, 0, none⟩ 3 3 [.int .u8 (224 + c / 4096), .int .u8 (128 + c / 64 % 64), .int .u8 (128 + c % 64)] rfl rfl ?c1 ?c2 ?c3 ?c4 ?c5 ?_)
 case c1 =>
  intro j u hj
  match j, hj with
  | 0, hj => simp at hj; subst hj; simp [Addr.add]
  | 1, hj => simp at hj; subst hj; simp [Addr.add]
  | 2, hj => simp at hj; subst hj; simp [Addr.add]
  | (j + 3), hj => simp at hj
 case c2 => intro u hu; simp at hu; rcases hu with rfl | rfl | rfl <;> rfl
 case c3 => unfold maxLen; omega
 case c4 => omega
 case c5 => simp; omega
 intro v' w2 hown' hgrow _
 go_wp2
 go_ret
 exact ⟨_, rfl, hown', _, hgrow⟩
theorem put4 (B : Nat) (v : Value) (n : Nat) (xs : List Value) (c : Int) (h0 : 65536 ≤ c) (h1 : c ≤ 1114111) (w : World) (hown : w.ownsRow B 5 1 v n xs) (hlen : n + 4 ≤ 140737488355328) (hBw : B ≤ w.heap.size) :
 Calls prog 97 #[v, .int .i64 c] w fun e w' => ∃ v', e = .returned v' ∧ w'.ownsRow B 5 1 v' (n + 4) (xs ++ [.int .u8 (240 + c / 262144), .int .u8 (128 + c / 4096 % 64), .int .u8 (128 + c / 64 % 64), .int .u8 (128 + c % 64)]) ∧ ∃ o, (w.alloc o).grownBy w' v.ownBlock := by
 obtain ⟨i0, hi, hz0, hz1, hz2⟩ := info_parts bQz
 go_enter func97, ntmps97
 go_wp2_with (at_builtin; refine wpList_append_own _ rfl _ _ 22 rfl B 5 i0 (.int .u8 0) 1 1 underlying22 hi hz0 hz1 hz2 rfl (by decide) _ _ _ rfl (hown.alloc _) ⟨w.heap.size, 0, none⟩ 4 4 [.int .u8 (240 + c / 262144), .int .u8 (128 + c / 4096 % 64), .int .u8 (128 + c / 64 % 64), .int .u8 (128 + c % 64)] rfl rfl ?c1 ?c2 ?c3 ?c4 ?c5 ?_)
 case c1 =>
  intro j u hj
  match j, hj with
  | 0, hj => simp at hj; subst hj; simp [Addr.add]
  | 1, hj => simp at hj; subst hj; simp [Addr.add]
  | 2, hj => simp at hj; subst hj; simp [Addr.add]
  | 3, hj => simp at hj; subst hj; simp [Addr.add]
  | (j + 4), hj => simp at hj
 case c2 => intro u hu; simp at hu; rcases hu with rfl | rfl | rfl | rfl <;> rfl
 case c3 => unfold maxLen; omega
 case c4 => omega
 case c5 => simp; omega
 intro v' w2 hown' hgrow _
 go_wp2
 go_ret
 exact ⟨_, rfl, hown', _, hgrow⟩
theorem aW5 {B : Nat} {w w' : World} {o : Obj} {v : Value} {e : TypeId} {n size : Nat} {xs : List Value} (hown : w.ownsRow B e size v n xs) (hBw : B ≤ w.heap.size) (hg : (w.alloc o).grownBy w' v.ownBlock) : Below B w w' :=
 ((Below.refl B w).alloc hBw o).grown hg (by simp; omega) (fun k hk => (hown.lt k hk).1)
theorem dVc (B : Nat) (v : Value) (n : Nat) (xs : List Value) (c : Int) (hc : aZ5 c = true) (w : World) (hown : w.ownsRow B 5 1 v n xs) (hlen : n + 4 ≤ 140737488355328) (hBw : B ≤ w.heap.size) :
 Calls prog 97 #[v, .int .i64 c] w fun e w' => ∃ v', e = .returned v' ∧ w'.ownsRow B 5 1 v' (n + (encodeRuneZ c).length) (xs ++ (encodeRuneZ c).map (Value.int .u8)) ∧ Below B w w' := by
 have hr := (aJn c).1 hc
 by_cases h1 : c ≤ 127
 · refine (put1 B v n xs c (by omega) h1 w hown hlen hBw).mono ?_
   rintro e w' ⟨v', he, ho, o, hg⟩
   rw [encodeRuneZ_one (by omega) h1]
   exact ⟨v', he, ho, aW5 hown hBw hg⟩
 by_cases h2 : c ≤ 2047
 · refine (put2 B v n xs c (by omega) h2 w hown hlen hBw).mono ?_
   rintro e w' ⟨v', he, ho, o, hg⟩
   rw [encodeRuneZ_two (by omega) h2]
   exact ⟨v', he, ho, aW5 hown hBw hg⟩
 by_cases h3 : c ≤ 65535
 · refine (put3 B v n xs c (by omega) h3 w hown hlen hBw).mono ?_
   rintro e w' ⟨v', he, ho, o, hg⟩
   rw [encodeRuneZ_three (by omega)]
   exact ⟨v', he, ho, aW5 hown hBw hg⟩
 · refine (put4 B v n xs c (by omega) (by omega) w hown hlen hBw).mono ?_
   rintro e w' ⟨v', he, ho, o, hg⟩
   rw [encodeRuneZ_four (by omega) (by omega)]
   exact ⟨v', he, ho, aW5 hown hBw hg⟩
open Go.RowKit Lists Ents
theorem bZo (a : At5) (t : List At5) : aJ8 (a :: t) = .string a.of :: .string a.nm :: .bool a.words :: .bool a.has :: .string a.val :: aJ8 t := rfl
theorem bXa : ∀ (l : List At5) (i : Nat) (h : i < l.length), (aJ8 l)[5 * i]? = some (.string (l[i]'h).of) ∧ (aJ8 l)[5 * i + 1]? = some (.string (l[i]'h).nm) ∧ (aJ8 l)[5 * i + 2]? = some (.bool (l[i]'h).words) ∧ (aJ8 l)[5 * i + 3]? = some (.bool (l[i]'h).has) ∧ (aJ8 l)[5 * i + 4]? = some (.string (l[i]'h).val)
 | a :: t, 0, h => by rw [bZo]; exact ⟨rfl, rfl, rfl, rfl, rfl⟩
 | a :: t, i + 1, h => by
  have ih := bXa t i (by simpa using h)
  rw [bZo, show 5 * (i + 1) = 5 * i + 1 + 1 + 1 + 1 + 1 by omega]
  simpa using ih
theorem aWx {w : World} {base : Nat} {e : TypeId} {v : Value} {l : List (ByteArray × ByteArray)} (h : w.ownsRow base e 2 v l.length (aQc l)) : ∃ a c, v = .slice a l.length c ∧ aZ2 w a l := by
 rcases aJw h with ⟨rfl, hn⟩ | ⟨g, cap, rfl⟩
 · have hl : l = [] := List.eq_nil_of_length_eq_zero hn
   subst hl
   exact ⟨none, 0, rfl, 0, 0, fun hh => absurd hh (by simp), fun i hi => absurd hi (by simp)⟩
 · refine ⟨_, cap, rfl, g, 0, fun _ => rfl, fun i hi => ?_⟩
   have hg := aKa l i hi
   rw [Nat.mul_comm] at hg
   rw [Nat.zero_add]
   exact ⟨by rw [h.cellAt (i * 2) (by omega)]; exact hg.1, by rw [h.cellAt (i * 2 + 1) (by omega)]; exact hg.2⟩
theorem aWz {w : World} {base : Nat} {e : TypeId} {v : Value} {l : List At5} (h : w.ownsRow base e 5 v l.length (aJ8 l)) : ∃ a c, v = .slice a l.length c ∧ aWl w a l := by
 rcases aJw h with ⟨rfl, hn⟩ | ⟨g, cap, rfl⟩
 · have hl : l = [] := List.eq_nil_of_length_eq_zero hn
   subst hl
   exact ⟨none, 0, rfl, 0, 0, fun hh => absurd hh (by simp), fun i hi => absurd hi (by simp)⟩
 · refine ⟨_, cap, rfl, g, 0, fun _ => rfl, fun i hi => ?_⟩
   have hg := bXa l i hi
   rw [Nat.mul_comm] at hg
   rw [Nat.zero_add]
   exact ⟨by rw [h.cellAt (i * 5) (by omega)]; exact hg.1, by rw [h.cellAt (i * 5 + 1) (by omega)]; exact hg.2.1, by rw [h.cellAt (i * 5 + 2) (by omega)]; exact hg.2.2.1, by rw [h.cellAt (i * 5 + 3) (by omega)]; exact hg.2.2.2.1, by rw [h.cellAt (i * 5 + 4) (by omega)]; exact hg.2.2.2.2⟩
open Go.RowKit Ents
def cVy : Obj := .cells #[.string ⟨#[]⟩, .string ⟨#[]⟩, .bool false, .bool false, .string ⟨#[]⟩] 146
theorem dKi {o n : ByteArray} {e : At5} (h : (e.of.toList == o.toList) = false) : aV1 o n e = false := by unfold aV1; rw [h]; rfl
theorem dKh {o n : ByteArray} {e : At5} (h : (e.nm.toList == n.toList) = false) : aV1 o n e = false := by unfold aV1; rw [h, Bool.and_false]
theorem dKg {o n : ByteArray} {e : At5} (h1 : (e.of.toList == o.toList) = true) (h2 : (e.nm.toList == n.toList) = true) : aV1 o n e = true := by unfold aV1; rw [h1, h2]; rfl
theorem res5 {w W : World} {a a' : Option Addr} {n c n' c' : Nat} (h : DBox w W a n c a' n' c' cVy) :
 W.cell? ⟨w.heap.size + 1, 0, none⟩ = some (.string ⟨#[]⟩) ∧ W.cell? ⟨w.heap.size + 1, 1, none⟩ = some (.string ⟨#[]⟩) ∧ W.cell? ⟨w.heap.size + 1, 2, none⟩ = some (.bool false) ∧ W.cell? ⟨w.heap.size + 1, 3, none⟩ = some (.bool false) ∧ W.cell? ⟨w.heap.size + 1, 4, none⟩ = some (.string ⟨#[]⟩) ∧
 W.frozen? ⟨w.heap.size + 1, 0, none⟩ = false ∧ W.frozen? ⟨w.heap.size + 1, 1, none⟩ = false ∧ W.frozen? ⟨w.heap.size + 1, 2, none⟩ = false ∧ W.frozen? ⟨w.heap.size + 1, 3, none⟩ = false ∧ W.frozen? ⟨w.heap.size + 1, 4, none⟩ = false := by
 have hr := h.res
 unfold cVy at hr
 simp [World.cell?, World.frozen?, hr]
theorem dJf {w W : World} (h : w.grownBy W none) {k : Nat} (hk : w.heap.size ≤ k) (u0 u1 u2 u3 u4 : Value) :
 w.grownBy (((((W.setCell ⟨k, 0, none⟩ u0).setCell ⟨k, 1, none⟩ u1).setCell ⟨k, 2, none⟩ u2).setCell ⟨k, 3, none⟩ u3).setCell ⟨k, 4, none⟩ u4) none :=
 aV8 (aV8 (aV8 (aV8 (aV8 h hk _) hk _) hk _) hk _) hk _
end Go.Proofs.YtocnfoeaikiecaaGreatDoor
namespace Go.Proofs.YtocnfoeaikiecaaGreatDoor
open Go.RowKit Ents Tryz
theorem bQs (w : World) (a a' : Option Addr) (n c n' c' : Nat) (l : List At5) (o nm : ByteArray) (hn : n' = l.length) (hl : l.length ≤ 1048576) (h : aWl w a' l) :
 Calls prog 110 #[.agg #[.slice a n c, .slice a' n' c'], .string o, .string nm] w fun e w' =>
  e = .returned (.agg #[.string (attR l o nm).of, .string (attR l o nm).nm, .bool (attR l o nm).words, .bool (attR l o nm).has, .string (attR l o nm).val]) ∧ w.grownBy w' none := by
 subst hn
 obtain ⟨R, hR⟩ := nmE (attR l o nm)
 rw [hR]
 have HR := aJj hR
 clear hR
 have HA := aJj h
 clear h
 have HB := aJj (bKb w a n c a' l.length c' cVy)
 unfold cVy at HB
 by_cases hbig : 4000 < o.size ∨ 4000 < nm.size
 · have hR0 : R = zAtt := by rw [← HR.out]; exact dZt hbig
   subst hR0
   clear HR HA
   by_cases h1 : 4000 < o.size
   · clear hbig
     go_enter func110, ntmps110
     go_wp2
     exact bodyPost_ret (v := .agg #[.string ⟨#[]⟩, .string ⟨#[]⟩, .bool false, .bool false, .string ⟨#[]⟩]) (by simp [results, results110, go_sem]) rfl ⟨rfl, HB.out.grown⟩
   · have h2 : 4000 < nm.size := by omega
     clear hbig
     go_enter func110, ntmps110
     go_wp2
     exact bodyPost_ret (v := .agg #[.string ⟨#[]⟩, .string ⟨#[]⟩, .bool false, .bool false, .string ⟨#[]⟩]) (by simp [results, results110, go_sem]) rfl ⟨rfl, HB.out.grown⟩
 have h1 : ¬ 4000 < o.size := by omega
 have h2 : ¬ 4000 < nm.size := by omega
 have HBIG := aJj hbig
 clear hbig
 go_enter func110, ntmps110
 go_wp2
 go_loopw [7] (fun i wr => ∃ k : Nat, k ≤ l.length ∧ i = .int .i64 k ∧ (l.take k).find? (aV1 o nm) = none ∧ DBox w wr a n c a' l.length c' cVy) (fun i _ => l.length - (intOf i).toNat)
 case atStart => exact ⟨0, Nat.zero_le _, rfl, rfl, HB.out⟩
 case round =>
  obtain ⟨k, hk, rfl, hno, hbx⟩ := hrel
  have HNO := aJj hno
  have HX := aJj hbx
  obtain ⟨_, d0⟩ := hbx.cells
  obtain ⟨r0, r1, r2, r3, r4, f0, f1, f2, f3, f4⟩ := res5 hbx
  clear hno hbx HB
  by_cases hlt : k < l.length
  · obtain ⟨b, off, ha, hc⟩ := HA.out.grown HX.out.grown
    obtain rfl := ha (by omega)
    obtain ⟨c1, c2, c3, c4, c5⟩ := hc k hlt
    obtain ⟨E, hE⟩ := nmE (l[k]'hlt)
    rw [hE] at c1 c2 c3 c4 c5
    have HE := aJj hE
    clear hc ha hE HA
    cases hst : (E.of.toList == o.toList) with
    | true =>
     cases hsu : (E.nm.toList == nm.toList) with
     | true =>
      have hRE : R = E := by rw [← HR.out, dKj HBIG.out hlt HNO.out (by rw [HE.out]; exact dKg hst hsu), HE.out]
      subst hRE
      go_wp2
      refine bodyPost_ret (v := .agg #[.string R.of, .string R.nm, .bool R.words, .bool R.has, .string R.val]) (by simp [results, results110, go_sem, r0, r1, r2, r3, r4]) rfl ⟨rfl, ?_⟩
      exact dJf HX.out.grown (by omega) _ _ _ _ _
     | false =>
      have hno2 := cXn hlt HNO.out (p := aV1 o nm) (by rw [HE.out]; exact dKh hsu)
      have HN2 := aJj hno2
      clear hno2
      go_wp2
      go_roundw
      case rel => exact ⟨k + 1, by omega, by go_num, HN2.out, HX.out⟩
      case measure => simp [intOf]; omega
    | false =>
     have hno2 := cXn hlt HNO.out (p := aV1 o nm) (by rw [HE.out]; exact dKi hst)
     have HN2 := aJj hno2
     clear hno2
     go_wp2
     go_roundw
     case rel => exact ⟨k + 1, by omega, by go_num, HN2.out, HX.out⟩
     case measure => simp [intOf]; omega
  · have hR0 : R = zAtt := by rw [← HR.out]; exact dZs HBIG.out (by omega) HNO.out
    subst hR0
    clear HA
    go_wp2
    refine bodyPost_ret (v := .agg #[.string ⟨#[]⟩, .string ⟨#[]⟩, .bool false, .bool false, .string ⟨#[]⟩]) (by simp [results, results110, go_sem, r0, r1, r2, r3, r4]) rfl ⟨rfl, ?_⟩
    exact dJf HX.out.grown (by omega) _ _ _ _ _
end Go.Proofs.YtocnfoeaikiecaaGreatDoor
