import Derived.Test.YtocnfoeaikiecaaGreatDoorQW
set_option maxRecDepth 100000
set_option maxHeartbeats 16000000
set_option linter.unusedVariables false
namespace Go.Proofs.YtocnfoeaikiecaaGreatDoor
open Go.RowKit PlainR PlainJ Tryz
theorem dZm {W : World} {b i i' : Nat} {cur : Array Value} {t : TypeId} {u : Value} (hx : W.heap[b]? = some (.cells cur t (0, 0))) (hi : i < cur.size) : (W.setCell ⟨b, i, none⟩ u).cell? ⟨b, i', none⟩ = if i' = i then some u else W.cell? ⟨b, i', none⟩ := by
 have h1 := heap_setCell_same W b i _ _ u hx
 have e1 : (W.setCell ⟨b, i, none⟩ u).cell? ⟨b, i', none⟩ = (cur.setIfInBounds i u)[i']? := by simp [World.cell?, h1]
 have e2 : W.cell? ⟨b, i', none⟩ = cur[i']? := by simp [World.cell?, hx]
 rw [e1, e2]
 by_cases h : i' = i
 · subst h
   rw [if_pos rfl]
   simp [hi]
 · rw [if_neg h, Array.getElem?_setIfInBounds, if_neg (fun e => h e.symm)]
theorem QEv.at1 {W : World} {B b cap : Nat} {evs : List Ev} (h : QEv W B (.slice (some ⟨b, 0, none⟩) evs.length cap) evs) : (∃ cur, W.heap[b]? = some (.cells cur 37 (0, 0)) ∧ evs.length * 4 ≤ cur.size) ∧ ∀ (j : Nat) (hj : j < evs.length), W.cell? ⟨b, j * 4, none⟩ = some (.int .i64 (evs[j]'hj).kind) ∧ W.cell? ⟨b, j * 4 + 1, none⟩ = some (.string (evs[j]'hj).name) ∧ W.cell? ⟨b, j * 4 + 2, none⟩ = some (.string (evs[j]'hj).text) ∧ ∃ v, W.cell? ⟨b, j * 4 + 3, none⟩ = some v ∧ W.ownsRow B 54 2 v (evs[j]'hj).attrs.length (aQc (evs[j]'hj).attrs) := by
 obtain ⟨vs, hl, hr, ha⟩ := h
 constructor
 · rcases hr.2 with ⟨h', _⟩ | ⟨g', cap', cur, hv, _, hh, hn, _, hsz, _⟩
   · cases h'
   · injection hv with h1 h2 h3
     injection h1 with h1
     injection h1 with h1 _ _
     subst h1
     exact ⟨cur, hh, by rw [hsz]; exact Nat.mul_le_mul_right _ hn⟩
 · intro j hj
   have hzl : j < (evs.zip vs).length := by rw [List.length_zip, hl]; omega
   have hx := ha _ (List.getElem_mem hzl)
   have hz : (evs.zip vs)[j]'hzl = (evs[j]'hj, vs[j]'(by omega)) := List.getElem_zip
   have hc := bJ2 _ j hzl
   rw [hz] at hx hc
   simp only at hx hc
   exact ⟨(hr.cellAt _ (by omega)).trans hc.1, (hr.cellAt _ (by omega)).trans hc.2.1, (hr.cellAt _ (by omega)).trans hc.2.2.1, _, (hr.cellAt _ (by omega)).trans hc.2.2.2, hx⟩
theorem QEv.form {W : World} {B : Nat} {v : Value} {evs : List Ev} (h : QEv W B v evs) (h0 : 0 < evs.length) : ∃ b cap, v = .slice (some ⟨b, 0, none⟩) evs.length cap := by
 obtain ⟨vs, hl, hr, ha⟩ := h
 obtain ⟨ao, ac, rfl, hao⟩ := aQr hr
 obtain ⟨b, rfl⟩ := hao h0
 exact ⟨b, ac, rfl⟩
theorem QEv.upd {W : World} {B B' b cap : Nat} {evs : List Ev} (h : QEv W B (.slice (some ⟨b, 0, none⟩) evs.length cap) evs) {k : Nat} (hk : k < evs.length) (j : Nat) (hj : j < 4) (u : Value) (E' : Ev)
 (h0 : (if j = 0 then u else .int .i64 (evs[k]'hk).kind) = .int .i64 E'.kind) (h1 : (if j = 1 then u else .string (evs[k]'hk).name) = .string E'.name) (h2 : (if j = 2 then u else .string (evs[k]'hk).text) = .string E'.text)
 (h3 : j = 3 → W.ownsRow B' 54 2 u E'.attrs.length (aQc E'.attrs)) (h3' : j ≠ 3 → E'.attrs = (evs[k]'hk).attrs) : EvIn (W.setCell ⟨b, k * 4 + j, none⟩ u) (some ⟨b, 0, none⟩) (evs.set k E') := by
 obtain ⟨⟨cur, hx, hs⟩, hc⟩ := h.at1
 have hi : k * 4 + j < cur.size := by omega
 have hp := fun i' => dZm (i' := i') (u := u) hx hi
 have hrow : ∀ {B0 : Nat} {v : Value} {n : Nat} {xs : List Value}, W.ownsRow B0 54 2 v n xs → (W.setCell ⟨b, k * 4 + j, none⟩ u).ownsRow B0 54 2 v n xs := fun hv => aQ4 hv (fun q hq => Below.heap_setCell _ _ _ _ (by
  obtain ⟨cs, hcs⟩ := aQ3 hv hq
  exact aQ5 hcs hx (by decide)))
 refine ⟨b, 0, fun _ => rfl, fun q hq => ?_⟩
 have hq' : q < evs.length := by rw [List.length_set] at hq; exact hq
 obtain ⟨c0, c1, c2, v, c3, hv⟩ := hc q hq'
 rw [Nat.zero_add, hp, hp, hp, hp]
 by_cases hqk : q = k
 · subst hqk
   have he : (evs.set q E')[q]'hq = E' := by simp
   rw [he]
   refine ⟨?_, ?_, ?_, ?_⟩
   · rw [← h0]
     by_cases hj0 : j = 0
     · rw [if_pos (by omega), if_pos hj0]
     · rw [if_neg (by omega), if_neg hj0]; exact c0
   · rw [← h1]
     by_cases hj0 : j = 1
     · rw [if_pos (by omega), if_pos hj0]
     · rw [if_neg (by omega), if_neg hj0]; exact c1
   · rw [← h2]
     by_cases hj0 : j = 2
     · rw [if_pos (by omega), if_pos hj0]
     · rw [if_neg (by omega), if_neg hj0]; exact c2
   · by_cases hj0 : j = 3
     · obtain ⟨ao, ac, hf, hE⟩ := aKf (hrow (h3 hj0))
       exact ⟨ao, ac, by rw [if_pos (by omega), hf], hE⟩
     · rw [← h3' hj0] at hv
       obtain ⟨ao, ac, hf, hE⟩ := aKf (hrow hv)
       exact ⟨ao, ac, by rw [if_neg (by omega), c3, hf], hE⟩
 · have he : (evs.set k E')[q]'hq = evs[q]'hq' := by rw [List.getElem_set_ne (fun e => hqk e.symm)]
   rw [he, if_neg (by omega), if_neg (by omega), if_neg (by omega), if_neg (by omega)]
   obtain ⟨ao, ac, hf, hE⟩ := aKf (hrow hv)
   refine ⟨c0, c1, c2, ao, ac, by rw [c3, hf], hE⟩
theorem bJ0 : ∀ (l : List (Ev × Value)) (k : Nat), (aXb l).take (k * 4) = aXb (l.take k)
 | [], k => by simp [aXb]
 | x :: l, 0 => by simp [aXb]
 | x :: l, k + 1 => by
  have e : aXb (x :: l) = .int .i64 x.1.kind :: .string x.1.name :: .string x.1.text :: x.2 :: aXb l := rfl
  rw [e, show (k + 1) * 4 = k * 4 + 1 + 1 + 1 + 1 by omega]
  simp only [List.take_succ_cons, bJ0 l k]
  rfl
theorem bJ1 : ∀ (l : List (Ev × Value)) (k : Nat), (aXb l).drop (k * 4) = aXb (l.drop k)
 | [], k => by simp [aXb]
 | x :: l, 0 => by simp
 | x :: l, k + 1 => by
  have e : aXb (x :: l) = .int .i64 x.1.kind :: .string x.1.name :: .string x.1.text :: x.2 :: aXb l := rfl
  rw [e, show (k + 1) * 4 = k * 4 + 1 + 1 + 1 + 1 by omega]
  simp only [List.drop_succ_cons, bJ1 l k]
theorem aYy : ∀ (l : List (Ev × Value)), (∀ x ∈ l, x.2.oneCell' = true) → ∀ y ∈ aXb l, y.oneCell' = true
 | [], _, y, hy => by cases hy
 | x :: l, h, y, hy => by
  have e : aXb (x :: l) = .int .i64 x.1.kind :: .string x.1.name :: .string x.1.text :: x.2 :: aXb l := rfl
  rw [e] at hy
  simp only [List.mem_cons] at hy
  rcases hy with rfl | rfl | rfl | rfl | hy
  · rfl
  · rfl
  · rfl
  · exact h x (by simp)
  · exact aYy l (fun z hz => h z (by simp [hz])) y hy
theorem cX6 {W : World} {B : Nat} {e : TypeId} {size n : Nat} {v : Value} {xs : List Value} (h : W.ownsRow B e size v n xs) : v.oneCell' = true := by
 obtain ⟨a, c, rfl⟩ := aZi h
 rfl
structure cQe (evs : List Ev) : Prop where
 la : ∀ e ∈ evs, e.attrs.length ≤ 1048576
 nm : ∀ e ∈ evs, e.name.size ≤ 1048576
 na : ∀ e ∈ evs, ∀ a ∈ e.attrs, a.1.size ≤ 1048576
 len : evs.length ≤ 1048576
theorem EvOk.sml {evs : List Ev} (h : EvOk evs) : cQe evs := ⟨fun e he => by have := (h.nm e he).2.1; omega, fun e he => by have := (h.nm e he).1; omega, fun e he a ha => by have := (h.nm e he).2.2 a ha; omega, by have := h.len; omega⟩
theorem cQe.set {evs : List Ev} (h : cQe evs) (k : Nat) {E : Ev} (h1 : E.attrs.length ≤ 1048576) (h2 : E.name.size ≤ 1048576) (h3 : ∀ a ∈ E.attrs, a.1.size ≤ 1048576) : cQe (evs.set k E) := by
 have hm : ∀ e ∈ evs.set k E, e ∈ evs ∨ e = E := fun e he => List.mem_or_eq_of_mem_set he
 exact ⟨fun e he => (hm e he).elim (h.la e) (fun e' => by rw [e']; exact h1), fun e he => (hm e he).elim (h.nm e) (fun e' => by rw [e']; exact h2), fun e he => (hm e he).elim (h.na e) (fun e' => by rw [e']; exact h3), by rw [List.length_set]; exact h.len⟩
theorem bW0 {evs : List Ev} {k : Nat} (hk : k < evs.length) (h : ∀ e ∈ evs, e.kind = 1 → e.text.size = 0) {E : Ev} (h1 : E.kind = (evs[k]'hk).kind) (h2 : E.text = (evs[k]'hk).text) : PlainJ.Good (evs.set k E) := bW1 (fun e he hk1 => by
 rcases List.mem_or_eq_of_mem_set he with he | he
 · exact h e he hk1
 · subst he
   rw [h2]
   exact h _ (List.getElem_mem hk) (h1.symm.trans hk1))
theorem cY6 {evs : List Ev} {k : Nat} (hk : k < evs.length) (h : EvOk evs) (c : Int) : PlainJ.Good (evs.set k { (evs[k]'hk) with kind := c }) := by
 have e1 : evs = evs.take k ++ (evs[k]'hk) :: evs.drop (k + 1) := by
  rw [← List.drop_eq_getElem_cons hk, List.take_append_drop]
 have e2 : evs.set k { (evs[k]'hk) with kind := c } = evs.take k ++ { (evs[k]'hk) with kind := c } :: evs.drop (k + 1) := List.set_eq_take_append_cons_drop ▸ (by simp [hk])
 rw [e2]
 refine cY7 ?_ ?_ c
 · rw [← e1]; exact h.st
 · rw [← e1]; exact h.cnt
open Go.RowKit Lists Ents PlainR PlainJ
def dJw (w : World) (e : Ending) (w' : World) : Prop := ∃ a' c' evs, e = .returned (.slice a' (List.length evs) c') ∧ EvIn w' a' evs ∧ PlainJ.Good evs ∧ cQe evs ∧ Below w.heap.size w w'
theorem dK3 (x : Option Addr) (n c : Nat) (p q : Int) (w : World) : (Instr.field 46 (.agg #[.slice x n c, .int .i64 p, .int .i64 q]) 0).run prog w = .ok (.slice x n c) w := by kernel_rfl
theorem bVc : ∀ (l : List (ByteArray × ByteArray)), ∀ y ∈ aQc l, y.oneCell' = true := fun l y hy => by
 unfold aQc at hy
 obtain ⟨x, _, hy⟩ := List.mem_flatMap.1 hy
 simp only [List.mem_cons, List.not_mem_nil, or_false] at hy
 rcases hy with rfl | rfl <;> rfl
theorem QEv.cutOut {W Wa : World} {B b cap0 k : Nat} {v' : Value} {evs : List Ev} {vs : List Value} (hl : vs.length = evs.length) (hr : W.ownsRow B 37 4 (.slice (some ⟨b, 0, none⟩) evs.length cap0) evs.length (aXb (evs.zip vs))) (ha : ∀ x ∈ evs.zip vs, W.ownsRow B 54 2 x.2 x.1.attrs.length (aQc x.1.attrs)) (hk : k < evs.length) (hg : W.grownBy Wa (some b)) {m : Nat} (hm : m = k + (evs.length - (k + 1)))
 (ho : Wa.ownsRow B 37 4 v' m ((aXb (evs.zip vs)).take (k * 4) ++ (aXb (evs.zip vs)).drop ((k + 1) * 4))) : QEv Wa B v' (evs.take k ++ evs.drop (k + 1)) ∧ m = (evs.take k ++ evs.drop (k + 1)).length := by
 have hlen : m = (evs.take k ++ evs.drop (k + 1)).length := by rw [List.length_append, List.length_take, List.length_drop]; omega
 have hz : (evs.take k ++ evs.drop (k + 1)).zip (vs.take k ++ vs.drop (k + 1)) = (evs.zip vs).take k ++ (evs.zip vs).drop (k + 1) := by
  rw [List.zip_append (by rw [List.length_take, List.length_take]; omega)]
  simp only [List.zip_eq_zipWith, List.take_zipWith, List.drop_zipWith]
 refine ⟨⟨vs.take k ++ vs.drop (k + 1), ?_, ?_, fun x hx => ?_⟩, hlen⟩
 · rw [List.length_append, List.length_append, List.length_take, List.length_take, List.length_drop, List.length_drop]; omega
 · rw [hz, bVz, ← bJ0, ← bJ1, ← hlen]; exact ho
 · rw [hz] at hx
   have hmem : x ∈ evs.zip vs := by
    rcases List.mem_append.1 hx with hx | hx
    · exact List.mem_of_mem_take hx
    · exact List.mem_of_mem_drop hx
   have hx' := ha x hmem
   exact aQ4 hx' (fun q hq => hg.block q (hx'.lt q hq).2 (fun e => by
    obtain ⟨cs, hc⟩ := aQ3 hx' hq
    obtain ⟨cs', hc'⟩ := aQ3 hr rfl
    have e' := Option.some.inj e
    subst e'
    exact aQ5 hc hc' (by decide) rfl))
theorem cQe.sub {evs l : List Ev} (h : cQe evs) (hs : ∀ e ∈ l, e ∈ evs) (hl : l.length ≤ evs.length) : cQe l := ⟨fun e he => h.la e (hs e he), fun e he => h.nm e (hs e he), fun e he => h.na e (hs e he), Nat.le_trans hl h.len⟩
section
variable {W0 W W' : World} {g n cap B : Nat} {a : Option Addr} {v : Value} {evs : List Ev}
theorem QEv.src (h : QEv W B v evs) (hd : Dr W0 W g a n cap) (hg : W.grownBy W' (some g)) : QEv W' B v evs := h.keep (fun k cs t hc ht => hg.block k (gLt hc) (fun e => by
 obtain ⟨p, m, z, _, _, _, _, hb⟩ := hd.box
 have e' := Option.some.inj e
 subst e'
 exact aQ5 hc hb (by rcases ht with rfl | rfl <;> decide) rfl))
theorem QEv.below (h : QEv W B v evs) (hb : Below W.heap.size W W') : QEv W' B v evs := h.keep (fun k cs t hc ht => hb.block k (gLt hc))
theorem QEv.thaw {b cp : Nat} (h : QEv W B (.slice (some ⟨b, 0, none⟩) evs.length cp) evs) (i : Nat) : W.frozen? ⟨b, i, none⟩ = false := by
 obtain ⟨⟨cur, hx, _⟩, _⟩ := h.at1
 simp [World.frozen?, hx]
theorem QEv.lt {b cp : Nat} (h : QEv W B (.slice (some ⟨b, 0, none⟩) evs.length cp) evs) : b < W.heap.size ∧ B ≤ b := by
 obtain ⟨vs, hl, hr, ha⟩ := h
 exact ⟨(hr.lt b rfl).2, (hr.lt b rfl).1⟩
theorem QEv.far {W8 W9 W10 : World} {o o' : Obj} {r : Option Nat} (h : QEv W B v evs) (hd : Dr W0 W g a n cap) (h8 : Below W.heap.size W W8) (hg : (W8.alloc o).grownBy W9 (some g)) (hg' : (W9.alloc o').grownBy W10 r) (hr : ∀ k, r = some k → W.heap.size ≤ k) : QEv W10 B v evs := h.keep (fun k cs t hc ht => by
 have hlt := (gLt hc)
 have hkg : k ≠ g := fun e => by
  obtain ⟨p, m, z, _, _, _, _, hb⟩ := hd.box
  subst e
  exact aQ5 hc hb (by rcases ht with rfl | rfl <;> decide) rfl
 have s8 := h8.size
 have s9 := hg.size
 have l8 : k < (W8.alloc o).heap.size := by simp; omega
 rw [hg'.block k (by simp; omega) (fun e => by have := hr k e.symm; omega), heap_alloc_old _ _ (by omega), hg.block k l8 (fun e => hkg (Option.some.inj e)), heap_alloc_old _ _ (by omega)]
 exact h8.block k hlt)
end
theorem bVl {w : World} {a : Option Addr} {n cap : Nat} (hS : Fed w a n) : Calls prog 4 #[.slice a n cap] w (dJw w) := by
 have HS := aQ0 hS
 have hsrc := bVw a n cap w hS
 obtain ⟨i0, hi, hz0, hz1, hz2⟩ := info_parts cXk
 clear hS
 go_enter func4, ntmps4
 go_wp2_with fail
 refine hsrc.mono ?_
 rintro e w1 ⟨rfl, hd⟩
 have HD1 := aQ0 hd
 clear hsrc hd
 go_wp2_with fail
 refine (dZj HS.out HD1.out).mono ?_
 rintro e w2 ⟨t, rfl, ht, hd, hg⟩
 have HD2 := aQ0 hd
 clear hd hg HD1
 go_wp2_with fail
 refine (cWa t true w2 (by omega)).mono ?_
 rintro e w3 ⟨v, evs, a3, c3, rfl, hq3, ho3, hb3⟩
 have hB : w.heap.size ≤ w2.heap.size := HD2.out.below.size
 have HO := aQ0 ho3
 have HD3 := aQ0 (HD2.out.on hb3)
 have Q3 := aQ0 (hq3.base hB)
 have hlen := ho3.len
 obtain ⟨sa, sc, rfl, _⟩ := hq3.evIn
 have hfl := fun wx => dK3 sa evs.length sc a3 c3 wx
 clear hq3 hb3 HD2 ho3
 go_wp2_with fail
 refine (cWi HS.out HD3.out 5 (by omega)).mono ?_
 rintro e w4 ⟨b, rfl, hd, hg⟩
 have Q4 := aQ0 (Q3.out.src HD3.out hg)
 have HD4 := aQ0 hd
 clear hd hg HD3 Q3
 have hsame : Hid (dJw w (.returned (.slice sa evs.length sc)) w4) := aQ0 (by
  obtain ⟨a', c', hf, hE⟩ := Q4.out.evIn
  cases hf
  exact ⟨sa, sc, evs, rfl, hE, bW1 HO.out.st, HO.out.sml, HD4.out.below⟩)
 cases b with
 | false =>
  go_wp2
  go_ret
  exact hsame.out
 | true =>
 by_cases h0 : 0 < evs.length
 rotate_left
 · have h0i : ¬ (evs.length : Int) > 0 := by omega
   go_wp2
   go_ret
   exact hsame.out
 have h0i : (evs.length : Int) > 0 := by omega
 obtain ⟨b0, cap0, hf0⟩ := Q4.out.form h0
 cases hf0
 go_wp2_with fail
 refine (aJh HS.out HD4.out (evs.length : Int) (by omega)).mono ?_
 rintro e w5 ⟨r, rfl, hr0, hr1, hr2, hd, hg⟩
 obtain ⟨k, rfl⟩ : ∃ k : Nat, r = k := ⟨r.toNat, by omega⟩
 have hk : k < evs.length := by
  by_cases h1 : 1 < (evs.length : Int)
  · have := hr1 h1; omega
  · have := hr2 (by omega); omega
 have hki : (k : Int) < (evs.length : Int) := by omega
 have Q5 := aQ0 (Q4.out.src HD4.out hg)
 have HD5 := aQ0 hd
 clear hd hg HD4 Q4 hr0 hr1 hr2 hsame
 obtain ⟨vs, hvl, hvr, hva⟩ := Q5.out
 have hone : ∀ y ∈ aXb (evs.zip vs), y.oneCell' = true := aYy _ (fun x hx => cX6 (hva x hx))
 have R5 : Hid ((w5.alloc (.cells #[] 37)).ownsRow w5.heap.size 37 4 (.slice (some ⟨w5.heap.size, 0, none⟩) 0 0) 0 []) := aQ0 (World.ownsRow_made w5 #[] 0 (Nat.le_refl _) (by decide) rfl)
 have SR := aQ0 (hvr.alloc (.cells #[] 37))
 have HVA := aQ0 hva
 have hmx : 0 + evs.length ≤ maxLen := by unfold maxLen; omega
 have hmy : (0 + evs.length) * 64 ≤ 140737488355328 := by omega
 have hmz := bQ4 (Nat.le_refl w5.heap.size) (.cells #[] 37)
 have hB5 : w.heap.size ≤ w5.heap.size := HD5.out.below.size
 clear hvr hva
 go_wp2_with (at_builtin; refine aJd rfl _ _ 23 rfl w5.heap.size w.heap.size 37 i0 (.agg #[.int .i64 0, .string ⟨#[]⟩, .string ⟨#[]⟩, .slice none 0 0]) 4 64 underlying23 hi hz0 hz1 hz2 rfl (by decide) _ _ _ rfl R5.out _ _ _ rfl SR.out hone hmx hmy hmz ?_; intro v6 w6 hown6 hgrow6; rw [Nat.zero_add, List.nil_append] at hown6; obtain ⟨a6, c6, hv6, hao⟩ := aQr hown6; obtain ⟨b6, hb6⟩ := hao h0; subst hb6; subst hv6; replace hown6 := aQ0 hown6; replace hgrow6 := aQ0 hgrow6; clear hao)
 have Q6 : Hid (QEv w6 w.heap.size (.slice (some ⟨b6, 0, none⟩) evs.length c6) evs) := aQ0 ⟨vs, hvl, aJx hown6.out hB5, fun x hx => aQ4 ((HVA.out x hx).alloc (.cells #[] 37)) (fun q hq => hgrow6.out.block q (((HVA.out x hx).alloc (.cells #[] 37)).lt q hq).2 (fun e => by
  have h1 := (R5.out.lt q e.symm).1
  have h2 := ((HVA.out x hx).lt q hq).2
  omega))⟩
 have HD6 := aQ0 ((HD5.out.alloc (.cells #[] 37)).grown hgrow6.out (fun e => by have h1 := HD5.out.lt; have h2 := (R5.out.lt _ e).1; omega) (fun q hq => by have := (R5.out.lt q hq).1; omega))
 clear R5 SR HVA hmx hmy hmz hone hown6 hgrow6 HD5 Q5 hvl
 go_wp2_with fail
 refine (aJh HS.out HD6.out 5 (by omega)).mono ?_
 rintro e w7 ⟨r, rfl, h0', h1', -, hd, hg⟩
 have h1'' := h1' (by omega)
 have Q7 := aQ0 (Q6.out.src HD6.out hg)
 have HD7 := aQ0 hd
 clear hd hg HD6 Q6 h1'
 obtain ⟨⟨cur, hx, hcs⟩, hc⟩ := Q7.out.at1
 obtain ⟨d0, d1, d2, vk, d3, hvk⟩ := hc k hk
 obtain ⟨E, hE⟩ := nmE (evs[k]'hk)
 rw [hE] at d0 d1 d2 hvk
 obtain ⟨ka, kc, rfl⟩ := aZi hvk
 have HVK := aQ0 hvk
 have HE := aQ0 hE
 have hbl := Q7.out.lt
 have hEm := HO.out.nm E (by rw [← hE]; exact List.getElem_mem hk)
 have hr : r = 0 ∨ r = 1 ∨ r = 2 ∨ r = 3 ∨ r = 4 := by omega
 clear hc hx hcs h0' h1'' hvk hE
 rcases hr with rfl | rfl | rfl | rfl | rfl
 · skip
   obtain ⟨vs7, hvl7, hvr7, hva7⟩ := Q7.out
   have hcap := aWs hvr7
   have HVR7 := aQ0 hvr7
   have HVA7 := aQ0 hva7
   have hcp : k ≤ c6 := by omega
   have hk1 : k + 1 ≤ c6 := by omega
   have hk2 : k + 1 ≤ evs.length := by omega
   have hwk : IntKind.i64.wrap ((k : Int) + 1) = (k : Int) + 1 := Strs2.aXt (by omega) (by omega)
   have hkb : (0 : Int) ≤ (k : Int) + 1 ∧ (k : Int) + 1 ≤ (evs.length : Int) := by omega
   have hkb1 := hkb.1
   have hkb2 := hkb.2
   clear d0 d1 d2 d3
   by_cases hce : c6 = k + 1
   · have hne : evs.length = k + 1 := by omega
     have HNE := aQ0 hne
     have hkk : (k : Int) ≤ (k : Int) + 1 := by omega
     subst hce
     clear hne
     have NW : Hid (∀ j u, ([] : List Value)[j]? = some u → w7.drew.cell? ((⟨b6, 0, none⟩ : Addr).add j) = some u) := aQ0 (fun j u hj => by simp at hj)
     have CUT := aQ0 (aW8 (m := k) hvr7.drew (by omega))
     have hone0 : ∀ y ∈ ([] : List Value), y.oneCell' = true := fun y hy => aYy _ (fun x hx => cX6 (hva7 x hx)) y (by cases hy)
     go_wp2_with fail
     go_region_law (refine aQn rfl (.tmp 38) (.tmp 42) 23 rfl w.heap.size 37 i0 (.agg #[.int .i64 0, .string ⟨#[]⟩, .string ⟨#[]⟩, .slice none 0 0]) 4 64 underlying23 hi hz0 hz1 hz2 rfl (by decide) (.slice (some ⟨b6, 0, none⟩) k (k + 1)) k ((aXb (evs.zip vs7)).take (k * 4)) (by simp [Act.eval, Act.put]) CUT.out ⟨b6, 0, none⟩ 0 0 ([] : List Value) (by simp [Act.eval, Act.put]) (by simp) NW.out hone0 (by unfold maxLen; omega) (by omega) HD7.out.below.size ?_; intro v8 wa hoa hga; obtain ⟨a8, c8, hv8⟩ := aZi hoa; subst hv8; replace hoa := aQ0 hoa; replace hga := aQ0 hga)
     all_goals
      go_wp2
      go_ret
      obtain ⟨hqe, hlen8⟩ := QEv.cutOut hvl7 (HVR7.out.drew) (fun x hx => (HVA7.out x hx).drew) hk hga.out (m := k + 0) (by have := HNE.out; omega) (by have h := hoa.out; rw [List.append_nil] at h; rw [List.drop_eq_nil_of_le (by rw [hvr7.1]; have := HNE.out; omega), List.append_nil]; exact h)
      obtain ⟨a9, c9, hf9, hE9⟩ := hqe.evIn
      exact ⟨a9, c9, _, by rw [← hf9]; rfl, hE9, bW1 (fun e he => HO.out.st e (by rcases List.mem_append.1 he with he | he; exact List.mem_of_mem_take he; exact List.mem_of_mem_drop he)), HO.out.sml.sub (fun e he => by rcases List.mem_append.1 he with he | he; exact List.mem_of_mem_take he; exact List.mem_of_mem_drop he) (by rw [List.length_append, List.length_take, List.length_drop]; omega), (HD7.out.below.drew).grown hga.out HD7.out.below.size (fun q hq => by simp only [Value.ownBlock, Option.some.injEq] at hq; omega)⟩
   · have hk3 : k + 1 < c6 := by omega
     have NW : Hid (∀ j u, ((aXb (evs.zip vs7)).drop ((k + 1) * 4))[j]? = some u → w7.drew.cell? ((⟨b6, (k + 1) * 4, none⟩ : Addr).add j) = some u) := aQ0 (fun j u hj => by
      rw [List.getElem?_drop] at hj
      have hlt : (k + 1) * 4 + j < (aXb (evs.zip vs7)).length := (List.getElem?_eq_some_iff.1 hj).1
      have hc := hvr7.cellAt ((k + 1) * 4 + j) (by rw [hvr7.1] at hlt; exact hlt)
      have hadd : ((⟨b6, (k + 1) * 4, none⟩ : Addr).add j) = ⟨b6, (k + 1) * 4 + j, none⟩ := by simp [Addr.add]
      rw [hadd]
      exact hc.trans hj)
     have CUT := aQ0 (aW8 (m := k) hvr7.drew (by omega))
     have hone0 : ∀ y ∈ (aXb (evs.zip vs7)).drop ((k + 1) * 4), y.oneCell' = true := fun y hy => aYy _ (fun x hx => cX6 (hva7 x hx)) y (List.mem_of_mem_drop hy)
     go_wp2_with fail
     go_region_law (refine aQn rfl (.tmp 38) (.tmp 42) 23 rfl w.heap.size 37 i0 (.agg #[.int .i64 0, .string ⟨#[]⟩, .string ⟨#[]⟩, .slice none 0 0]) 4 64 underlying23 hi hz0 hz1 hz2 rfl (by decide) (.slice (some ⟨b6, 0, none⟩) k c6) k ((aXb (evs.zip vs7)).take (k * 4)) (by simp [Act.eval, Act.put]) CUT.out ⟨b6, (k + 1) * 4, none⟩ (evs.length - (k + 1)) (c6 - (k + 1)) ((aXb (evs.zip vs7)).drop ((k + 1) * 4)) (by simp [Act.eval, Act.put]) (by rw [List.length_drop, hvr7.1]; omega) NW.out hone0 (by unfold maxLen; omega) (by omega) HD7.out.below.size ?_; intro v8 wa hoa hga; obtain ⟨a8, c8, hv8⟩ := aZi hoa; subst hv8; replace hoa := aQ0 hoa; replace hga := aQ0 hga)
     all_goals
      go_wp2
      go_ret
      obtain ⟨hqe, hlen8⟩ := QEv.cutOut hvl7 (HVR7.out.drew) (fun x hx => (HVA7.out x hx).drew) hk hga.out (m := k + (evs.length - (k + 1))) (by omega) (hoa.out)
      obtain ⟨a9, c9, hf9, hE9⟩ := hqe.evIn
      exact ⟨a9, c9, _, by rw [← hf9]; rfl, hE9, bW1 (fun e he => HO.out.st e (by rcases List.mem_append.1 he with he | he; exact List.mem_of_mem_take he; exact List.mem_of_mem_drop he)), HO.out.sml.sub (fun e he => by rcases List.mem_append.1 he with he | he; exact List.mem_of_mem_take he; exact List.mem_of_mem_drop he) (by rw [List.length_append, List.length_take, List.length_drop]; omega), (HD7.out.below.drew).grown hga.out HD7.out.below.size (fun q hq => by simp only [Value.ownBlock, Option.some.injEq] at hq; omega)⟩
 · go_wp2_with fail
   refine (aX7 HS.out (HD7.out.alloc _) _ 4 4 7 (aQy (S := 7) (by simp [aXf])) (by have := HD7.out.lt; omega) (by omega) (by omega)).mono ?_
   rintro e w8 ⟨t8, rfl, ht8, hd, hg⟩
   have Q8 := aQ0 ((Q7.out.below (bAl)).src (HD7.out.alloc _) hg)
   have HD8 := aQ0 hd
   have e1 := ((Q8.out.at1).2 k hk).2.1
   have f1 := Q8.out.thaw (k * 4 + 1)
   clear hd hg d0 d1 d2 d3
   go_wp2
   go_ret
   exact ⟨_, _, evs.set k { E with name := t8 }, by rw [List.length_set]; rfl, Q8.out.upd (B' := 0) hk 1 (by omega) (.string t8) { E with name := t8 } (by rw [HE.out]; rfl) rfl (by rw [HE.out]; rfl) (fun h => absurd h (by decide)) (fun _ => by rw [HE.out]), bW0 hk HO.out.st (by rw [HE.out]) (by rw [HE.out]), HO.out.sml.set k (by show E.attrs.length ≤ 1048576; omega) (by show t8.size ≤ 1048576; omega) (fun a ha => by have := hEm.2.2 a ha; omega), HD8.out.below.setCell (by simp only; omega) _⟩
 · skip
   obtain ⟨iA, hA, hA0, hA1, hA2⟩ := info_parts bQ2
   have hEl := hEm.2.1
   have R7 : Hid ((w7.alloc (.cells #[] 54)).ownsRow w7.heap.size 54 2 (.slice (some ⟨w7.heap.size, 0, none⟩) 0 0) 0 []) := aQ0 (World.ownsRow_made w7 #[] 0 (Nat.le_refl _) (by decide) rfl)
   have SR := aQ0 (HVK.out.alloc (.cells #[] 54))
   have B7 := aQ0 (show Below w7.heap.size w7 (w7.alloc (.cells #[] 54)) from bAl)
   have hmx : 0 + E.attrs.length ≤ maxLen := by unfold maxLen; omega
   have hmy : (0 + E.attrs.length) * 32 ≤ 140737488355328 := by omega
   have hmz := bQ4 (Nat.le_refl w7.heap.size) (.cells #[] 54)
   have hacs := bVc E.attrs
   have d3o : ∀ o, (w7.alloc o).cell? ⟨b6, k * 4 + 3, none⟩ = some (.slice ka E.attrs.length kc) := fun o => aXo d3
   have hm4 : E.attrs.length + 1 ≤ maxLen := by unfold maxLen; omega
   have hm5 : (E.attrs.length + 1) * 32 ≤ 140737488355328 := by omega
   go_wp2_with (at_builtin; refine aJd rfl _ _ 31 rfl w7.heap.size w.heap.size 54 iA (.agg #[.string ByteArray.empty, .string ByteArray.empty]) 2 32 underlying31 hA hA0 hA1 hA2 rfl (by decide) _ _ _ rfl R7.out _ _ _ rfl SR.out hacs hmx hmy hmz ?_; intro v8 w8 hown8 hgrow8; rw [Nat.zero_add, List.nil_append] at hown8; obtain ⟨a8, c8, hv8⟩ := aZi hown8; subst hv8; replace hown8 := aQ0 hown8; replace hgrow8 := aQ0 hgrow8)
   have B8 := aQ0 (B7.out.grown hgrow8.out hmz (fun j hj => (R7.out.lt j hj).1))
   have HD8 := aQ0 (HD7.out.on B8.out)
   refine (aJh HS.out (HD8.out.alloc _) 8 (by omega)).mono ?_
   rintro e w9 ⟨r9, rfl, h90, h91, -, hd, hg⟩
   have h91' := h91 (by omega)
   obtain ⟨j, rfl⟩ : ∃ j : Nat, r9 = j := ⟨r9.toNat, by omega⟩
   have hj8 : j < 8 := by omega
   have hji : (j : Int) < 8 := by omega
   have hgl := HD8.out.lt
   have hT9 := (aQy (S := 36) (by simp [aXf])).grown hg (by omega)
   obtain ⟨x1, hx1, hs1⟩ := hT9 (j * 2) (by simp; omega)
   obtain ⟨x2, hx2, hs2⟩ := hT9 (j * 2 + 1) (by simp; omega)
   have hown9a := aQ0 (aQ4 (hown8.out.alloc _) (fun q hq => hg.block q ((hown8.out.alloc _).lt q hq).2 (fun e => by
    obtain ⟨cs, hc⟩ := aQ3 (hown8.out) hq
    obtain ⟨p, m, z, _, _, _, _, hb⟩ := HD8.out.box
    have e' := Option.some.inj e
    subst e'
    exact aQ5 hc hb (by decide) rfl)))
   have HD9 := aQ0 hd
   have HG9 := aQ0 hg
   have hsz9 : w7.heap.size ≤ w9.heap.size := Nat.le_trans B8.out.size (Nat.le_trans (by simp) hg.size)
   have hone2 : ∀ u ∈ [Value.string x1, .string x2], u.oneCell' = true := by intro u hu; simp at hu; rcases hu with rfl | rfl <;> rfl
   clear hd hg hT9 h90 h91
   go_wp2_with (at_builtin; refine wpList_append_own _ rfl _ _ 31 rfl w7.heap.size 54 iA (.agg #[.string ByteArray.empty, .string ByteArray.empty]) 2 32 underlying31 hA hA0 hA1 hA2 rfl (by decide) _ _ _ rfl (hown9a.out.alloc _) ⟨_, 0, none⟩ 1 1 [.string x1, .string x2] rfl rfl (aZl _ _ _ _) hone2 hm4 hm5 (bQ4 hsz9 _) ?_; intro v10 w10 hown10 hgrow10 _; obtain ⟨a10, c10, hv10⟩ := aZi hown10; subst hv10; have Q10 := aQ0 (Q7.out.far HD7.out B8.out HG9.out hgrow10 (fun q hq => (hown8.out.lt q hq).1)); have HD10 := aQ0 ((HD9.out.alloc _).grown hgrow10 (by intro e; have h1 := (hown8.out.lt _ e).1; have h2 := HD7.out.lt; omega) (fun q hq => by have h1 := (hown8.out.lt q hq).1; have h2 := HD7.out.below.size; omega)); have e3 := ((Q10.out.at1).2 k hk).2.2.2; obtain ⟨ve, e3, _⟩ := e3; have f3 := Q10.out.thaw (k * 4 + 3); replace hown10 := aQ0 hown10; clear hgrow10)
   go_ret
   have hrow : w10.ownsRow w7.heap.size 54 2 (.slice a10 (E.attrs.length + 1) c10) (E.attrs ++ [(x1, x2)]).length (aQc (E.attrs ++ [(x1, x2)])) := by
    rw [aVj, List.length_append]
    exact hown10.out
   exact ⟨_, _, evs.set k { E with attrs := E.attrs ++ [(x1, x2)] }, by rw [List.length_set]; rfl, Q10.out.upd (B' := w7.heap.size) hk 3 (by omega) _ _ (by rw [HE.out]; rfl) (by rw [HE.out]; rfl) (by rw [HE.out]; rfl) (fun _ => hrow) (fun h => absurd rfl h), bW0 hk HO.out.st (by rw [HE.out]) (by rw [HE.out]), HO.out.sml.set k (by simp; omega) (by show E.name.size ≤ 1048576; omega) (fun a ha => by
    rcases List.mem_append.1 (show a ∈ E.attrs ++ _ from ha) with ha | ha
    · have := hEm.2.2 a ha; omega
    · simp at ha; subst ha; show x1.size ≤ 1048576; omega), HD10.out.below.setCell (by simp only; omega) _⟩
 · skip
   obtain ⟨iA, hA, hA0, hA1, hA2⟩ := info_parts bQ2
   have hEl := hEm.2.1
   have R7 : Hid ((w7.alloc (.cells #[] 54)).ownsRow w7.heap.size 54 2 (.slice (some ⟨w7.heap.size, 0, none⟩) 0 0) 0 []) := aQ0 (World.ownsRow_made w7 #[] 0 (Nat.le_refl _) (by decide) rfl)
   have SR := aQ0 (HVK.out.alloc (.cells #[] 54))
   have B7 := aQ0 (show Below w7.heap.size w7 (w7.alloc (.cells #[] 54)) from bAl)
   have hmx : 0 + E.attrs.length ≤ maxLen := by unfold maxLen; omega
   have hmy : (0 + E.attrs.length) * 32 ≤ 140737488355328 := by omega
   have hmz := bQ4 (Nat.le_refl w7.heap.size) (.cells #[] 54)
   have hacs := bVc E.attrs
   have d3o : ∀ o, (w7.alloc o).cell? ⟨b6, k * 4 + 3, none⟩ = some (.slice ka E.attrs.length kc) := fun o => aXo d3
   have hm4 : E.attrs.length + 2 ≤ maxLen := by unfold maxLen; omega
   have hm5 : (E.attrs.length + 2) * 32 ≤ 140737488355328 := by omega
   have hone4 : ∀ u ∈ [Value.string ⟨#[120, 109, 108, 110, 115, 58, 113]⟩, .string ⟨#[117, 49]⟩, .string ⟨#[113, 58, 107]⟩, .string ⟨#[50]⟩], u.oneCell' = true := by intro u hu; simp at hu; rcases hu with rfl | rfl | rfl | rfl <;> rfl
   go_wp2_with (at_builtin; first | (have h8 := hown8; refine wpList_append_own _ rfl _ _ 31 rfl w7.heap.size 54 iA (.agg #[.string ByteArray.empty, .string ByteArray.empty]) 2 32 underlying31 hA hA0 hA1 hA2 rfl (by decide) _ _ _ rfl (h8.out.alloc _) ⟨_, 0, none⟩ 2 2 [.string ⟨#[120, 109, 108, 110, 115, 58, 113]⟩, .string ⟨#[117, 49]⟩, .string ⟨#[113, 58, 107]⟩, .string ⟨#[50]⟩] rfl rfl (aWc _ _ _ _ _ _ _ rfl) hone4 hm4 hm5 (bQ4 (Nat.le_trans hmz hgrow8.out.size) _) ?_; intro v9 w9 hown9 hgrow9 _; obtain ⟨a9, c9, hv9⟩ := aZi hown9; subst hv9; have B9 := aQ0 (cQ8 B7.out R7.out hgrow8.out h8.out hgrow9); have Q9 := aQ0 (Q7.out.below B9.out); have e3 : w9.cell? ⟨b6, k * 4 + 3, none⟩ = some (.slice ka E.attrs.length kc) := aQ2 (B9.out.block _ hbl.1) d3; have f3 := Q9.out.thaw (k * 4 + 3); replace hown9 := aQ0 hown9; clear hgrow9) | (refine aJd rfl _ _ 31 rfl w7.heap.size w.heap.size 54 iA (.agg #[.string ByteArray.empty, .string ByteArray.empty]) 2 32 underlying31 hA hA0 hA1 hA2 rfl (by decide) _ _ _ rfl R7.out _ _ _ rfl SR.out hacs hmx hmy hmz ?_; intro v8 w8 hown8 hgrow8; rw [Nat.zero_add, List.nil_append] at hown8; obtain ⟨a8, c8, hv8⟩ := aZi hown8; subst hv8; replace hown8 := aQ0 hown8; replace hgrow8 := aQ0 hgrow8))
   go_ret
   have hrow : w9.ownsRow w7.heap.size 54 2 (.slice a9 (E.attrs.length + 2) c9) (E.attrs ++ [((⟨#[120, 109, 108, 110, 115, 58, 113]⟩ : ByteArray), (⟨#[117, 49]⟩ : ByteArray)), ((⟨#[113, 58, 107]⟩ : ByteArray), (⟨#[50]⟩ : ByteArray))]).length (aQc (E.attrs ++ [((⟨#[120, 109, 108, 110, 115, 58, 113]⟩ : ByteArray), (⟨#[117, 49]⟩ : ByteArray)), ((⟨#[113, 58, 107]⟩ : ByteArray), (⟨#[50]⟩ : ByteArray))])) := by
    have e1 : aQc (E.attrs ++ [((⟨#[120, 109, 108, 110, 115, 58, 113]⟩ : ByteArray), (⟨#[117, 49]⟩ : ByteArray)), ((⟨#[113, 58, 107]⟩ : ByteArray), (⟨#[50]⟩ : ByteArray))]) = aQc E.attrs ++ [.string ⟨#[120, 109, 108, 110, 115, 58, 113]⟩, .string ⟨#[117, 49]⟩, .string ⟨#[113, 58, 107]⟩, .string ⟨#[50]⟩] := by simp [aQc]
    rw [e1, List.length_append]
    exact hown9.out
   exact ⟨_, _, evs.set k { E with attrs := E.attrs ++ [((⟨#[120, 109, 108, 110, 115, 58, 113]⟩ : ByteArray), (⟨#[117, 49]⟩ : ByteArray)), ((⟨#[113, 58, 107]⟩ : ByteArray), (⟨#[50]⟩ : ByteArray))] }, by rw [List.length_set]; rfl, Q9.out.upd (B' := w7.heap.size) hk 3 (by omega) _ _ (by rw [HE.out]; rfl) (by rw [HE.out]; rfl) (by rw [HE.out]; rfl) (fun _ => hrow) (fun h => absurd rfl h), bW0 hk HO.out.st (by rw [HE.out]) (by rw [HE.out]), HO.out.sml.set k (by simp; omega) (by show E.name.size ≤ 1048576; omega) (fun a ha => by
    rcases List.mem_append.1 (show a ∈ E.attrs ++ _ from ha) with ha | ha
    · have := hEm.2.2 a ha; omega
    · simp at ha; rcases ha with rfl | rfl <;> decide), (HD7.out.on B9.out).below.setCell (by simp only; omega) _⟩
 · go_wp2_with fail
   refine (aJh HS.out HD7.out 7 (by omega)).mono ?_
   rintro e w8 ⟨r8, rfl, _, _, -, hd, hg⟩
   have Q8 := aQ0 (Q7.out.src HD7.out hg)
   have HD8 := aQ0 hd
   have e0 := ((Q8.out.at1).2 k hk).1
   have f0 := Q8.out.thaw (k * 4)
   clear hd hg d0 d1 d2 d3
   go_wp2
   go_ret
   have hu := Q8.out.upd (B' := 0) hk 0 (by omega) (.int .i64 r8) { E with kind := r8 } rfl (by rw [HE.out]; rfl) (by rw [HE.out]; rfl) (fun h => absurd h (by decide)) (fun _ => by rw [HE.out])
   have hgd := cY6 hk HO.out r8
   rw [HE.out] at hgd
   exact ⟨_, _, evs.set k { E with kind := r8 }, by rw [List.length_set]; rfl, hu, hgd, HO.out.sml.set k (by show E.attrs.length ≤ 1048576; omega) (by show E.name.size ≤ 1048576; omega) (fun a ha => by have := hEm.2.2 a ha; omega), HD8.out.below.setCell (by simp only; omega) _⟩
end Go.Proofs.YtocnfoeaikiecaaGreatDoor
