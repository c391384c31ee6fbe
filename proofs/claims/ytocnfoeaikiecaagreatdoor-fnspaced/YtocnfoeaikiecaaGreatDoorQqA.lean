import Derived.Test.YtocnfoeaikiecaaGreatDoorPlM
set_option maxRecDepth 100000
set_option linter.unusedVariables false
namespace Go.Proofs.YtocnfoeaikiecaaGreatDoor
open Go.RowKit Lists Ents PlainR Tryz
theorem qT {a b c : World} {r : Option Nat} (h : a.grownBy b r) (k : b.grownBy c r) : a.grownBy c r :=
 ⟨k.os.trans h.os, k.tape.trans h.tape, k.output.trans h.output, Nat.le_trans h.size k.size, fun i hi hr => (k.block i (Nat.lt_of_lt_of_le hi h.size) hr).trans (h.block i hi hr)⟩
theorem qD (W : World) (r : Option Nat) : W.grownBy W.drew r := ⟨rfl, rfl, rfl, Nat.le_refl _, fun _ _ _ => rfl⟩
structure Sx where
 ents : List (ByteArray × ByteArray)
 atts : List At5
 evs : List Ev
 txt : List Int
 opn : List ByteArray
 usg : List ByteArray
 sp : Nat
 cd : Int
 sn : Bool
 hd : Bool
theorem aKf {W : World} {B : Nat} {t : TypeId} {v : Value} {l : List (ByteArray × ByteArray)} (h : W.ownsRow B t 2 v l.length (aQc l)) : ∃ ao ac, v = .slice ao l.length ac ∧ aZ2 W ao l := by
 rcases h.2 with ⟨h0, hn⟩ | ⟨g, cap, cur, hv, _⟩
 · exact ⟨none, 0, by rw [h0, hn], 0, 0, fun h => by omega, fun i hi => by omega⟩
 · subst hv
   refine ⟨_, _, rfl, g, 0, fun _ => rfl, fun j hj => ?_⟩
   have h1 := h.cellAt (j * 2) (by omega)
   have h2 := h.cellAt (j * 2 + 1) (by omega)
   obtain ⟨a1, a2⟩ := aKa l j hj
   rw [Nat.zero_add]
   exact ⟨by rw [h1, Nat.mul_comm]; exact a1, by rw [h2, Nat.mul_comm]; exact a2⟩
def aXb : List (Ev × Value) → List Value
 | [] => []
 | x :: l => .int .i64 x.1.kind :: .string x.1.name :: .string x.1.text :: x.2 :: aXb l
theorem bVz (a b : List (Ev × Value)) : aXb (a ++ b) = aXb a ++ aXb b := by
 induction a with
 | nil => rfl
 | cons x l ih => simp [aXb, ih]
theorem bJ2 : ∀ (l : List (Ev × Value)) (j : Nat) (hj : j < l.length), (aXb l)[j * 4]? = some (.int .i64 (l[j]'hj).1.kind) ∧ (aXb l)[j * 4 + 1]? = some (.string (l[j]'hj).1.name) ∧ (aXb l)[j * 4 + 2]? = some (.string (l[j]'hj).1.text) ∧ (aXb l)[j * 4 + 3]? = some (l[j]'hj).2
 | [], j, hj => by simp at hj
 | x :: l, 0, _ => by simp [aXb]
 | x :: l, j + 1, hj => by
  have h := bJ2 l j (by simpa using hj)
  have e : aXb (x :: l) = .int .i64 x.1.kind :: .string x.1.name :: .string x.1.text :: x.2 :: aXb l := rfl
  rw [e, show (j + 1) * 4 = j * 4 + 1 + 1 + 1 + 1 by omega]
  simpa using h
def QEv (W : World) (B : Nat) (v : Value) (evs : List Ev) : Prop :=
 ∃ vs : List Value, vs.length = evs.length ∧ W.ownsRow B 37 4 v evs.length (aXb (evs.zip vs)) ∧ ∀ x ∈ evs.zip vs, W.ownsRow B 54 2 x.2 x.1.attrs.length (aQc x.1.attrs)
theorem QEv.keep {W W' : World} {B : Nat} {v : Value} {evs : List Ev} (h : QEv W B v evs) (hk : ∀ (k : Nat) (cs : Array Value) (t : TypeId), W.heap[k]? = some (.cells cs t (0, 0)) → t = 37 ∨ t = 54 → W'.heap[k]? = W.heap[k]?) : QEv W' B v evs := by
 obtain ⟨vs, hl, hr, ha⟩ := h
 refine ⟨vs, hl, aQ4 hr (fun k hkk => ?_), fun x hx => aQ4 (ha x hx) (fun k hkk => ?_)⟩
 · obtain ⟨cs, hc⟩ := aQ3 hr hkk
   exact hk k cs _ hc (.inl rfl)
 · obtain ⟨cs, hc⟩ := aQ3 (ha x hx) hkk
   exact hk k cs _ hc (.inr rfl)
theorem QEv.evIn {W : World} {B : Nat} {v : Value} {evs : List Ev} (h : QEv W B v evs) : ∃ a c, v = .slice a evs.length c ∧ EvIn W a evs := by
 obtain ⟨vs, hl, hr, ha⟩ := h
 obtain ⟨ao, ac, rfl, hao⟩ := aQr hr
 refine ⟨ao, ac, rfl, ?_⟩
 by_cases h0 : evs.length = 0
 · exact ⟨0, 0, fun h => by omega, fun j hj => by omega⟩
 · obtain ⟨g, rfl⟩ := hao (by omega)
   refine ⟨g, 0, fun _ => rfl, fun j hj => ?_⟩
   have hzl : j < (evs.zip vs).length := by rw [List.length_zip, hl]; omega
   have hx := ha _ (List.getElem_mem hzl)
   have hz : (evs.zip vs)[j]'hzl = (evs[j]'hj, vs[j]'(by omega)) := List.getElem_zip
   have hc := bJ2 _ j hzl
   rw [hz] at hx hc
   simp only at hx hc
   obtain ⟨xa, xc, hxe, hE⟩ := aKf hx
   rw [hxe] at hc
   rw [Nat.zero_add]
   exact ⟨(hr.cellAt _ (by omega)).trans hc.1, (hr.cellAt _ (by omega)).trans hc.2.1, (hr.cellAt _ (by omega)).trans hc.2.2.1, xa, xc, (hr.cellAt _ (by omega)).trans hc.2.2.2, hE⟩
theorem QEv.push {W wa : World} {B : Nat} {v v' av : Value} {evs : List Ev} {E : Ev} {vs : List Value} (hl : vs.length = evs.length) (hr : W.ownsRow B 37 4 v evs.length (aXb (evs.zip vs))) (ha : ∀ x ∈ evs.zip vs, W.ownsRow B 54 2 x.2 x.1.attrs.length (aQc x.1.attrs))
 (hav : W.ownsRow B 54 2 av E.attrs.length (aQc E.attrs)) (ho : wa.ownsRow B 37 4 v' (evs.length + 1) (aXb (evs.zip vs) ++ [.int .i64 E.kind, .string E.name, .string E.text, av])) (hg : W.grownBy wa v.ownBlock) : QEv wa B v' (evs ++ [E]) := by
 have hz : (evs ++ [E]).zip (vs ++ [av]) = evs.zip vs ++ [(E, av)] := by rw [List.zip_append hl.symm]; rfl
 have hrow : ∀ {u : Value} {n : Nat} {xs : List Value}, W.ownsRow B 54 2 u n xs → wa.ownsRow B 54 2 u n xs := fun hu => aQ4 hu (fun k hk => hg.block k (hu.lt k hk).2 (fun e => by
  obtain ⟨cs, hc⟩ := aQ3 hu hk
  obtain ⟨cs', hc'⟩ := aQ3 hr e.symm
  exact aQ5 hc hc' (by decide) rfl))
 refine ⟨vs ++ [av], by simp [hl], ?_, fun x hx => ?_⟩
 · rw [hz, bVz, List.length_append]; exact ho
 · rw [hz] at hx
   rcases List.mem_append.1 hx with hx | hx
   · exact hrow (ha x hx)
   · rw [List.mem_singleton] at hx; subst hx; exact hrow hav
structure Qr (B : Nat) (w W : World) (g : Nat) (S : Sx) (dv av ov tv pv uv : Value) : Prop where
 box : W.heap[g]? = some (.cells #[dv, av, ov, tv, pv, uv, .int .i64 (S.sp : Int), .int .i64 S.cd, .bool S.sn, .bool S.hd] 96)
 gB : B ≤ g
 bel : Below B w W
 ents : W.ownsRow B 163 2 dv S.ents.length (aQc S.ents)
 atts : W.ownsRow B 146 5 av S.atts.length (aJ8 S.atts)
 evs : QEv W B ov S.evs
 txt : W.ownsRow B 5 1 tv S.txt.length (S.txt.map (Value.int .u8))
 opn : W.ownsRow B 9 1 pv S.opn.length (strs S.opn)
 usg : W.ownsRow B 9 1 uv S.usg.length (strs S.usg)
section
variable {B g : Nat} {w W W' : World} {S : Sx} {dv av ov tv pv uv : Value}
theorem Qr.lt (h : Qr B w W g S dv av ov tv pv uv) : g < W.heap.size := (gLt h.box)
theorem Qr.sz (h : Qr B w W g S dv av ov tv pv uv) : B ≤ W.heap.size := by have := h.lt; have := h.gB; omega
theorem Qr.re (h : Qr B w W g S dv av ov tv pv uv) {uv' : Value} {usg' : List ByteArray} {sp' : Nat} {cd' : Int} {sn' hd' : Bool} (hbox : W'.heap[g]? = some (.cells #[dv, av, ov, tv, pv, uv', .int .i64 (sp' : Int), .int .i64 cd', .bool sn', .bool hd'] 96))
 (hk : ∀ (k : Nat) (cs : Array Value) (t : TypeId), W.heap[k]? = some (.cells cs t (0, 0)) → k ≠ g → (t = 5 → tv.ownBlock = some k) → W'.heap[k]? = W.heap[k]?) (hb : Below B w W') (hu : W'.ownsRow B 9 1 uv' usg'.length (strs usg')) : Qr B w W' g { S with usg := usg', sp := sp', cd := cd', sn := sn', hd := hd' } dv av ov tv pv uv' := by
 have hr : ∀ {e : TypeId} {size n : Nat} {v : Value} {xs : List Value}, W.ownsRow B e size v n xs → e ≠ 5 → e ≠ 96 → W'.ownsRow B e size v n xs := fun hv h1 h2 => aQ4 hv (fun k hkk => by
  obtain ⟨cs, hc⟩ := aQ3 hv hkk
  exact hk k cs _ hc (aQ5 hc h.box h2) (fun e => absurd e h1))
 refine ⟨hbox, h.gB, hb, hr h.ents (by decide) (by decide), hr h.atts (by decide) (by decide), h.evs.keep (fun k cs t hc ht => hk k cs t hc (aQ5 hc h.box (by rcases ht with rfl | rfl <;> decide)) (fun e => by rcases ht with rfl | rfl <;> exact absurd e (by decide))), aQ4 h.txt (fun k hkk => ?_), hr h.opn (by decide) (by decide), hu⟩
 obtain ⟨cs, hc⟩ := aQ3 h.txt hkk
 exact hk k cs _ hc (aQ5 hc h.box (by decide)) (fun _ => hkk)
theorem Qr.keep (h : Qr B w W g S dv av ov tv pv uv) (hg : Below W.heap.size W W') : Qr B w W' g S dv av ov tv pv uv :=
 h.re ((hg.block _ h.lt).trans h.box) (fun k cs t hc _ _ => hg.block k (gLt hc)) (h.bel.trans (hg.mono h.sz)) (aQ4 h.usg (fun k hk => hg.block k (h.usg.lt k hk).2))
theorem Qr.cells (h : Qr B w W g S dv av ov tv pv uv) : W.cell? ⟨g, 0, none⟩ = some dv ∧ W.cell? ⟨g, 1, none⟩ = some av ∧ W.cell? ⟨g, 2, none⟩ = some ov ∧ W.cell? ⟨g, 3, none⟩ = some tv ∧ W.cell? ⟨g, 4, none⟩ = some pv ∧ W.cell? ⟨g, 5, none⟩ = some uv ∧ W.cell? ⟨g, 6, none⟩ = some (.int .i64 (S.sp : Int)) ∧ W.cell? ⟨g, 7, none⟩ = some (.int .i64 S.cd) ∧ W.cell? ⟨g, 8, none⟩ = some (.bool S.sn) ∧ W.cell? ⟨g, 9, none⟩ = some (.bool S.hd) := by
 have hb := h.box
 simp [World.cell?, hb]
theorem Qr.thaw (h : Qr B w W g S dv av ov tv pv uv) (j : Nat) : W.frozen? ⟨g, j, none⟩ = false := by
 have hb := h.box
 simp [World.frozen?, hb]
theorem Qr.put (h : Qr B w W g S dv av ov tv pv uv) (j : Nat) (u : Value) : (W.setCell ⟨g, j, none⟩ u).heap[g]? = some (.cells (#[dv, av, ov, tv, pv, uv, .int .i64 (S.sp : Int), .int .i64 S.cd, .bool S.sn, .bool S.hd].setIfInBounds j u) 96) ∧ Below B w (W.setCell ⟨g, j, none⟩ u) ∧ ∀ k, k ≠ g → (W.setCell ⟨g, j, none⟩ u).heap[k]? = W.heap[k]? := by
 have hs := h.sz
 have hg := h.gB
 refine ⟨heap_setCell_same W g j _ _ u h.box, ⟨h.bel.os, h.bel.tape, h.bel.output, by have := h.bel.size; simpa using this, fun i hi => by rw [Below.heap_setCell W ⟨g, j, none⟩ u i (by simp only; omega)]; exact h.bel.block i hi⟩, fun k hk => Below.heap_setCell W ⟨g, j, none⟩ u k hk⟩
theorem Qr.rows (h : Qr B w W g S dv av ov tv pv uv) : (∃ a c, dv = .slice a S.ents.length c) ∧ (∃ a c, av = .slice a S.atts.length c) ∧ (∃ a c, ov = .slice a S.evs.length c) ∧ (∃ a c, tv = .slice a S.txt.length c) ∧ (∃ a c, pv = .slice a S.opn.length c) ∧ (∃ a c, uv = .slice a S.usg.length c) := by
 obtain ⟨vs, _, hr, _⟩ := h.evs
 obtain ⟨a1, c1, e1, _⟩ := aQr h.ents
 obtain ⟨a2, c2, e2, _⟩ := aQr h.atts
 obtain ⟨a3, c3, e3, _⟩ := aQr hr
 obtain ⟨a4, c4, e4, _⟩ := aQr h.txt
 obtain ⟨a5, c5, e5, _⟩ := aQr h.opn
 obtain ⟨a6, c6, e6, _⟩ := aQr h.usg
 exact ⟨⟨a1, c1, e1⟩, ⟨a2, c2, e2⟩, ⟨a3, c3, e3⟩, ⟨a4, c4, e4⟩, ⟨a5, c5, e5⟩, ⟨a6, c6, e6⟩⟩
end
open Go.RowKit Ents
section
variable {B g : Nat} {w W W' : World} {S : Sx} {dv av ov tv pv uv : Value}
def Sx.fail (S : Sx) (c : Int) : Sx := { S with cd := if S.cd = 0 then c else S.cd }
theorem Sx.fail_ok {S : Sx} {c : Int} (h : S.cd = 0) : S.fail c = { S with cd := c } := by unfold Sx.fail; rw [if_pos h]
theorem Sx.fail_no {S : Sx} {c : Int} (h : ¬ S.cd = 0) : S.fail c = S := by unfold Sx.fail; rw [if_neg h]
theorem aJ9 (h : Qr B w W g S dv av ov tv pv uv) (c : Int) : Calls prog 43 #[.pointer (some ⟨g, 0, none⟩), .int .i64 c] W fun e W' => e = .returned (.tuple #[]) ∧ Qr B w W' g (S.fail c) dv av ov tv pv uv ∧ W.grownBy W' (some g) := by
 obtain ⟨_, _, _, _, _, _, _, c7, _, _⟩ := h.cells
 have f7 := h.thaw 7
 obtain ⟨p1, p2, p3⟩ := h.put 7 (.int .i64 c)
 by_cases hc : S.cd = 0
 · have H := aQ0 (h.re (usg' := S.usg) (sp' := S.sp) (sn' := S.sn) (hd' := S.hd) p1 (fun k cs t _ hk _ => p3 k hk) p2 (aQ4 h.usg (fun k hk => p3 k (by
    obtain ⟨cs, hc⟩ := aQ3 h.usg hk
    exact aQ5 hc h.box (by decide)))))
   have HG := aQ0 (aX9 (w := W) (g := g) (j := 7) (.int .i64 c))
   rw [hc] at c7
   have HC := aQ0 hc
   clear h p1 p2 p3 hc
   go_enter func43, ntmps43
   go_wp2
   go_end0
   refine ⟨rfl, ?_, HG.out⟩
   rw [Sx.fail_ok HC.out]
   exact H.out
 · have H := aQ0 h
   have HC := aQ0 hc
   clear h p1 p2 p3
   go_enter func43, ntmps43
   go_wp2
   go_end0
   refine ⟨rfl, ?_, ⟨rfl, rfl, rfl, Nat.le_refl _, fun _ _ _ => rfl⟩⟩
   rw [Sx.fail_no HC.out]
   exact H.out
end
theorem aWj (nm : ByteArray) (W : World) : Calls prog 96 #[.string nm] W fun e W' => (∃ t b, e = .returned (.tuple #[.string t, .bool b]) ∧ t.size ≤ 1) ∧ W' = W := by
 have hd : ∀ l : List UInt8, (nm.toList == l) = true ∨ (nm.toList == l) = false := fun l => by cases nm.toList == l <;> simp
 rcases hd [108, 116] with h1 | h1
 · clear hd
   go_enter func96, ntmps96
   go_wp2
   go_ret2
   exact ⟨⟨_, _, rfl, by decide⟩, rfl⟩
 rcases hd [103, 116] with h2 | h2
 · clear hd
   go_enter func96, ntmps96
   go_wp2
   go_ret2
   exact ⟨⟨_, _, rfl, by decide⟩, rfl⟩
 rcases hd [97, 109, 112] with h3 | h3
 · clear hd
   go_enter func96, ntmps96
   go_wp2
   go_ret2
   exact ⟨⟨_, _, rfl, by decide⟩, rfl⟩
 rcases hd [97, 112, 111, 115] with h4 | h4
 · clear hd
   go_enter func96, ntmps96
   go_wp2
   go_ret2
   exact ⟨⟨_, _, rfl, by decide⟩, rfl⟩
 rcases hd [113, 117, 111, 116] with h5 | h5
 · clear hd
   go_enter func96, ntmps96
   go_wp2
   go_ret2
   exact ⟨⟨_, _, rfl, by decide⟩, rfl⟩
 · clear hd
   go_enter func96, ntmps96
   go_wp2
   go_ret2
   exact ⟨⟨_, _, rfl, by decide⟩, rfl⟩
section
variable {B g : Nat} {w W W' : World} {S : Sx} {dv av ov tv pv uv : Value}
theorem Qr.drew (h : Qr B w W g S dv av ov tv pv uv) : Qr B w W.drew g S dv av ov tv pv uv := h.keep (Below.refl _ _).drew
theorem bYh (h : Qr B w W g S dv av ov tv pv uv) (n : Nat) (hn : S.usg.length = n + 1) (hb : n ≤ 1048576) : Calls prog 100 #[.pointer (some ⟨g, 0, none⟩)] W fun e W' => e = .returned (.tuple #[]) ∧ ∃ uv', Qr B w W' g { S with usg := S.usg.take n } dv av ov tv pv uv' ∧ W.grownBy W' (some g) := by
 obtain ⟨_, _, _, _, _, c5, _, _, _, _⟩ := h.cells
 have f5 := h.thaw 5
 obtain ⟨ua, uc, rfl, hua⟩ := aQr h.usg
 obtain ⟨ub, rfl⟩ := hua (by omega)
 have hcap := aWs h.usg
 rw [hn] at c5 hcap
 have h1 := h.drew
 obtain ⟨p1, p2, p3⟩ := h1.put 5 (.slice (some ⟨ub, 0, none⟩) n uc)
 have hcut := aW8 (m := n) h1.usg (by omega)
 rw [Nat.mul_one, bQp] at hcut
 have hlen : (S.usg.take n).length = n := by rw [List.length_take]; omega
 have H := aQ0 (h1.re (usg' := S.usg.take n) (sp' := S.sp) (cd' := S.cd) (sn' := S.sn) (hd' := S.hd) p1 (fun k cs t _ hk _ => p3 k hk) p2 (by rw [hlen]; exact aQ4 hcut (fun k hk => p3 k (by
  obtain ⟨cs, hc⟩ := aQ3 hcut hk
  exact aQ5 hc h1.box (by decide)))))
 have HG := aQ0 (qT (qD W (some g)) (aX9 (w := W.drew) (g := g) (j := 5) (.slice (some ⟨ub, 0, none⟩) n uc)))
 have hm1 : IntKind.i64.wrap (n : Int) = (n : Int) := Strs2.aXt (by omega) (by omega)
 have hcp : n ≤ uc := by omega
 clear h h1 p1 p2 p3 hcut hlen hua hn hcap
 go_enter func100, ntmps100
 go_wp2_with fail
 go_region_law (fail)
 all_goals
  go_wp2
  go_end0
  exact ⟨rfl, _, H.out, HG.out⟩
end
end Go.Proofs.YtocnfoeaikiecaaGreatDoor
