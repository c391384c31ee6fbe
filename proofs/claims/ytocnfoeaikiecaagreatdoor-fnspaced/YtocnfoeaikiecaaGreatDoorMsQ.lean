import Derived.Test.YtocnfoeaikiecaaGreatDoorMdS
import Derived.Test.YtocnfoeaikiecaaGreatDoorSpT
set_option maxRecDepth 100000
set_option maxHeartbeats 2000000
set_option linter.unusedVariables false
namespace Go.Proofs.YtocnfoeaikiecaaGreatDoor.PlainW
open Go.RowKit Plain10 PlainS PlainR PlainN Go.Lib
abbrev BB := ByteArray × ByteArray
def aZ9 (a : BB) : ByteArray × Bool := if aQx a.1 aJk = true then (⟨#[]⟩, true) else ((aQo a.1).2.1, aQx (aQo a.1).1 aJk)
def empB (p : ByteArray) : Bool := p.toList.isEmpty
def bJk (l : List BB) (p : ByteArray) : Nat → ByteArray × Bool
 | 0 => (⟨#[]⟩, empB p)
 | k + 1 => if aQx (l.getD k (⟨#[]⟩, ⟨#[]⟩)).1 p = true then ((l.getD k (⟨#[]⟩, ⟨#[]⟩)).2, !empB (l.getD k (⟨#[]⟩, ⟨#[]⟩)).2 || empB p) else bJk l p k
def aWv (l : List BB) (p : ByteArray) : ByteArray × Bool := bJk l p l.length
def badM (d v : ByteArray) : Bool := (!empB d && empB v) || (aQx d xmlB != aQx v xmlS) || aQx d aJk || aQx v cZ2
def aZw (e : Ev) : Int :=
 if (aQo e.name).2.2 = false ∨ aQx (aQo e.name).1 aJk = true then 3
 else if (e.attrs.all fun a => (aQo a.1).2.2) = false then 3
 else if (e.attrs.all fun a => !((aZ9 a).2 && badM (aZ9 a).1 a.2)) = false then 3
 else 0
def aVa (l : List BB) : List BB := l.filterMap fun a => if (aZ9 a).2 = true then some ((aZ9 a).1, a.2) else none
def bXr (all : List BB) (a : BB) : Nm := ⟨(aQo a.1).1, (aQo a.1).2.1, if empB (aQo a.1).1 = true then ⟨#[]⟩ else (aWv all (aQo a.1).1).1, a.2⟩
def aWt (all : List BB) (a : BB) : Bool := empB (aQo a.1).1 || (aWv all (aQo a.1).1).2
def aV4 (all l : List BB) : List Nm := l.filterMap fun a => if (aZ9 a).2 = true then none else some (bXr all a)
def okM (all : List BB) (l : List BB) : Bool := l.all fun a => (aZ9 a).2 || aWt all a
def aKw (l : List Nm) (i k : Nat) : Bool := aQx (l.getD k zNm).spc (l.getD i zNm).spc && aQx (l.getD k zNm).loc (l.getD i zNm).loc
def bQq (around : List BB) (e : Ev) : Except Int Nd :=
 if aZw e ≠ 0 then .error 3
 else
  let all := around ++ aVa e.attrs
  let nm : Nm := ⟨(aQo e.name).1, (aQo e.name).2.1, (aWv all (aQo e.name).1).1, ⟨#[]⟩⟩
  if ((aWv all (aQo e.name).1).2 && okM all e.attrs) = false then .error 5
  else if ((List.range (aV4 all e.attrs).length).any fun i => (List.range i).any fun k => aKw (aV4 all e.attrs) i k) = true then .error 6
  else .ok ⟨e.kind, nm, aVa e.attrs, aV4 all e.attrs, ⟨#[]⟩⟩
end Go.Proofs.YtocnfoeaikiecaaGreatDoor.PlainW
namespace Go.Proofs.YtocnfoeaikiecaaGreatDoor
open Go.RowKit PlainS PlainN PlainW Ents Tryz
theorem bJl (w : World) (ao : Option Addr) (n c : Nat) (l : List BB) (hn : n = l.length) (hA : aZ2 w ao l) (hl : l.length ≤ 1048576) (p : ByteArray) :
 Calls prog 56 #[.slice ao n c, .string p] w fun e w' => e = .returned (.tuple #[.string (aWv l p).1, .bool (aWv l p).2]) ∧ Below w.heap.size w w' := by
 subst hn
 obtain ⟨R, hR⟩ := nmE (aWv l p)
 rw [hR]
 have HR := aQ0 hR
 have HA := aQ0 hA
 clear hR hA
 go_enter func56, ntmps56
 go_wp2_with fail
 go_loopw [6] (fun iv wr => ∃ (k : Nat), k ≤ l.length ∧ iv = .int .i64 ((k : Int) - 1) ∧ R = bJk l p k ∧ wr = w) (fun iv _ => ((intOf iv) + 1).toNat)
 case atStart => exact ⟨l.length, Nat.le_refl _, by go_num, HR.out.symm, rfl⟩
 case round =>
  obtain ⟨k, hk, rfl, hrow, rfl⟩ := hrel
  rcases k with _ | m
  · have e0 : (((0 : Nat) : Int) - 1) = -1 := by omega
    rw [e0]
    obtain rfl : R = (⟨#[]⟩, empB p) := hrow
    go_wp2
    refine bodyPost_ret (v := .tuple #[.string ⟨#[]⟩, .bool (empB p)]) (by simp [results, results56, go_sem, empB]) rfl ⟨rfl, Below.refl _ _⟩
  · have e0 : (((m + 1 : Nat) : Int) - 1) = (m : Int) := by omega
    rw [e0]
    have hlm : m < l.length := by omega
    obtain ⟨b, off, ha, hc⟩ := HA.out
    obtain rfl := ha (by omega)
    obtain ⟨c1, c2⟩ := hc m hlm
    have hg : l.getD m (⟨#[]⟩, ⟨#[]⟩) = l[m]'hlm := by rw [List.getD_eq_getElem?_getD, List.getElem?_eq_getElem hlm]; rfl
    unfold bJk at hrow
    rw [hg] at hrow
    obtain ⟨E, hE⟩ := nmE (l[m]'hlm)
    rw [hE] at c1 c2 hrow
    have hw0 : ¬ (m : Int) < 0 := by omega
    clear hc ha hg hE
    cases hs : aQx E.1 p with
    | true =>
     rw [hs, if_pos rfl] at hrow
     subst hrow
     have hs' : (E.1.toList == p.toList) = true := hs
     clear hs HR
     cases hb1 : E.2.toList.isEmpty
     all_goals
      go_wp2_with fail
      go_quiet (fail)
      go_wp2
      refine bodyPost_ret (v := .tuple #[.string E.2, .bool (!empB E.2 || empB p)]) (by simp [results, results56, go_sem, empB, hb1]) rfl ⟨rfl, aV0 (Below.refl _ _) _⟩
    | false =>
     rw [hs, if_neg (by simp)] at hrow
     have hs' : (E.1.toList == p.toList) = false := hs
     have HN := aQ0 hrow
     clear hrow hs HR
     go_wp2
     go_roundw
     case rel => exact ⟨m, by omega, by go_num, HN.out, trivial⟩
     case measure => simp [intOf]
theorem bQi (w : World) (a : BB) (ha : a.1.size ≤ 1048576) :
 Calls prog 55 #[.agg #[.string a.1, .string a.2]] w fun e w' => e = .returned (.tuple #[.string (aZ9 a).1, .bool (aZ9 a).2]) ∧ Below w.heap.size w w' := by
 obtain ⟨Z, hZ⟩ := nmE (aQo a.1)
 have hsp := fun wx => aJy a.1 wx ha
 rw [hZ] at hsp
 cases hs : aQx a.1 aJk with
 | true =>
  have hd : aZ9 a = (⟨#[]⟩, true) := by unfold aZ9; rw [hs, if_pos rfl]
  rw [hd]
  have hs' : (a.1.toList == [120, 109, 108, 110, 115]) = true := by rw [← aVs]; exact hs
  clear hs hsp hd
  go_enter func55, ntmps55
  go_wp2
  refine bodyPost_ret (v := .tuple #[.string ⟨#[]⟩, .bool true]) (by simp [results, results55, go_sem]) rfl ⟨rfl, bAl⟩
 | false =>
  have hd : aZ9 a = (Z.2.1, aQx Z.1 aJk) := by unfold aZ9; rw [hs, if_neg (by simp), hZ]
  rw [hd]
  have hs' : (a.1.toList == [120, 109, 108, 110, 115]) = false := by rw [← aVs]; exact hs
  have hq : aQx Z.1 aJk = (Z.1.toList == [120, 109, 108, 110, 115]) := by unfold aQx; rw [aVs]
  rw [hq]
  clear hs hd hq hZ
  go_enter func55, ntmps55
  go_wp2_with fail
  refine (hsp _).mono ?_
  rintro e w1 ⟨rfl, hb1⟩
  go_wp2
  refine bodyPost_ret (v := .tuple #[.string Z.2.1, .bool (Z.1.toList == [120, 109, 108, 110, 115])]) (by simp [results, results55, go_sem]) rfl ⟨rfl, (bAl).trans (hb1.mono (by simp))⟩
end Go.Proofs.YtocnfoeaikiecaaGreatDoor
namespace Go.Proofs.YtocnfoeaikiecaaGreatDoor
open Go.RowKit Lists PlainS PlainR PlainN PlainW Ents Tryz
theorem cJr {α : Type} (l : List α) (f : α → Bool) {k : Nat} (hk : k < l.length) (h : (l.take k).all f = true) : (l.take (k + 1)).all f = f (l[k]'hk) := by
 rw [List.take_succ_eq_append_getElem hk, List.all_append, h]; simp
theorem dJs {α : Type} (l : List α) (f : α → Bool) {k : Nat} (h : (l.take k).all f = false) : l.all f = false := by
 rw [← List.take_append_drop k l, List.all_append, h]; rfl
theorem cZx {e : Ev} (h : (aQo e.name).2.2 = false ∨ aQx (aQo e.name).1 aJk = true) : aZw e = 3 := by unfold aZw; rw [if_pos h]
theorem dXr {e : Ev} (h : (e.attrs.all fun a => (aQo a.1).2.2) = false) : aZw e = 3 := by
 unfold aZw; split
 · rfl
 · rfl
theorem dXq {e : Ev} (h : (e.attrs.all fun a => !((aZ9 a).2 && badM (aZ9 a).1 a.2)) = false) : aZw e = 3 := by
 unfold aZw; split
 · rfl
 · split
   · rfl
   · rfl
theorem nm_ok {e : Ev} (h1 : ¬ ((aQo e.name).2.2 = false ∨ aQx (aQo e.name).1 aJk = true)) (h2 : (e.attrs.all fun a => (aQo a.1).2.2) = true) (h3 : (e.attrs.all fun a => !((aZ9 a).2 && badM (aZ9 a).1 a.2)) = true) : aZw e = 0 := by
 unfold aZw; rw [if_neg h1, if_neg (by rw [h2]; simp), if_neg (by rw [h3]; simp)]
structure Eb (w W : World) (e : Ev) (ao : Option Addr) (ac : Nat) : Prop where
 box : W.heap[w.heap.size]? = some (.cells #[.int .i64 e.kind, .string e.name, .string e.text, .slice ao e.attrs.length ac] 37)
 bel : Below w.heap.size w W
theorem Eb.step {w W W' : World} {e : Ev} {ao : Option Addr} {ac : Nat} (h : Eb w W e ao ac) (hb : Below W.heap.size W W') : Eb w W' e ao ac :=
 ⟨(hb.block _ (gLt h.box)).trans h.box, h.bel.trans (hb.mono h.bel.size)⟩
theorem dQk (d v : ByteArray) : badM d v = ((!d.toList.isEmpty && v.toList.isEmpty) || ((d.toList == [120, 109, 108]) != (v.toList == [104, 116, 116, 112, 58, 47, 47, 119, 119, 119, 46, 119, 51, 46, 111, 114, 103, 47, 88, 77, 76, 47, 49, 57, 57, 56, 47, 110, 97, 109, 101, 115, 112, 97, 99, 101])) || (d.toList == [120, 109, 108, 110, 115]) || (v.toList == [104, 116, 116, 112, 58, 47, 47, 119, 119, 119, 46, 119, 51, 46, 111, 114, 103, 47, 50, 48, 48, 48, 47, 120, 109, 108, 110, 115, 47])) := by
 unfold badM empB aQx
 rw [dVr, aVs, dJd, cJ6]
theorem bYk (w : World) (e : Ev) (ao : Option Addr) (ac : Nat) (hA : aZ2 w ao e.attrs) (hl : e.attrs.length ≤ 1048576) (hnm : e.name.size ≤ 1048576) (hna : ∀ a ∈ e.attrs, a.1.size ≤ 1048576) :
 Calls prog 54 #[.agg #[.int .i64 e.kind, .string e.name, .string e.text, .slice ao e.attrs.length ac]] w fun en w' => en = .returned (.int .i64 (aZw e)) ∧ Below w.heap.size w w' := by
 obtain ⟨R, hR⟩ := nmE (aZw e)
 rw [hR]
 have HR := aQ0 hR
 obtain ⟨Z, hZ⟩ := nmE (aQo e.name)
 have HZ := aQ0 hZ
 have hsp := fun wx => aJy e.name wx hnm
 rw [hZ] at hsp
 obtain ⟨W1, hW1⟩ := nmE (w.alloc (.cells #[.int .i64 e.kind, .string e.name, .string e.text, .slice ao e.attrs.length ac] 37))
 have hb1 : Below w.heap.size w W1 := by rw [← hW1]; exact bAl
 have hev : W1.heap[w.heap.size]? = some (.cells #[.int .i64 e.kind, .string e.name, .string e.text, .slice ao e.attrs.length ac] 37) := by rw [← hW1]; exact heap_alloc_new _ _
 have HA := aQ0 hA
 have HNA := aQ0 hna
 have B1 := aQ0 hb1
 have HEV := aQ0 hev
 obtain ⟨v0, v1, v2, v3⟩ := aX0 hev
 clear hR hZ hA hna hb1 hev
 go_enter func54, ntmps54
 go_wp2_with fail
 refine (hsp _).mono ?_
 rintro en w2 ⟨rfl, hb2⟩
 have B2 := aQ0 (B1.out.trans (hb2.mono B1.out.size))
 have HEV2 := aQ0 ((hb2.block _ (gLt HEV.out)).trans HEV.out)
 clear hb2 v0 v1 v2 v3 hW1
 obtain ⟨v0, v1, v2, v3⟩ := aX0 HEV2.out
 cases h22 : Z.2.2 with
 | false =>
  obtain rfl : R = 3 := by rw [← HR.out]; exact cZx (Or.inl (by rw [HZ.out]; exact h22))
  go_wp2
  go_ret
  exact ⟨rfl, B2.out⟩
 | true =>
  cases hx : (Z.1.toList == [120, 109, 108, 110, 115]) with
  | true =>
   obtain rfl : R = 3 := by rw [← HR.out]; exact cZx (Or.inr (by rw [HZ.out]; unfold aQx; rw [aVs]; exact hx))
   go_wp2
   go_ret
   exact ⟨rfl, B2.out⟩
  | false =>
   have H1 : Hid (¬ ((aQo e.name).2.2 = false ∨ aQx (aQo e.name).1 aJk = true)) := aQ0 (by
    rw [HZ.out]; unfold aQx; rw [aVs, h22, hx]; simp)
   go_wp2_with fail
   clear h22 hx
   have E2 : Hid (Eb w w2 e ao ac) := aQ0 ⟨HEV2.out, B2.out⟩
   clear v0 v1 v2 v3 hsp
   go_loopw [5, 6] (fun okv iv wr => ∃ k : Nat, k ≤ e.attrs.length ∧ iv = .int .i64 k ∧ ((e.attrs.take k).all fun a => (aQo a.1).2.2) = true ∧ Eb w wr e ao ac) (fun _ iv _ => e.attrs.length - (intOf iv).toNat)
   case atStart => exact ⟨0, Nat.zero_le _, rfl, rfl, E2.out⟩
   case round =>
    obtain ⟨k, hk, rfl, hall, hE⟩ := hrel
    have HE := aQ0 hE
    have HAL := aQ0 hall
    clear hE hall E2 HEV2 B2
    obtain ⟨v0, v1, v2, v3⟩ := aX0 HE.out.box
    by_cases hlt : k < e.attrs.length
    · obtain ⟨b, off, ha, hc⟩ := HA.out.grown (Ents.below_grown HE.out.bel)
      obtain rfl := ha (by omega)
      obtain ⟨c1, c2⟩ := hc k hlt
      have hsz := HNA.out _ (List.getElem_mem hlt)
      have hal := cJr e.attrs (fun a => (aQo a.1).2.2) hlt HAL.out
      obtain ⟨A, hAe⟩ := nmE (e.attrs[k]'hlt)
      rw [hAe] at c1 c2 hsz hal
      have hs2 := fun wx => aJy A.1 wx hsz
      obtain ⟨Y, hY⟩ := nmE (aQo A.1)
      simp only [hY] at hs2 hal
      have HAL2 := aQ0 hal
      clear hc ha hAe hsz hY hal
      go_wp2_with fail
      refine (hs2 _).mono ?_
      rintro en w3 ⟨rfl, hb3⟩
      have E3 := aQ0 (HE.out.step hb3)
      clear hb3 hs2
      cases hy : Y.2.2 with
      | false =>
       obtain rfl : R = 3 := by rw [← HR.out]; exact dXr (dJs _ _ (HAL2.out.trans hy))
       go_wp2
       go_ret
       exact ⟨rfl, E3.out.bel⟩
      | true =>
       have HT := aQ0 (HAL2.out.trans hy)
       go_wp2
       go_roundw
       case rel => exact ⟨k + 1, by omega, by go_num, HT.out, E3.out⟩
       case measure => simp [intOf]; omega
    · have H2 : Hid ((e.attrs.all fun a => (aQo a.1).2.2) = true) := aQ0 (by have := HAL.out; rwa [List.take_of_length_le (by omega)] at this)
      go_wp2_with fail
      clear v0 v1 v2 v3
      go_loopw [7] (fun iv wr => ∃ k : Nat, k ≤ e.attrs.length ∧ iv = .int .i64 k ∧ ((e.attrs.take k).all fun a => !((aZ9 a).2 && badM (aZ9 a).1 a.2)) = true ∧ Eb w wr e ao ac) (fun iv _ => e.attrs.length - (intOf iv).toNat)
      case atStart => exact ⟨0, Nat.zero_le _, rfl, rfl, HE.out⟩
      case round =>
       obtain ⟨k, hk, rfl, hall, hE⟩ := hrel
       clear HE HAL
       have HE := aQ0 hE
       have HAL := aQ0 hall
       clear hE hall
       obtain ⟨v0, v1, v2, v3⟩ := aX0 HE.out.box
       by_cases hlt : k < e.attrs.length
       · obtain ⟨b, off, ha, hc⟩ := HA.out.grown (Ents.below_grown HE.out.bel)
         obtain rfl := ha (by omega)
         obtain ⟨c1, c2⟩ := hc k hlt
         have hsz := HNA.out _ (List.getElem_mem hlt)
         have hal := cJr e.attrs (fun a => !((aZ9 a).2 && badM (aZ9 a).1 a.2)) hlt HAL.out
         obtain ⟨A, hAe⟩ := nmE (e.attrs[k]'hlt)
         rw [hAe] at c1 c2 hsz hal
         have hs2 := fun wx => bQi wx A hsz
         obtain ⟨D, hD⟩ := nmE (aZ9 A)
         simp only [hD] at hs2 hal
         have HAL2 := aQ0 hal
         have hcl := aQk c2
         clear hc ha hAe hsz hD hal
         go_wp2_with fail
         refine (hs2 _).mono ?_
         rintro en w3 ⟨rfl, hb3⟩
         have E3 := aQ0 (HE.out.step hb3)
         have d2 := aQ2 (hb3.block _ hcl) c2
         clear hb3 hs2 c1 c2 v0 v1 v2 v3
         obtain ⟨v0, v1, v2, v3⟩ := aX0 E3.out.box
         cases hy : D.2 with
         | false =>
          have HT := aQ0 (HAL2.out.trans (show _ = true by rw [hy]; rfl))
          go_wp2
          go_roundw
          case rel => exact ⟨k + 1, by omega, by go_num, HT.out, E3.out⟩
          case measure => simp [intOf]; omega
         | true =>
          have hbs := HAL2.out
          rw [hy, dQk, Bool.true_and] at hbs
          clear HAL2
          have go_bad : ∀ (w' : World), Hid (((e.attrs.take (k + 1)).all fun a => !((aZ9 a).2 && badM (aZ9 a).1 a.2)) = false) → R = 3 := fun _ h => by rw [← HR.out]; exact dXq (dJs _ _ h.out)
          have HGB := aQ0 go_bad
          clear go_bad
          cases e1 : D.1.toList.isEmpty <;> cases e2 : A.2.toList.isEmpty <;> cases e3 : (D.1.toList == [120, 109, 108]) <;> cases e4 : (A.2.toList == [104, 116, 116, 112, 58, 47, 47, 119, 119, 119, 46, 119, 51, 46, 111, 114, 103, 47, 88, 77, 76, 47, 49, 57, 57, 56, 47, 110, 97, 109, 101, 115, 112, 97, 99, 101]) <;> cases e5 : (D.1.toList == [120, 109, 108, 110, 115]) <;> cases e6 : (A.2.toList == [104, 116, 116, 112, 58, 47, 47, 119, 119, 119, 46, 119, 51, 46, 111, 114, 103, 47, 50, 48, 48, 48, 47, 120, 109, 108, 110, 115, 47])
          all_goals
           rw [e1, e2, e3, e4, e5, e6] at hbs
           have HT := aQ0 hbs
           clear hbs
           first
           | (
            obtain rfl : R = 3 := HGB.out w (aQ0 (HT.out.trans rfl))
            clear HGB
            go_wp2
            go_ret
            exact ⟨rfl, E3.out.bel⟩)
           | (
            have HT2 : Hid (((e.attrs.take (k + 1)).all fun a => !((aZ9 a).2 && badM (aZ9 a).1 a.2)) = true) := aQ0 (HT.out.trans rfl)
            clear HT HGB
            go_wp2
            go_roundw
            case rel => exact ⟨k + 1, by omega, by go_num, HT2.out, E3.out⟩
            case measure => simp [intOf]; omega)
       · have H3 : Hid ((e.attrs.all fun a => !((aZ9 a).2 && badM (aZ9 a).1 a.2)) = true) := aQ0 (by have := HAL.out; rwa [List.take_of_length_le (by omega)] at this)
         obtain rfl : R = 0 := by rw [← HR.out]; exact nm_ok H1.out H2.out H3.out
         go_wp2
         go_ret
         exact ⟨rfl, HE.out.bel⟩
open Go.RowKit Lists PlainR PlainN Ents
theorem bXe : ∀ (l : List Ev) (op : List ByteArray) (el : Nat), 2 ≤ el → aXr l op el = false
 | [], op, el, h => by unfold aXr; rw [decide_eq_false (by omega)]; rfl
 | e :: l, op, el, h => by
  unfold aXr
  split
  · split
    · rfl
    · split
      · exact bXe l _ _ (by omega)
      · exact bXe l _ _ h
  · split
    · split
      · rfl
      · split
        · exact bXe l _ _ h
        · rfl
    · split
      · split
        · rfl
        · exact bXe l _ _ h
      · split
        · exact bXe l _ _ h
        · rfl
theorem rg_two {e : Ev} {l : List Ev} {op : List ByteArray} (h : e.kind = 1) (h0 : op.length = 0) : aXr (e :: l) op 1 = false := by
 unfold aXr
 rw [if_pos h]
 split
 · rfl
 · exact bXe _ _ _ (by omega)
def dVb (b : Bool) : Nat := if b = true then 1 else 0
theorem bYj (w : World) (a : Option Addr) (n c : Nat) (evs : List Ev) (hn : n = evs.length) (hl : evs.length ≤ 400) (hla : ∀ e ∈ evs, e.attrs.length ≤ 1048576) (h : EvIn w a evs) :
 Calls prog 19 #[.slice a n c] w fun e w' => e = .returned (.bool (aXr evs [] 0)) ∧ Below w.heap.size w w' := by
 subst hn
 have HA := aQ0 h
 have HL := aQ0 hla
 obtain ⟨R, hR⟩ := nmE (aXr evs [] 0)
 rw [hR]
 have HR := aQ0 hR
 obtain ⟨i0, hi, hz0, hz1, hz2⟩ := info_parts cY2
 clear h hla hR
 go_enter func19, ntmps19
 go_wp2_with fail
 have hO : (w.alloc (.cells #[] 9)).ownsRow w.heap.size 9 1 (.slice (some ⟨w.heap.size, 0, none⟩) 0 0) 0 [] := World.ownsRow_lit (size := 1) w #[] 0 (Nat.le_refl _) (by decide) rfl
 have HO0 := aQ0 hO
 clear hO
 go_loopw [3, 4, 5] (fun ov sv iv wr => ∃ (k : Nat) (sn : Bool) (op : List ByteArray), k ≤ evs.length ∧ iv = .int .i64 k ∧ sv = .bool sn ∧ op.length ≤ 30 ∧ (op.length ≠ 0 → sn = true) ∧ R = aXr (evs.drop k) op (dVb sn) ∧ wr.ownsRow w.heap.size 9 1 ov op.length (strs op) ∧ Below w.heap.size w wr) (fun _ _ iv _ => evs.length - (intOf iv).toNat)
 case atStart => exact ⟨0, false, [], Nat.zero_le _, rfl, rfl, by decide, (fun h => absurd rfl h), HR.out.symm, HO0.out, bAl⟩
 case round =>
  obtain ⟨k, sn, op, hk, rfl, rfl, hop, hsn, hrow, hown, hb⟩ := hrel
  obtain ⟨ao, ac, rfl, hao⟩ := aQr hown
  have HB := aQ0 hb
  have HO := aQ0 hown
  have HSN := aQ0 hsn
  clear hb hown HO0 hsn
  by_cases hlt : k < evs.length
  · obtain ⟨b, off, ha, hc⟩ := HA.out.below HB.out
    obtain rfl := ha (by omega)
    obtain ⟨c0, c1, c2, bo, bc, c3, hE⟩ := hc k hlt
    have hlt2 := HL.out _ (List.getElem_mem hlt)
    have hdrop : evs.drop k = (evs[k]'hlt) :: evs.drop (k + 1) := List.drop_eq_getElem_cons hlt
    obtain ⟨E, hEe⟩ := nmE (evs[k]'hlt)
    rw [hEe] at c0 c1 c2 c3 hE hlt2 hdrop
    obtain ⟨na, hna⟩ := nmE (E.attrs.length)
    rw [hna] at c3 hlt2
    obtain ⟨kd, hkd⟩ := nmE (E.kind)
    rw [hkd] at c0
    rw [hdrop] at hrow
    have HROW := aQ0 hrow
    have HNA := aQ0 hna
    have HKD := aQ0 hkd
    clear hc ha hEe HA hE HL hrow hdrop hna hkd
    by_cases k1 : kd = 1
    · subst k1
      by_cases h00 : op.length = 0
      · have hi00 : ((op.length : Int) == 0) = true := by rw [h00]; rfl
        have hi30 : ¬ (30 : Int) ≤ (op.length : Int) := by omega
        cases sn with
        | true =>
         obtain rfl : R = false := by rw [HROW.out]; exact rg_two HKD.out h00
         go_wp2
         go_ret
         exact ⟨rfl, HB.out⟩
        | false =>
         by_cases h60 : 60 < na
         · obtain rfl : R = false := by rw [HROW.out]; exact bXf HKD.out (Or.inr (by rw [HNA.out]; exact h60))
           have h60' : 60 < (na : Int) := by omega
           go_wp2
           go_ret
           exact ⟨rfl, HB.out⟩
         · have h60' : ¬ 60 < (na : Int) := by omega
           have hst := fun l => bZd (l := l) (op := op) (el := dVb false) HKD.out (by omega) (by rw [HNA.out]; omega)
           have HST := aQ0 (HROW.out.trans (hst _))
           have hone : ∀ u ∈ [Value.string E.name], u.oneCell' = true := by intro u hu; simp at hu; subst hu; rfl
           have hmx : op.length + 1 ≤ maxLen := by unfold maxLen; omega
           have hmy : (op.length + 1) * 16 ≤ 140737488355328 := by omega
           have hmz : ∀ o, w.heap.size ≤ (wr.alloc o).heap.size := by intro o; have := HB.out.size; simp; omega
           have HZ := aQ0 h00
           clear hst h00
           go_wp2_with (at_builtin; refine wpList_append_own _ rfl _ _ 52 rfl w.heap.size 9 i0 (.string ⟨#[]⟩) 1 16 underlying52 hi hz0 hz1 hz2 rfl (by decide) _ _ _ rfl (HO.out.alloc _) ⟨_, 0, none⟩ 1 1 [.string E.name] rfl rfl (cell_one_new _ _ _) hone hmx hmy (hmz _) ?_; intro v' w2 hown' hgrow _; have B2 := aQ0 (bZl HB.out HO.out hgrow); clear hgrow)
           go_roundw
           case rel => exact ⟨k + 1, true, op ++ [E.name], by omega, by go_num, rfl, by rw [List.length_append]; simp; omega, (fun _ => rfl), by rw [HST.out, if_pos HZ.out]; rfl, by rw [aWf, List.length_append]; exact hown', B2.out⟩
           case measure => simp [intOf]; omega
      · have hi00 : ((op.length : Int) == 0) = false := by rw [beq_eq_false_iff_ne]; omega
        by_cases h30 : op.length = 30
        · obtain rfl : R = false := by rw [HROW.out]; exact bXf HKD.out (Or.inl h30)
          have hi30 : (30 : Int) ≤ (op.length : Int) := by omega
          go_wp2
          go_ret
          exact ⟨rfl, HB.out⟩
        · have hi30 : ¬ (30 : Int) ≤ (op.length : Int) := by omega
          by_cases h60 : 60 < na
          · obtain rfl : R = false := by rw [HROW.out]; exact bXf HKD.out (Or.inr (by rw [HNA.out]; exact h60))
            have h60' : 60 < (na : Int) := by omega
            go_wp2
            go_ret
            exact ⟨rfl, HB.out⟩
          · have h60' : ¬ 60 < (na : Int) := by omega
            have hst := fun l => bZd (l := l) (op := op) (el := dVb sn) HKD.out (by omega) (by rw [HNA.out]; omega)
            have HST := aQ0 (HROW.out.trans (hst _))
            have hone : ∀ u ∈ [Value.string E.name], u.oneCell' = true := by intro u hu; simp at hu; subst hu; rfl
            have hmx : op.length + 1 ≤ maxLen := by unfold maxLen; omega
            have hmy : (op.length + 1) * 16 ≤ 140737488355328 := by omega
            have hmz : ∀ o, w.heap.size ≤ (wr.alloc o).heap.size := by intro o; have := HB.out.size; simp; omega
            have HZ := aQ0 h00
            obtain rfl : sn = true := HSN.out h00
            clear hst h00
            go_wp2_with (at_builtin; refine wpList_append_own _ rfl _ _ 52 rfl w.heap.size 9 i0 (.string ⟨#[]⟩) 1 16 underlying52 hi hz0 hz1 hz2 rfl (by decide) _ _ _ rfl (HO.out.alloc _) ⟨_, 0, none⟩ 1 1 [.string E.name] rfl rfl (cell_one_new _ _ _) hone hmx hmy (hmz _) ?_; intro v' w2 hown' hgrow _; have B2 := aQ0 (bZl HB.out HO.out hgrow); clear hgrow)
            go_roundw
            case rel => exact ⟨k + 1, true, op ++ [E.name], by omega, by go_num, rfl, by rw [List.length_append]; simp; omega, (fun _ => rfl), by rw [HST.out, if_neg HZ.out], by rw [aWf, List.length_append]; exact hown', B2.out⟩
            case measure => simp [intOf]; omega
    · by_cases k2 : kd = 2
      · subst k2
        by_cases h00 : op.length = 0
        · obtain rfl : R = false := by rw [HROW.out]; exact cQz HKD.out h00
          rw [h00]
          go_wp2_with fail
          go_quiet (fail)
          go_wp2
          go_ret
          exact ⟨rfl, aV0 HB.out _⟩
        · obtain ⟨m, hm⟩ : ∃ m, op.length = m + 1 := ⟨op.length - 1, by omega⟩
          obtain ⟨g, rfl⟩ := hao (by omega)
          have hcell := HO.out.cellAt m (by omega)
          rw [bKm op (by omega)] at hcell
          obtain ⟨L, hL⟩ := nmE (op.getD m ⟨#[]⟩)
          rw [hL] at hcell
          have hm1 : wrap64 (m : Int) = (m : Int) := by unfold wrap64; omega
          have hm0 : ((m : Int) + 1 == 0) = false := by rw [beq_eq_false_iff_ne]; omega
          have hm2 : m < m + 1 := by omega
          have hcap := aWs HO.out
          have hcp : m ≤ ac := by omega
          rw [hm]
          have HM := aQ0 hm
          have HLL := aQ0 hL
          clear hm hL h00
          cases hs : aQx L E.name with
          | false =>
           obtain rfl : R = false := by rw [HROW.out]; exact bKq HKD.out (by rw [HM.out]; omega) (by rw [HM.out, Nat.add_sub_cancel, HLL.out]; exact hs)
           have hs' : (L.toList == E.name.toList) = false := hs
           clear hs
           go_wp2_with fail
           go_quiet (fail)
           go_wp2
           go_ret
           exact ⟨rfl, aV0 HB.out _⟩
          | true =>
           have HEN := aQ0 (HROW.out.trans (cW5 HKD.out (by rw [HM.out]; omega) (by rw [HM.out, Nat.add_sub_cancel, HLL.out]; exact hs)))
           have hs' : (L.toList == E.name.toList) = true := hs
           clear hs
           go_wp2_with fail
           go_quiet (fail)
           clear hcap
           go_wp2
           go_roundw
           case rel => exact ⟨k + 1, sn, op.take m, by omega, by go_num, rfl, by rw [List.length_take]; omega, (fun h => HSN.out (by rw [HM.out]; omega)), by rw [HEN.out, HM.out, Nat.add_sub_cancel], by
            have := aW8 (m := m) HO.out (by rw [HM.out]; omega)
            rw [Nat.mul_one, bQp] at this
            rw [List.length_take, HM.out, Nat.min_eq_left (by omega)]
            exact this, aV0 HB.out _⟩
           case measure => simp [intOf]; omega
      · by_cases k3 : kd = 3
        · subst k3
          by_cases h00 : op.length = 0
          · obtain rfl : R = false := by rw [HROW.out]; exact cW3 HKD.out h00
            rw [h00]
            go_wp2
            go_ret
            exact ⟨rfl, HB.out⟩
          · have h00' : ¬ (op.length : Int) = 0 := by omega
            go_wp2
            go_roundw
            case rel => exact ⟨k + 1, sn, op, by omega, by go_num, rfl, hop, HSN.out, by rw [HROW.out]; exact cQy HKD.out h00, HO.out, HB.out⟩
            case measure => simp [intOf]; omega
        · by_cases k4 : kd = 4
          · subst k4
            go_wp2
            go_roundw
            case rel => exact ⟨k + 1, sn, op, by omega, by go_num, rfl, hop, HSN.out, by rw [HROW.out]; exact bQu (Or.inl HKD.out), HO.out, HB.out⟩
            case measure => simp [intOf]; omega
          · by_cases k5 : kd = 5
            · subst k5
              go_wp2
              go_roundw
              case rel => exact ⟨k + 1, sn, op, by omega, by go_num, rfl, hop, HSN.out, by rw [HROW.out]; exact bQu (Or.inr HKD.out), HO.out, HB.out⟩
              case measure => simp [intOf]; omega
            · obtain rfl : R = false := by rw [HROW.out]; exact cW6 (by rw [HKD.out]; exact k1) (by rw [HKD.out]; exact k2) (by rw [HKD.out]; exact k3) (by rw [HKD.out]; exact k4) (by rw [HKD.out]; exact k5)
              go_wp2
              go_ret
              exact ⟨rfl, HB.out⟩
  · have hend : evs.drop k = [] := List.drop_eq_nil_of_le (by omega)
    rw [hend] at hrow
    cases sn with
    | true =>
     by_cases h00 : op.length = 0
     · obtain rfl : R = true := by rw [hrow]; unfold aXr; rw [h00]; rfl
       clear hrow
       rw [h00]
       go_wp2
       go_ret
       exact ⟨rfl, HB.out⟩
     · obtain rfl : R = false := by rw [hrow]; unfold aXr; simp [h00]
       have h00' : ((op.length : Int) == 0) = false := by rw [beq_eq_false_iff_ne]; omega
       clear hrow
       go_wp2
       go_ret
       exact ⟨rfl, HB.out⟩
    | false =>
     obtain rfl : R = false := by rw [hrow]; unfold aXr; rfl
     clear hrow
     go_wp2
     go_ret
     exact ⟨rfl, HB.out⟩
open Go.RowKit Lists PlainR PlainN PlainW Ents
structure MsF (w W : World) (nb rb : Nat) (e : Ev) (ao : Option Addr) (ac : Nat) (n : Nd) (dv av : Value) : Prop where
 nd : aYm W w.heap.size nb n dv av
 res : W.heap[rb]? = some (.cells zNdC 34)
 ev : W.heap[w.heap.size]? = some (.cells #[.int .i64 e.kind, .string e.name, .string e.text, .slice ao e.attrs.length ac] 37)
 bel : Below w.heap.size w W
 nr : nb ≠ rb
 n0 : w.heap.size ≤ nb
 r0 : w.heap.size ≤ rb
section
variable {w W wa : World} {nb rb : Nat} {e : Ev} {ao : Option Addr} {ac : Nat} {n : Nd} {dv av : Value}
theorem MsF.below {W' : World} (h : MsF w W nb rb e ao ac n dv av) (hb : Below W.heap.size W W') : MsF w W' nb rb e ao ac n dv av :=
 ⟨bQ1 h.nd hb, (hb.block _ (gLt h.res)).trans h.res, (hb.block _ (gLt h.ev)).trans h.ev, h.bel.trans (hb.mono h.bel.size), h.nr, h.n0, h.r0⟩
theorem MsF.mid5 (h : MsF w W nb rb e ao ac n dv av) (o : Obj) (hg : (W.alloc o).grownBy wa dv.ownBlock) : wa.cell? ⟨nb, 5, none⟩ = some dv ∧ wa.cell? ⟨nb, 6, none⟩ = some av ∧ wa.frozen? ⟨nb, 5, none⟩ = false ∧ wa.frozen? ⟨nb, 6, none⟩ = false := by
 have h1 := h.below ((Below.refl _ _).alloc (Nat.le_refl _) o)
 refine aZz (((aXe hg).block _ (gLt h1.nd.box) (fun hm => ?_)).trans h1.nd.box)
 obtain ⟨cs, h2⟩ := aQ3 h1.nd.decls (by rw [Option.mem_toList] at hm; exact hm)
 exact aQ5 h1.nd.box h2 (by decide) rfl
theorem MsF.mid6 (h : MsF w W nb rb e ao ac n dv av) (o : Obj) (hg : (W.alloc o).grownBy wa av.ownBlock) : wa.cell? ⟨nb, 5, none⟩ = some dv ∧ wa.cell? ⟨nb, 6, none⟩ = some av ∧ wa.frozen? ⟨nb, 5, none⟩ = false ∧ wa.frozen? ⟨nb, 6, none⟩ = false := by
 have h1 := h.below ((Below.refl _ _).alloc (Nat.le_refl _) o)
 refine aZz (((aXe hg).block _ (gLt h1.nd.box) (fun hm => ?_)).trans h1.nd.box)
 obtain ⟨cs, h2⟩ := aQ3 h1.nd.attrs (by rw [Option.mem_toList] at hm; exact hm)
 exact aQ5 h1.nd.box h2 (by decide) rfl
theorem MsF.decl (h : MsF w W nb rb e ao ac n dv av) (o : Obj) (d : BB) {v' : Value} (ho : wa.ownsRow w.heap.size 54 2 v' (n.decls.length + 1) (aQc n.decls ++ [.string d.1, .string d.2])) (hg : (W.alloc o).grownBy wa dv.ownBlock) :
 MsF w (wa.setCell ⟨nb, 5, none⟩ v') nb rb e ao ac { n with decls := n.decls ++ [d] } v' av := by
 have h1 := h.below ((Below.refl _ _).alloc (Nat.le_refl _) o)
 have hk := aXe hg
 have hoff : ∀ {k : Nat} {c : Array Value} {s : TypeId} {f : Nat × Nat}, (W.alloc o).heap[k]? = some (.cells c s f) → s ≠ 54 → wa.heap[k]? = (W.alloc o).heap[k]? := fun hc hs => hk.block _ (gLt hc) (fun hm => by
  obtain ⟨cs, h2⟩ := aQ3 h1.nd.decls (by rw [Option.mem_toList] at hm; exact hm)
  exact aQ5 hc h2 hs rfl)
 have hbox : wa.heap[nb]? = some (.cells (aQb n dv av) 34) := (hoff h1.nd.box (by decide)).trans h1.nd.box
 have hset : ∀ k, k ≠ nb → (wa.setCell ⟨nb, 5, none⟩ v').heap[k]? = wa.heap[k]? := fun k hk => Below.heap_setCell wa ⟨nb, 5, none⟩ v' k hk
 have hbw : Below w.heap.size w wa := h1.bel.grown hg h1.bel.size (fun k hk => (h1.nd.decls.lt k hk).1)
 refine ⟨⟨?_, ?_, ?_⟩, ?_, ?_, ?_, h.nr, h.n0, h.r0⟩
 · rw [heap_setCell_same wa nb 5 _ _ _ hbox, cZj]
 · have : aQc (n.decls ++ [d]) = aQc n.decls ++ [.string d.1, .string d.2] := aVj _ _
   show (wa.setCell _ _).ownsRow _ _ _ _ (n.decls ++ [d]).length (aQc (n.decls ++ [d]))
   rw [this, List.length_append]
   exact aQ4 ho (fun k hkk => hset k (by
    obtain ⟨cs, hc⟩ := aQ3 ho hkk
    exact aQ5 hc hbox (by decide)))
 · refine aQ4 h1.nd.attrs (fun k hkk => ?_)
   obtain ⟨cs, hc⟩ := aQ3 h1.nd.attrs hkk
   rw [hset k (aQ5 hc h1.nd.box (by decide)), hoff hc (by decide)]
 · rw [hset rb h.nr.symm, hoff h1.res (by decide), h1.res]
 · rw [hset w.heap.size (aQ5 h1.ev h1.nd.box (by decide)), hoff h1.ev (by decide), h1.ev]
 · exact hbw.setCell h.n0 _
theorem MsF.attr (h : MsF w W nb rb e ao ac n dv av) (o : Obj) (d : Nm) {v' : Value} (ho : wa.ownsRow w.heap.size 30 4 v' (n.attrs.length + 1) (aQg n.attrs ++ nmC d)) (hg : (W.alloc o).grownBy wa av.ownBlock) :
 MsF w (wa.setCell ⟨nb, 6, none⟩ v') nb rb e ao ac { n with attrs := n.attrs ++ [d] } dv v' ∧ ∀ {b : Nat} {size : Nat} {v : Value} {m : Nat} {xs : List Value}, W.ownsRow b 54 size v m xs → (wa.setCell ⟨nb, 6, none⟩ v').ownsRow b 54 size v m xs := by
 have h1 := h.below ((Below.refl _ _).alloc (Nat.le_refl _) o)
 have hk := aXe hg
 have hoff : ∀ {k : Nat} {c : Array Value} {s : TypeId} {f : Nat × Nat}, (W.alloc o).heap[k]? = some (.cells c s f) → s ≠ 30 → wa.heap[k]? = (W.alloc o).heap[k]? := fun hc hs => hk.block _ (gLt hc) (fun hm => by
  obtain ⟨cs, h2⟩ := aQ3 h1.nd.attrs (by rw [Option.mem_toList] at hm; exact hm)
  exact aQ5 hc h2 hs rfl)
 have hbox : wa.heap[nb]? = some (.cells (aQb n dv av) 34) := (hoff h1.nd.box (by decide)).trans h1.nd.box
 have hset : ∀ k, k ≠ nb → (wa.setCell ⟨nb, 6, none⟩ v').heap[k]? = wa.heap[k]? := fun k hk => Below.heap_setCell wa ⟨nb, 6, none⟩ v' k hk
 have hbw : Below w.heap.size w wa := h1.bel.grown hg h1.bel.size (fun k hk => (h1.nd.attrs.lt k hk).1)
 have hrows : ∀ {b : Nat} {size : Nat} {v : Value} {m : Nat} {xs : List Value}, (W.alloc o).ownsRow b 54 size v m xs → (wa.setCell ⟨nb, 6, none⟩ v').ownsRow b 54 size v m xs := fun hr => aQ4 hr (fun k hkk => by
  obtain ⟨cs, hc⟩ := aQ3 hr hkk
  rw [hset k (aQ5 hc h1.nd.box (by decide)), hoff hc (by decide)])
 refine ⟨⟨⟨?_, hrows h1.nd.decls, ?_⟩, ?_, ?_, ?_, h.nr, h.n0, h.r0⟩, fun hr => hrows (hr.alloc o)⟩
 · rw [heap_setCell_same wa nb 6 _ _ _ hbox, cKv]
 · have : aQg (n.attrs ++ [d]) = aQg n.attrs ++ nmC d := by rw [aKh]; simp [aQg]
   show (wa.setCell _ _).ownsRow _ _ _ _ (n.attrs ++ [d]).length (aQg (n.attrs ++ [d]))
   rw [this, List.length_append]
   exact aQ4 ho (fun k hkk => hset k (by
    obtain ⟨cs, hc⟩ := aQ3 ho hkk
    exact aQ5 hc hbox (by decide)))
 · rw [hset rb h.nr.symm, hoff h1.res (by decide), h1.res]
 · rw [hset w.heap.size (aQ5 h1.ev h1.nd.box (by decide)), hoff h1.ev (by decide), h1.ev]
 · exact hbw.setCell h.n0 _
theorem MsF.named (h : MsF w W nb rb e ao ac n dv av) (nm : Nm) :
 MsF w ((((W.setCell ⟨nb, 1, none⟩ (.string nm.pre)).setCell ⟨nb, 2, none⟩ (.string nm.loc)).setCell ⟨nb, 3, none⟩ (.string nm.spc)).setCell ⟨nb, 4, none⟩ (.string nm.val)) nb rb e ao ac { n with name := nm } dv av ∧ ∀ {b : Nat} {size : Nat} {v : Value} {m : Nat} {xs : List Value}, W.ownsRow b 54 size v m xs → ((((W.setCell ⟨nb, 1, none⟩ (.string nm.pre)).setCell ⟨nb, 2, none⟩ (.string nm.loc)).setCell ⟨nb, 3, none⟩ (.string nm.spc)).setCell ⟨nb, 4, none⟩ (.string nm.val)).ownsRow b 54 size v m xs := by
 have hset : ∀ k, k ≠ nb → ((((W.setCell ⟨nb, 1, none⟩ (.string nm.pre)).setCell ⟨nb, 2, none⟩ (.string nm.loc)).setCell ⟨nb, 3, none⟩ (.string nm.spc)).setCell ⟨nb, 4, none⟩ (.string nm.val)).heap[k]? = W.heap[k]? := fun k hk => by
  simp only [aQq _ hk]
 have hrows : ∀ {b : Nat} {t : TypeId} {size : Nat} {v : Value} {m : Nat} {xs : List Value}, W.ownsRow b t size v m xs → t ≠ 34 → ((((W.setCell ⟨nb, 1, none⟩ (.string nm.pre)).setCell ⟨nb, 2, none⟩ (.string nm.loc)).setCell ⟨nb, 3, none⟩ (.string nm.spc)).setCell ⟨nb, 4, none⟩ (.string nm.val)).ownsRow b t size v m xs := fun hr ht => aQ4 hr (fun k hkk => by
  obtain ⟨cs, hc⟩ := aQ3 hr hkk
  exact hset k (aQ5 hc h.nd.box ht))
 refine ⟨⟨⟨?_, hrows h.nd.decls (by decide), hrows h.nd.attrs (by decide)⟩, ?_, ?_, ?_, h.nr, h.n0, h.r0⟩, fun hr => hrows hr (by decide)⟩
 · rw [heap_setCell_same _ _ _ _ _ _ (heap_setCell_same _ _ _ _ _ _ (heap_setCell_same _ _ _ _ _ _ (heap_setCell_same _ _ _ _ _ _ h.nd.box)))]
   rfl
 · rw [hset rb h.nr.symm, h.res]
 · rw [hset w.heap.size (aQ5 h.ev h.nd.box (by decide)), h.ev]
 · exact (((h.bel.setCell h.n0 _).setCell h.n0 _).setCell h.n0 _).setCell h.n0 _
end
end Go.Proofs.YtocnfoeaikiecaaGreatDoor
