import Derived.Test.YtocnfoeaikiecaaGreatDoorQqE
set_option maxRecDepth 100000
set_option maxHeartbeats 4000000
set_option linter.unusedVariables false
namespace Go.Proofs.YtocnfoeaikiecaaGreatDoor.PlainJ
open Go.RowKit Lists Plain10 Plain19 PlainR PlainM PlainN Go.Lib
variable {s : ByteArray}
def NmOk (n : Nat) (T : Tk) : Prop := T.name.size ≤ n ∧ ∀ a ∈ T.attrs, a.1.size ≤ n
theorem bJ7 (s : ByteArray) (p : Nat) : (nmT s p).size ≤ s.size := by
 unfold nmT
 exact Plain32.dJo _ _ _
theorem aZ4 (n f : Nat) : NmOk n (aX2 f) := ⟨Nat.zero_le _, fun a h => by cases h⟩
theorem cYy (n : Nat) : ByteArray.empty.size ≤ n := Nat.zero_le _
theorem cZb {nm : ByteArray} (hn : nm.size ≤ s.size) : ∀ (f p : Nat) (acc : List (ByteArray × ByteArray)), (∀ a ∈ acc, a.1.size ≤ s.size) → NmOk s.size (aWn s nm f p acc)
 | 0, p, acc, _ => aZ4 _ _
 | f + 1, p, acc, ha => by
  rw [cKd]
  repeat' split
  all_goals first
   | exact aZ4 _ _
   | exact ⟨hn, ha⟩
   | exact cZb hn f _ _ (fun a h => by
    rcases List.mem_append.1 h with h | h
    · exact ha a h
    · rw [List.mem_singleton] at h; subst h; exact bJ7 _ _)
theorem cVn (s : ByteArray) (p : Nat) : NmOk s.size (aXa s p) := by
 unfold aXa
 split
 · exact aZ4 _ _
 · split
   · exact ⟨cYy _, fun a h => by cases h⟩
   · exact aZ4 _ _
theorem dZo (s : ByteArray) (p : Nat) : NmOk s.size (aYk s p) := by
 unfold aYk
 split
 · exact ⟨cYy _, fun a h => by cases h⟩
 · exact aZ4 _ _
theorem end_nm (s : ByteArray) (p : Nat) : NmOk s.size (endZ s p) := by
 unfold endZ
 split
 · exact aZ4 _ _
 · simp only
   split
   · exact ⟨bJ7 _ _, fun a h => by cases h⟩
   · exact aZ4 _ _
theorem pi_nm (s : ByteArray) (p : Nat) : NmOk s.size (piZ s p) := by
 unfold piZ
 split
 · exact aZ4 _ _
 split
 · exact aZ4 _ _
 simp only
 split
 · split
   · exact ⟨bJ7 _ _, fun a h => by cases h⟩
   · exact aZ4 _ _
 · split
   · exact ⟨bJ7 _ _, fun a h => by cases h⟩
   · exact aZ4 _ _
theorem cVk (s : ByteArray) (p : Nat) : NmOk s.size (aX1 s p) := by
 unfold aX1
 simp only
 split
 · exact aZ4 _ _
 split
 · exact aZ4 _ _
 split
 · split
   · exact aZ4 _ _
   · split
     · exact ⟨bJ7 _ _, fun a h => by cases h⟩
     · exact aZ4 _ _
 · split
   · exact ⟨bJ7 _ _, fun a h => by cases h⟩
   · exact aZ4 _ _
theorem tag_nm (s : ByteArray) (p : Nat) : NmOk s.size (tagZ s p) := by
 unfold tagZ
 split
 · exact aZ4 _ _
 · exact cZb (bJ7 _ _) _ _ _ (fun a h => by cases h)
theorem dVn (s : ByteArray) (p : Nat) : NmOk s.size (aJf s p) := by
 unfold aJf
 split
 · exact cVn _ _
 split
 · exact dZo _ _
 split
 · exact cVk _ _
 split
 · exact pi_nm _ _
 split
 · exact end_nm _ _
 split
 · exact aZ4 _ _
 · exact tag_nm _ _
theorem dV4 (s : ByteArray) (p : Nat) (c : Bool) : NmOk s.size (aKs s p c) := by
 unfold aKs
 repeat' split
 all_goals first
  | exact aZ4 _ _
  | exact ⟨cYy _, fun a h => by cases h⟩
def nSt : List Ev → Nat
 | [] => 0
 | e :: l => (if e.kind = 1 then 1 else 0) + nSt l
def nEn : List Ev → Nat
 | [] => 0
 | e :: l => (if e.kind = 2 then 1 else 0) + nEn l
theorem cX9 (a b : List Ev) : nSt (a ++ b) = nSt a + nSt b := by
 induction a with
 | nil => simp [nSt]
 | cons x l ih => simp only [List.cons_append, nSt, ih]; omega
theorem cXa (a b : List Ev) : nEn (a ++ b) = nEn a + nEn b := by
 induction a with
 | nil => simp [nEn]
 | cons x l ih => simp only [List.cons_append, nEn, ih]; omega
theorem aYd : ∀ (l : List Ev) (op : List ByteArray) (el : Nat), aXr l op el = true → nSt l + op.length = nEn l
 | [], op, el, h => by
  unfold aXr at h
  simp only [Bool.and_eq_true, decide_eq_true_eq] at h
  simp only [nSt, nEn]; omega
 | e :: l, op, el, h => by
  unfold aXr at h
  by_cases h1 : e.kind = 1
  · rw [if_pos h1] at h
    split at h
    · cases h
    · have := aYd l _ _ h
      simp only [nSt, nEn, h1, if_true, List.length_append, List.length_cons, List.length_nil] at this ⊢
      rw [if_neg (by decide)]
      omega
  rw [if_neg h1] at h
  by_cases h2 : e.kind = 2
  · rw [if_pos h2] at h
    split at h
    · cases h
    · split at h
      · have := aYd l _ _ h
        simp only [nSt, nEn, h2, if_true, List.length_take] at this ⊢
        rw [if_neg (by decide)]
        omega
      · cases h
  rw [if_neg h2] at h
  have he : nSt (e :: l) = nSt l ∧ nEn (e :: l) = nEn l := by simp [nSt, nEn, h1, h2]
  rw [he.1, he.2]
  split at h
  · split at h
    · cases h
    · exact aYd l _ _ h
  · split at h
    · exact aYd l _ _ h
    · cases h
def Good (l : List Ev) : Prop := aXr l [] 0 = true → ∀ e ∈ l, e.kind = 1 → e.text.size = 0
theorem bW1 {l : List Ev} (h : ∀ e ∈ l, e.kind = 1 → e.text.size = 0) : Good l := fun _ => h
theorem cY7 {a b : List Ev} {e : Ev} (h : ∀ x ∈ a ++ e :: b, x.kind = 1 → x.text.size = 0) (hc : nEn (a ++ e :: b) ≤ nSt (a ++ e :: b)) (k : Int) : Good (a ++ { e with kind := k } :: b) := by
 intro hr x hx hk
 by_cases he : e.kind = 1
 · rcases List.mem_append.1 hx with hx | hx
   · exact h x (List.mem_append.2 (.inl hx)) hk
   · rcases List.mem_cons.1 hx with hx | hx
     · subst hx; exact h e (by simp) he
     · exact h x (by simp [hx]) hk
 · rcases List.mem_append.1 hx with hx | hx
   · exact h x (List.mem_append.2 (.inl hx)) hk
   · rcases List.mem_cons.1 hx with hx | hx
     · subst hx
       exfalso
       have h1 := aYd _ _ _ hr
       simp only at hk
       simp only [cX9, cXa, nSt, nEn, hk, List.length_nil] at h1 hc
       rw [if_neg he] at hc
       rw [if_pos trivial, if_neg (show ¬ (1 : Int) = 2 by decide)] at h1
       split at hc <;> omega
     · exact h x (by simp [hx]) hk
end Go.Proofs.YtocnfoeaikiecaaGreatDoor.PlainJ
namespace Go.Proofs.YtocnfoeaikiecaaGreatDoor
open Go.RowKit Strs Strs2 Ents Plain11 Plain23 Go.Lib Tryz
theorem cK3 : ∀ F, VlC F := fun F => by
 induction F using Nat.strongRecOn with
 | ind F ih => exact cJt F ih
theorem cK0 (t : ByteArray) (w : World) (ht : t.size ≤ 1000000000) : Calls prog 111 #[.string t] w fun e w' => (∃ t', e = .returned (.string t')) ∧ Below w.heap.size w w' := by
 obtain ⟨i0, hi, hz0, hz1, hz2⟩ := info_parts bQz
 go_enter func111, ntmps111
 go_wp2
 go_loopw [3, 4] (fun v i wr => ∃ (k n : Nat) (l : List Int), k ≤ t.size ∧ n ≤ k ∧ l.length = n ∧ i = .int .i64 k ∧ wr.ownsRow w.heap.size 5 1 v n (l.map (Value.int .u8)) ∧ Below w.heap.size w wr) (fun _ i _ => t.size - (RowKit.intOf i).toNat)
 case atStart => exact ⟨0, 0, [], Nat.zero_le _, Nat.le_refl _, rfl, rfl, World.ownsRow_lit w _ 0 (Nat.le_refl _) (by unfold maxLen; omega) (by simp), bAl⟩
 case round =>
  obtain ⟨k, n, l, hk, hn, hl, rfl, hown, hb⟩ := hrel
  obtain ⟨ba, bc, rfl, hba⟩ := aQr hown
  have HO := aQ0 hown
  have HB := aQ0 hb
  have HL := aQ0 hl
  have HBA := aQ0 hba
  have hbz := hb.size
  clear hba hl hb
  by_cases hlt : k < t.size
  · obtain ⟨c, hbe⟩ : ∃ b, aQ1 t k = b := ⟨_, rfl⟩
    have hbd := aXn t k
    rw [hbe] at hbd
    have hix : ∀ wx, (Instr.index 9 (.string t) (.int .i64 (k : Int))).run prog wx = .ok (.int .u8 c) wx := fun wx => by rw [aQ8 wx 9 t k hlt underlying9, hbe]
    have hlti : (k : Int) < (t.size : Int) := by omega
    have hmx : n + 1 ≤ maxLen := by unfold maxLen; omega
    have hmy : (n + 1) * 1 ≤ 140737488355328 := by omega
    have hmz : ∀ o, w.heap.size ≤ (wr.alloc o).heap.size := fun o => bQ4 hbz o
    have hone : ∀ u ∈ [Value.int .u8 c], u.oneCell' = true := by intro u hu; simp at hu; subst hu; rfl
    clear hbe hown
    by_cases h32 : c = 32
    · have h32b : (c != 32) = false := by simp [h32]
      by_cases hn0 : n = 0
      · have hng : ¬ (n : Int) > 0 := by omega
        subst h32
        go_wp2
        go_roundw
        case rel => exact ⟨k + 1, n, l, by omega, by omega, HL.out, by go_num, HO.out, HB.out⟩
        case measure => simp only [RowKit.intOf]; omega
      · obtain ⟨m, rfl⟩ : ∃ m, n = m + 1 := ⟨n - 1, by omega⟩
        obtain ⟨bb, rfl⟩ := HBA.out (by omega)
        have hcell := HO.out.cellAt m (by omega)
        have hml : m < l.length := by rw [HL.out]; omega
        rw [List.getElem?_map, List.getElem?_eq_getElem hml, Option.map_some] at hcell
        obtain ⟨y, hy⟩ := nmE (l[m])
        rw [hy] at hcell
        have hm1 : IntKind.i64.wrap (m : Int) = (m : Int) := Strs2.aXt (by omega) (by omega)
        have hng : ((m + 1 : Nat) : Int) > 0 := by omega
        subst h32
        clear hy hml
        by_cases hy32 : y = 32
        · have hyb : (y != 32) = false := by simp [hy32]
          subst hy32
          go_wp2
          go_roundw
          case rel => exact ⟨k + 1, m + 1, l, by omega, by omega, HL.out, by go_num, HO.out, HB.out⟩
          case measure => simp only [RowKit.intOf]; omega
        · have hyb : (y != 32) = true := by simpa using hy32
          go_wp2_with (at_builtin; refine wpList_append_own _ rfl _ _ 22 rfl w.heap.size 5 i0 (.int .u8 0) 1 1 underlying22 hi hz0 hz1 hz2 rfl (by decide) _ _ _ rfl (HO.out.alloc _) ⟨_, 0, none⟩ 1 1 [.int .u8 32] rfl rfl (cQ6 _ _ _) hone hmx hmy (hmz _) ?_; intro v' w3 hown' hgrow _; replace hown' := aQ0 hown'; replace hgrow := aQ0 hgrow)
          go_roundw
          case rel => exact ⟨k + 1, m + 1 + 1, l ++ [32], by omega, by omega, by rw [List.length_append, HL.out]; rfl, by go_num, by rw [List.map_append]; exact hown'.out, (HB.out.alloc hbz _).grown hgrow.out (hmz _) (fun j hj => (HO.out.lt j hj).1)⟩
          case measure => simp only [RowKit.intOf]; omega
    · have h32b : (c != 32) = true := by simpa using h32
      go_wp2_with (at_builtin; refine wpList_append_own _ rfl _ _ 22 rfl w.heap.size 5 i0 (.int .u8 0) 1 1 underlying22 hi hz0 hz1 hz2 rfl (by decide) _ _ _ rfl (HO.out.alloc _) ⟨_, 0, none⟩ 1 1 [.int .u8 c] rfl rfl (cQ6 _ _ _) hone hmx hmy (hmz _) ?_; intro v' w3 hown' hgrow _; replace hown' := aQ0 hown'; replace hgrow := aQ0 hgrow)
      go_roundw
      case rel => exact ⟨k + 1, n + 1, l ++ [c], by omega, by omega, by rw [List.length_append, HL.out]; rfl, by go_num, by rw [List.map_append]; exact hown'.out, (HB.out.alloc hbz _).grown hgrow.out (hmz _) (fun j hj => (HO.out.lt j hj).1)⟩
      case measure => simp only [RowKit.intOf]; omega
  · have hlti : ¬ (k : Int) < (t.size : Int) := by omega
    have hcv := bX6 hown
    by_cases hn0 : n = 0
    · subst hn0
      clear hown hn
      go_wp2
      go_ret
      exact ⟨⟨_, rfl⟩, HB.out⟩
    · obtain ⟨m, rfl⟩ : ∃ m, n = m + 1 := ⟨n - 1, by omega⟩
      obtain ⟨bb, rfl⟩ := HBA.out (by omega)
      have hcell := HO.out.cellAt m (by omega)
      have hml : m < l.length := by rw [HL.out]; omega
      rw [List.getElem?_map, List.getElem?_eq_getElem hml, Option.map_some] at hcell
      obtain ⟨y, hy⟩ := nmE (l[m])
      rw [hy] at hcell
      have hm1 : IntKind.i64.wrap (m : Int) = (m : Int) := Strs2.aXt (by omega) (by omega)
      have hng : ((m + 1 : Nat) : Int) > 0 := by omega
      have hcap := aWs hown
      have hcut := aW8 (m := m) hown (by omega)
      rw [Nat.mul_one, ← List.map_take] at hcut
      have hcv2 := bX6 hcut
      have hcp : m ≤ bc := by omega
      clear hy hml hown hcut
      by_cases hy32 : y = 32
      · subst hy32
        go_wp2
        go_ret
        exact ⟨⟨_, rfl⟩, HB.out⟩
      · have hyb : (y == 32) = false := by simpa using hy32
        go_wp2
        go_ret
        exact ⟨⟨_, rfl⟩, HB.out⟩
theorem bWy {W : World} {B : Nat} {t : TypeId} {v : Value} {l : List At5} (h : W.ownsRow B t 5 v l.length (aJ8 l)) : ∃ ao ac, v = .slice ao l.length ac ∧ aWl W ao l := by
 rcases h.2 with ⟨h0, hn⟩ | ⟨g, cap, cur, hv, _⟩
 · exact ⟨none, 0, by rw [h0, hn], 0, 0, fun h => by omega, fun i hi => by omega⟩
 · subst hv
   refine ⟨_, _, rfl, g, 0, fun _ => rfl, fun j hj => ?_⟩
   have h1 := h.cellAt (j * 5) (by omega)
   have h2 := h.cellAt (j * 5 + 1) (by omega)
   have h3 := h.cellAt (j * 5 + 2) (by omega)
   have h4 := h.cellAt (j * 5 + 3) (by omega)
   have h5 := h.cellAt (j * 5 + 4) (by omega)
   obtain ⟨a1, a2, a3, a4, a5⟩ := bXa l j hj
   rw [Nat.mul_comm] at a1 a2 a3 a4 a5
   rw [Nat.zero_add]
   exact ⟨h1.trans a1, h2.trans a2, h3.trans a3, h4.trans a4, h5.trans a5⟩
theorem cVf (a b : ByteArray) (c d : Bool) (e : ByteArray) (w : World) : (Instr.field 146 (.agg #[.string a, .string b, .bool c, .bool d, .string e]) 2).run prog w = .ok (.bool c) w := by kernel_rfl
structure Lim (S : Sx) : Prop where
 el : S.ents.length ≤ 4000
 et : ∀ e ∈ S.ents, e.2.size ≤ 4000
 vb : ∀ e ∈ S.ents, VB e.2 0
 al : S.atts.length ≤ 4000
 ad : ∀ a ∈ S.atts, a.nm.size ≤ 4000 ∧ a.val.size ≤ 4000
 sp : S.sp ≤ 8000
 ok : S.cd = 0 → S.sp ≤ 4000 ∧ S.usg.length ≤ S.sp
theorem VS.lim {S S' : Sx} (h : VS S S') (hL : Lim S) : Lim S' := by
 have h1 := h.top hL.sp
 have h2 := h.ok (fun h0 => (hL.ok h0).1)
 have h3 := h.len
 have h4 := h.up
 obtain ⟨u, s, c, rfl⟩ := h.like
 exact ⟨hL.el, hL.et, hL.vb, hL.al, hL.ad, h1, fun h0 => ⟨(h2 h0).2, by have := (hL.ok (h2 h0).1).2; simp only at h3 h4 ⊢; omega⟩⟩
theorem Qr.put2 {B g b : Nat} {w W W4 : World} {S S4 : Sx} {dv av ov tv pv uv uv4 : Value} (h : Qr B w W g S dv av ov tv pv uv) (h4 : Qr B w W4 g S4 dv av ov tv pv uv4) (hV : ∃ u s c, S4 = { S with usg := u, sp := s, cd := c }) (hb : W.heap.size ≤ b) {cs : Array Value} {t : TypeId} (hx : W4.heap[b]? = some (.cells cs t)) (h1 : t ≠ 9) (h2 : t ≠ 96) (hk : Kp W W4 [g]) (j : Nat) (u : Value) :
 Qr B w (W4.setCell ⟨b, j, none⟩ u) g S4 dv av ov tv pv uv4 ∧ Kp W (W4.setCell ⟨b, j, none⟩ u) [g] ∧ (W4.setCell ⟨b, j, none⟩ u).heap[b]? = some (.cells (cs.setIfInBounds j u) t) := by
 obtain ⟨us, sp, cd, rfl⟩ := hV
 have hbg : g ≠ b := fun e => aQ5 h4.box hx (fun e => h2 e.symm) e
 have hsz := h.sz
 refine ⟨h.re ((Below.heap_setCell W4 ⟨b, j, none⟩ u g hbg).trans h4.box) (fun k c t hc hkg _ => ?_) ⟨h4.bel.os, h4.bel.tape, h4.bel.output, by have := h4.bel.size; simpa using this, fun i hi => by rw [Below.heap_setCell W4 ⟨b, j, none⟩ u i (by simp only; omega)]; exact h4.bel.block i hi⟩ (aQ4 h4.usg (fun k hkk => ?_)), hk.set (Or.inl hb) j u, heap_setCell_same W4 b j _ _ u hx⟩
 · have hlt := (gLt hc)
   rw [Below.heap_setCell W4 ⟨b, j, none⟩ u k (by simp only; omega)]
   exact hk.block k hlt (by simpa using hkg)
 · obtain ⟨c, hc⟩ := aQ3 h4.usg hkk
   exact Below.heap_setCell W4 ⟨b, j, none⟩ u k (aQ5 hc hx (fun e => h1 e.symm))
def ArSays (B : Nat) (w W : World) (g : Nat) (S : Sx) (dv av ov tv pv : Value) (nm : ByteArray) (e : Ending) (W' : World) : Prop :=
 ∃ v S' uv', e = .returned (.agg #[.string nm, .string v]) ∧ Qr B w W' g S' dv av ov tv pv uv' ∧ VS S S' ∧ Kp W W' [g]
section
variable {B g : Nat} {w W W' : World} {S : Sx} {dv av ov tv pv uv : Value}
theorem cQ9 (h : Qr B w W g S dv av ov tv pv uv) (hL : Lim S) (of nm t : ByteArray) (ht : t.size ≤ 4000) : Calls prog 92 #[.pointer (some ⟨g, 0, none⟩), .string of, .string nm, .string t] W (ArSays B w W g S dv av ov tv pv nm) := by
 obtain ⟨W1, hW1⟩ := nmE (W.alloc (.cells #[.string ⟨#[]⟩, .string ⟨#[]⟩] 54))
 have hb1 : Below W.heap.size W W1 := by rw [← hW1]; exact bAl
 have hx1 : W1.heap[W.heap.size]? = some (.cells #[.string ⟨#[]⟩, .string ⟨#[]⟩] 54) := by rw [← hW1]; exact heap_alloc_new _ _
 have hq1 := h.keep hb1
 have hlt := h.lt
 have hval := cK3 4001 t (.slice none 0 0) [] hq1 hL.el hL.et ht hL.sp (fun h0 => ⟨(hL.ok h0).1, (hL.ok h0).2, by omega⟩) (B2 := W1.heap.size) (fun k hk => (hq1.txt.lt k hk).2) hq1.sz (Nat.le_refl _) (World.ownsRow_nil _ _ _ _) (by simp)
 have B1 := aQ0 hb1
 have X1 := aQ0 hx1
 have HL := aQ0 hL
 have HQ := aQ0 h
 clear h hb1 hx1 hq1 hL
 go_enter func92, ntmps92
 go_wp2_with fail
 refine hval.mono ?_
 rintro e w2 ⟨S2, uv2, v2, l2, rfl, hq2, hv2, hr2, hl2, hk2⟩
 have HW1 := aQ0 hW1
 have hl2' : l2.length ≤ 60000 := by
  have := hv2.top HL.out.sp
  simp only [List.length_nil] at hl2
  omega
 have hsz2 : (strOfNums l2).size ≤ 60000 := by rw [strOfNums_size]; exact hl2'
 have hcv := bX6 hr2
 obtain ⟨X, hX⟩ := nmE (strOfNums l2)
 rw [hX] at hcv hsz2
 obtain ⟨a2, c2, hve⟩ := aZi hr2
 subst hve
 have K2 := aQ0 (show Kp W w2 [g] from ⟨hk2.os.trans B1.out.os, hk2.tape.trans B1.out.tape, hk2.output.trans B1.out.output, Nat.le_trans B1.out.size hk2.size, fun k hk hn => (hk2.block k (Nat.lt_of_lt_of_le hk B1.out.size) (by simpa using hn) (.inl (Nat.lt_of_lt_of_le hk B1.out.size))).trans (B1.out.block k hk)⟩)
 have x2 : w2.heap[W.heap.size]? = some (.cells #[.string ⟨#[]⟩, .string ⟨#[]⟩] 54) := (hk2.block _ (gLt X1.out) (by omega) (.inl (gLt X1.out))).trans X1.out
 have X2 := aQ0 x2
 have Q2 := aQ0 hq2
 have V2 := aQ0 hv2
 have hal2 := (hv2.lim HL.out).al
 obtain ⟨da, dc, rfl, _⟩ := aKf hq2.ents
 obtain ⟨aa, ac, rfl, hA⟩ := bWy hq2.atts
 obtain ⟨c0, c1, _, _, _, _, _, _, _, _⟩ := hq2.cells
 have hat := bQs w2 da aa S2.ents.length dc S2.atts.length ac S2.atts of nm rfl (by omega) hA
 obtain ⟨Y, hY⟩ := nmE (attR S2.atts of nm)
 rw [hY] at hat
 have hfw := fun wx => cVf Y.of Y.nm Y.words Y.has Y.val wx
 clear hval hq2 hv2 hr2 hl2 hk2 x2 hY hA hX hl2' hW1
 go_wp2_with fail
 refine hat.mono ?_
 rintro e w3 ⟨rfl, hg3⟩
 have hb3 : Below w2.heap.size w2 w3 := Ents.bJu hg3
 have Q3 := aQ0 (Q2.out.keep hb3)
 have K3 := aQ0 (K2.out.on hb3)
 have x3 := (hb3.block _ (gLt X2.out)).trans X2.out
 have X3 := aQ0 x3
 clear hat hg3 c0 c1 hb3 x3
 cases hw : Y.words with
 | true =>
  rw [hw] at hfw
  have hwd := cK0 X w3 (by omega)
  go_wp2_with fail
  refine hwd.mono ?_
  rintro e w4 ⟨⟨X', rfl⟩, hb4⟩
  have Q4 := aQ0 (Q3.out.keep hb4)
  have K4 := aQ0 (K3.out.on hb4)
  have x4 := (hb4.block _ (gLt X3.out)).trans X3.out
  obtain ⟨r0, r1⟩ := bVr x4
  have hf0 : w4.frozen? ⟨W.heap.size, 0, none⟩ = false := by simp [World.frozen?, x4]
  have hf1 : w4.frozen? ⟨W.heap.size, 1, none⟩ = false := by simp [World.frozen?, x4]
  have X4 := aQ0 x4
  clear hwd hb4 x4
  go_wp2
  refine bodyPost_ret (v := .agg #[.string nm, .string X']) (by simp [results, results92, go_sem, r0, r1]) rfl ?_
  obtain ⟨y1, y2, y3⟩ := HQ.out.put2 Q4.out V2.out.like (Nat.le_refl _) X4.out (by decide) (by decide) K4.out 0 (.string nm)
  obtain ⟨y4, y5, _⟩ := HQ.out.put2 y1 V2.out.like (Nat.le_refl _) y3 (by decide) (by decide) y2 1 (.string X')
  exact ⟨X', S2, uv2, rfl, y4, V2.out, y5⟩
 | false =>
  rw [hw] at hfw
  obtain ⟨r0, r1⟩ := bVr X3.out
  have hf0 : w3.frozen? ⟨W.heap.size, 0, none⟩ = false := by simp [World.frozen?, X3.out]
  have hf1 : w3.frozen? ⟨W.heap.size, 1, none⟩ = false := by simp [World.frozen?, X3.out]
  go_wp2
  refine bodyPost_ret (v := .agg #[.string nm, .string X]) (by simp [results, results92, go_sem, r0, r1]) rfl ?_
  obtain ⟨y1, y2, y3⟩ := HQ.out.put2 Q3.out V2.out.like (Nat.le_refl _) X3.out (by decide) (by decide) K3.out 0 (.string nm)
  obtain ⟨y4, y5, _⟩ := HQ.out.put2 y1 V2.out.like (Nat.le_refl _) y3 (by decide) (by decide) y2 1 (.string X)
  exact ⟨X, S2, uv2, rfl, y4, V2.out, y5⟩
end
open Go.RowKit Strs2 Ents PlainR PlainJ Go.Lib
structure Jv (S : Sx) : Prop where
 st : ∀ e ∈ S.evs, e.kind = 1 → e.text.size = 0
 nm : ∀ e ∈ S.evs, e.name.size ≤ 4000 ∧ e.attrs.length ≤ 9000 ∧ ∀ a ∈ e.attrs, a.1.size ≤ 4000
 cnt : nSt S.evs = nEn S.evs + S.opn.length
 op : S.opn.length ≤ 30
structure CS (S S' : Sx) (n : Nat) : Prop where
 ents : S'.ents = S.ents
 atts : S'.atts = S.atts
 len : S'.usg.length = S.usg.length
 up : S.sp ≤ S'.sp
 top : S.sp ≤ 8000 → S'.sp ≤ 8000
 ok : (S.cd = 0 → S.sp ≤ 4000) → S'.cd = 0 → S.cd = 0 ∧ S'.sp ≤ 4000
 evn : S'.evs.length + 4 * S.sp ≤ S.evs.length + 4 * S'.sp + n
 txn : S'.txt.length + 100000 * S.sp ≤ S.txt.length + 100000 * S'.sp + 25000 * n
 inv : Jv S → Jv S'
section
variable {S S' S'' : Sx} {n m : Nat}
theorem CS.refl (S : Sx) : CS S S 0 := ⟨rfl, rfl, rfl, Nat.le_refl _, id, fun h h0 => ⟨h0, h h0⟩, by omega, by omega, id⟩
theorem CS.trans (h : CS S S' n) (h' : CS S' S'' m) : CS S S'' (n + m) :=
 ⟨h'.ents.trans h.ents, h'.atts.trans h.atts, h'.len.trans h.len, Nat.le_trans h.up h'.up, fun hs => h'.top (h.top hs), fun h1 h2 => by
  have := h'.ok (fun h0 => (h.ok h1 h0).2) h2
  exact ⟨(h.ok h1 this.1).1, this.2⟩, by have := h.evn; have := h'.evn; omega, by have := h.txn; have := h'.txn; omega, fun hj => h'.inv (h.inv hj)⟩
theorem CS.mono (h : CS S S' n) (hm : n ≤ m) : CS S S' m := ⟨h.ents, h.atts, h.len, h.up, h.top, h.ok, by have := h.evn; omega, by have := h.txn; omega, h.inv⟩
theorem VS.cs (h : VS S S') : CS S S' 0 := by
 have h1 := h.len
 have h2 := h.up
 have h3 := h.top
 have h4 := h.ok
 obtain ⟨u, s, c, rfl⟩ := h.like
 simp only at h1 h2 h3 h4
 exact ⟨rfl, rfl, h1, h2, h3, h4, by show S.evs.length + 4 * S.sp ≤ S.evs.length + 4 * s + 0; omega, by show S.txt.length + 100000 * S.sp ≤ S.txt.length + 100000 * s + 25000 * 0; omega, fun j => ⟨j.st, j.nm, j.cnt, j.op⟩⟩
theorem CS.lim (h : CS S S' n) (hL : Lim S) : Lim S' :=
 ⟨by rw [h.ents]; exact hL.el, by rw [h.ents]; exact hL.et, by rw [h.ents]; exact hL.vb, by rw [h.atts]; exact hL.al, by rw [h.atts]; exact hL.ad, h.top hL.sp, fun h0 => by
  obtain ⟨h1, h2⟩ := h.ok (fun h0 => (hL.ok h0).1) h0
  have := (hL.ok h1).2
  have := h.len
  have := h.up
  exact ⟨h2, by omega⟩⟩
theorem cYb (S : Sx) : S.flush.evs.length ≤ S.evs.length + 1 := by
 unfold Sx.flush
 simp only
 split <;> simp
theorem bYu {S : Sx} {e : Ev} (h : e ∈ S.flush.evs) : e ∈ S.evs ∨ e = ⟨3, ⟨#[]⟩, strOfNums S.txt, []⟩ := by
 unfold Sx.flush at h
 simp only at h
 split at h
 · exact .inl h
 · rcases List.mem_append.1 h with h | h
   · exact .inl h
   · exact .inr (List.mem_singleton.1 h)
theorem cYc (S : Sx) : nSt S.flush.evs = nSt S.evs ∧ nEn S.flush.evs = nEn S.evs := by
 unfold Sx.flush
 simp only
 split
 · exact ⟨rfl, rfl⟩
 · rw [cX9, cXa]; simp [nSt, nEn]
theorem cQm (S : Sx) (E : Ev) (opn : List ByteArray) (sn : Bool) (h1 : E.kind = 1 → E.text.size = 0) (h2 : E.name.size ≤ 4000 ∧ E.attrs.length ≤ 9000 ∧ ∀ a ∈ E.attrs, a.1.size ≤ 4000) (h3 : Jv S → nSt [E] + S.opn.length = nEn [E] + opn.length ∧ opn.length ≤ 30) : CS S { S.tell E with opn := opn, sn := sn } 2 := by
 have hl := cYb S
 have hc := cYc S
 refine ⟨rfl, rfl, rfl, Nat.le_refl _, id, fun h h0 => ⟨h0, h h0⟩, ?_, ?_, fun j => ⟨?_, ?_, ?_, (h3 j).2⟩⟩
 · show (S.flush.evs ++ [E]).length + 4 * S.sp ≤ S.evs.length + 4 * S.sp + 2
   rw [List.length_append]; simp only [List.length_cons, List.length_nil]; omega
 · show 0 + 100000 * S.sp ≤ S.txt.length + 100000 * S.sp + 25000 * 2
   omega
 · intro e he hk
   rcases List.mem_append.1 (show e ∈ S.flush.evs ++ [E] from he) with he | he
   · rcases bYu he with he | he
     · exact j.st e he hk
     · subst he; exact absurd (show (3 : Int) = 1 from hk) (by decide)
   · rw [List.mem_singleton] at he; subst he; exact h1 hk
 · intro e he
   rcases List.mem_append.1 (show e ∈ S.flush.evs ++ [E] from he) with he | he
   · rcases bYu he with he | he
     · exact j.nm e he
     · subst he; exact ⟨Nat.zero_le _, Nat.zero_le _, fun a h => by cases h⟩
   · rw [List.mem_singleton] at he; subst he; exact h2
 · show nSt (S.flush.evs ++ [E]) = nEn (S.flush.evs ++ [E]) + opn.length
   rw [cX9, cXa, hc.1, hc.2]
   have := j.cnt
   have := (h3 j).1
   omega
end
def aY5 (B : Nat) (w W : World) (g : Nat) (S : Sx) (dv av : Value) (n : Nat) (e : Ending) (W' : World) : Prop :=
 e = .returned (.tuple #[]) ∧ ∃ S' ov' tv' pv' uv', Qr B w W' g S' dv av ov' tv' pv' uv' ∧ CS S S' n ∧ Kc g W W'
section
variable {B g : Nat} {w W W' : World} {S : Sx} {dv av ov tv pv uv : Value}
theorem Qr.setOpn (h : Qr B w W g S dv av ov tv pv uv) {pv' : Value} {opn' : List ByteArray} (hr : W.ownsRow B 9 1 pv' opn'.length (strs opn')) : Qr B w (W.setCell ⟨g, 4, none⟩ pv') g { S with opn := opn' } dv av ov tv pv' uv ∧ Kp W (W.setCell ⟨g, 4, none⟩ pv') [g] := by
 obtain ⟨p1, p2, p3⟩ := h.put 4 pv'
 have hrow : ∀ {e : TypeId} {size n : Nat} {v : Value} {xs : List Value}, W.ownsRow B e size v n xs → e ≠ 96 → (W.setCell ⟨g, 4, none⟩ pv').ownsRow B e size v n xs := fun hv h1 => aQ4 hv (fun k hkk => by
  obtain ⟨cs, hc⟩ := aQ3 hv hkk
  exact p3 k (aQ5 hc h.box h1))
 exact ⟨h.upd p1 p2 (fun k cs t hc ht => p3 k (aQ5 hc h.box (by rcases ht with rfl | rfl <;> decide))) rfl rfl (h.evs.keep (fun k cs t hc ht => p3 k (aQ5 hc h.box (by rcases ht with rfl | rfl <;> decide)))) (hrow h.txt (by decide)) (hrow hr (by decide)) (hrow h.usg (by decide)), (Kp.refl W [g]).set (Or.inr List.mem_cons_self) 4 _⟩
theorem aJr {W W' : World} {g : Nat} (hg : W.grownBy W' (some g)) : Kp W W' [g] := by have := aXe hg; simpa using this
theorem aKl (h : Qr B w W g S dv av ov tv pv uv) (c : Int) (hc : c ≠ 0) (n : Nat) : Calls prog 43 #[.pointer (some ⟨g, 0, none⟩), .int .i64 c] W (aY5 B w W g S dv av n) :=
 (aJ9 h c).mono (by
  rintro e W' ⟨rfl, hq, hg⟩
  exact ⟨rfl, _, _, _, _, _, hq, (VS.fail S c hc).cs.mono (Nat.zero_le _), Kc.kp (aJr hg)⟩)
theorem cJj (h : Qr B w W g S dv av ov tv pv uv) (nm : ByteArray) (low : Nat) (hnm : nm.size ≤ 4000) (hlow : low ≤ 1000000) (hel : S.evs.length ≤ 1000000) (hop : S.opn.length ≤ 1000000) : Calls prog 66 #[.pointer (some ⟨g, 0, none⟩), .string nm, .int .i64 (low : Int)] W (aY5 B w W g S dv av 2) := by
 obtain ⟨_, _, _, _, c4, _, _, _, _, _⟩ := h.cells
 obtain ⟨pa, pc, rfl, hpa⟩ := aQr h.opn
 have hf := aKl h 3 (by decide) 2
 by_cases hle : S.opn.length ≤ low
 · have hle' : (S.opn.length : Int) ≤ (low : Int) := by omega
   clear h hpa hle
   go_enter func66, ntmps66
   go_wp2_with fail
   refine hf.mono ?_
   rintro e w1 ⟨rfl, h1⟩
   go_wp2
   go_end0
   exact ⟨rfl, h1⟩
 · obtain ⟨m, hm⟩ : ∃ m, S.opn.length = m + 1 := ⟨S.opn.length - 1, by omega⟩
   obtain ⟨pb, rfl⟩ := hpa (by omega)
   have hcell := h.opn.cellAt m (by omega)
   rw [bKm _ (by omega)] at hcell
   obtain ⟨X, hX⟩ := nmE (S.opn.getD m ⟨#[]⟩)
   rw [hX] at hcell
   have hle' : ¬ ((m + 1 : Nat) : Int) ≤ (low : Int) := by omega
   have hm1 : IntKind.i64.wrap (m : Int) = (m : Int) := Strs2.aXt (by omega) (by omega)
   have HQ := aQ0 h
   have HM := aQ0 hm
   rw [hm] at c4
   cases hq : (X.toList == nm.toList) with
   | false =>
    clear h hpa hle hX hm
    go_enter func66, ntmps66
    go_wp2_with fail
    refine hf.mono ?_
    rintro e w1 ⟨rfl, h1⟩
    go_wp2
    go_end0
    exact ⟨rfl, h1⟩
   | true =>
    have ht := bQo (E := ⟨2, nm, ⟨#[]⟩, []⟩) h (World.ownsRow_nil _ _ _ _) hel
    clear h hpa hle hX hf hm
    go_enter func66, ntmps66
    go_wp2_with fail
    refine ht.mono ?_
    rintro e w1 ⟨rfl, ov1, hq1, hk1⟩
    have Q1 := aQ0 hq1
    have K1 := aQ0 hk1
    have ho1 : w1.ownsRow B 9 1 (.slice (some ⟨pb, 0, none⟩) (m + 1) pc) (m + 1) (strs S.opn) := by have := hq1.opn; rw [← HM.out]; exact this
    have hcap := aWs ho1
    have hcut := aW8 (m := m) ho1 (by omega)
    rw [Nat.mul_one, bQp] at hcut
    have hlen : (S.opn.take m).length = m := by rw [List.length_take, HM.out]; omega
    obtain ⟨p1, p2⟩ := hq1.setOpn (pv' := .slice (some ⟨pb, 0, none⟩) m pc) (opn' := S.opn.take m) (by rw [hlen]; exact hcut)
    have P1 := aQ0 p1
    have P2 := aQ0 p2
    have c4' := hq1.cells.2.2.2.2.1
    rw [HM.out] at c4'
    have f4 := hq1.thaw 4
    have hcp : m ≤ pc := by omega
    have HLEN := aQ0 hlen
    clear ht hq1 hk1 ho1 hcut p1 p2 hcap hlen c4 hcell
    go_wp2
    go_end0
    refine ⟨rfl, _, _, _, _, _, P1.out, cQm S ⟨2, nm, ⟨#[]⟩, []⟩ (S.opn.take m) S.sn (fun h => absurd (show (2 : Int) = 1 from h) (by decide)) ⟨hnm, Nat.zero_le _, fun a h => by cases h⟩ (fun j => ?_), K1.out.trans (Kc.kp P2.out)⟩
    rw [HLEN.out, HM.out]
    have := j.op
    rw [HM.out] at this
    exact ⟨by simp [nSt, nEn]; omega, by omega⟩
end
end Go.Proofs.YtocnfoeaikiecaaGreatDoor
