/- Nodes that are marked: plain; one node of a row that is written. -/
/- The laws' marks on a row of events of our own: what is written lies between two bounds. -/
/- The laws' marks on a row of nodes. -/
import Derived.Test.YtlfcmlcpdpkibaaDoorMkY
import Derived.Test.YtlfcmlcpdpkibaaDoorSpT
import Derived.Test.YtlfcmlcpdpkibaaDoorSpR
namespace Go.Proofs.YtlfcmlcpdpkibaaDoor
open Go.RowKit Lists Ents PlainR PlainN
set_option linter.unusedVariables false

/-- How many marks a node takes. -/
def mkL (d : Nd) : Nat := 6 + d.decls.length * 2 + d.attrs.length * 4
/-- A node that is marked from a number on. -/
def mkNd (K : Nat) (d : Nd) : Nd :=
  ⟨(K : Int), ⟨mt (K + 1), mt (K + 2), mt (K + 3), mt (K + 4)⟩, mks d.decls.length (K + 5), mkn d.attrs.length (K + 5 + d.decls.length * 2), mt (K + 5 + d.decls.length * 2 + d.attrs.length * 4)⟩
def mkT : List Nd → Nat
  | [] => 0
  | d :: l => mkL d + mkT l
def mkNds : Nat → List Nd → List Nd
  | _, [] => []
  | K, d :: l => mkNd K d :: mkNds (K + mkL d) l
theorem mkNds_len : ∀ (l : List Nd) (K : Nat), (mkNds K l).length = l.length
  | [], _ => rfl
  | d :: l, K => by simp [mkNds, mkNds_len l]
theorem mkT_app : ∀ (a b : List Nd), mkT (a ++ b) = mkT a + mkT b
  | [], b => by simp [mkT]
  | d :: a, b => by simp [mkT, mkT_app a b]; omega
theorem mkNds_app : ∀ (a b : List Nd) (K : Nat), mkNds K (a ++ b) = mkNds K a ++ mkNds (K + mkT a) b
  | [], b, K => by simp [mkNds, mkT]
  | d :: a, b, K => by simp [mkNds, mkT, mkNds_app a b, Nat.add_assoc]
theorem mkT_bound {l : List Nd} (h : ∀ e ∈ l, e.decls.length ≤ 1048576 ∧ e.attrs.length ≤ 1048576) : mkT l ≤ l.length * 6291462 := by
  induction l with
  | nil => simp [mkT]
  | cons d l ih =>
    have h1 := h d List.mem_cons_self
    have h2 := ih (fun e he => h e (List.mem_cons_of_mem _ he))
    simp only [mkT, mkL, List.length_cons]
    omega
/-- The marks of the first j, and the others. -/
theorem take_snoc {l : List Nd} {j : Nat} (hj : j < l.length) : l.take (j + 1) = l.take j ++ [l[j]'hj] := by
  rw [List.take_add_one, List.getElem?_eq_getElem hj]; rfl
theorem mkT_snoc {l : List Nd} {j : Nat} (hj : j < l.length) : mkT (l.take (j + 1)) = mkT (l.take j) + mkL (l[j]'hj) := by
  rw [take_snoc hj, mkT_app]; simp [mkT]
theorem mkNds_at {l : List Nd} {j K : Nat} (hj : j < l.length) (h : j < (mkNds K l).length) : (mkNds K l)[j]'h = mkNd (K + mkT (l.take j)) (l[j]'hj) := by
  have e : l = l.take j ++ (l[j]'hj) :: l.drop (j + 1) := by simp
  have e2 : mkNds K l = mkNds K (l.take j) ++ mkNd (K + mkT (l.take j)) (l[j]'hj) :: mkNds (K + mkT (l.take j) + mkL (l[j]'hj)) (l.drop (j + 1)) := by
    conv => lhs; rw [e]
    rw [mkNds_app]; rfl
  have hl : (mkNds K (l.take j)).length = j := by rw [mkNds_len, List.length_take]; omega
  have e3 : (mkNds K l)[j]? = some (mkNd (K + mkT (l.take j)) (l[j]'hj)) := by
    rw [e2, List.getElem?_append_right (by omega), hl, Nat.sub_self]; rfl
  have e4 := List.getElem?_eq_getElem h
  rw [e3] at e4
  exact (Option.some.inj e4).symm
/-- What lies there when the first j are marked. -/
def half (K : Nat) (l : List Nd) (j : Nat) : List Nd := mkNds K (l.take j) ++ l.drop j
theorem half_len (K : Nat) (l : List Nd) (j : Nat) : (half K l j).length = l.length := by
  unfold half; rw [List.length_append, mkNds_len, List.length_take, List.length_drop]; omega
theorem half_zero (K : Nat) (l : List Nd) : half K l 0 = l := by simp [half, mkNds]
theorem half_all (K : Nat) (l : List Nd) : half K l l.length = mkNds K l := by simp [half]
theorem half_at {K : Nat} {l : List Nd} {j : Nat} (hj : j < l.length) (h : j < (half K l j).length) : (half K l j)[j]'h = l[j]'hj := by
  have e : (half K l j)[j]? = some (l[j]'hj) := by
    unfold half
    rw [List.getElem?_append_right (by rw [mkNds_len, List.length_take]; omega), mkNds_len, List.length_take, Nat.min_eq_left (by omega), Nat.sub_self, List.getElem?_drop]
    simp [hj]
  rw [List.getElem?_eq_getElem h] at e
  exact Option.some.inj e
theorem half_next {K : Nat} {l : List Nd} {j : Nat} (hj : j < l.length) : half K l (j + 1) = (half K l j).set j (mkNd (K + mkT (l.take j)) (l[j]'hj)) := by
  have hl : (mkNds K (l.take j)).length = j := by rw [mkNds_len, List.length_take]; omega
  have hd : l.drop j = (l[j]'hj) :: l.drop (j + 1) := List.drop_eq_getElem_cons hj
  unfold half
  rw [take_snoc hj, mkNds_app, hd, List.set_append_right j _ (by omega), hl, Nat.sub_self]
  simp only [mkNds, List.append_assoc, List.cons_append, List.nil_append, List.set_cons_zero]

/-- A cell of a row of nodes. -/
theorem ndsCells_len (l : List (Nd × (Value × Value))) : (ndsCells l).length = l.length * 8 := by
  induction l with
  | nil => rfl
  | cons a l ih => simp [ndsCells, ndCells, ih]; omega
theorem ndsCells_at : ∀ (l : List (Nd × (Value × Value))) (j : Nat) (hj : j < l.length) (i : Nat), i < 8 → (ndsCells l)[j * 8 + i]? = (ndCells (l[j]'hj).1 (l[j]'hj).2.1 (l[j]'hj).2.2).toList[i]?
  | [], j, hj, _, _ => by simp at hj
  | x :: l, 0, _, i, hi => by
    rw [show 0 * 8 + i = i by omega]
    simp only [ndsCells]
    rw [List.getElem?_append_left (by simp [ndCells]; omega)]; rfl
  | x :: l, j + 1, hj, i, hi => by
    have h := ndsCells_at l j (by simpa using hj) i hi
    simp only [ndsCells]
    rw [List.getElem?_append_right (by simp [ndCells]; omega)]
    rw [show (j + 1) * 8 + i - (ndCells x.1 x.2.1 x.2.2).toList.length = j * 8 + i by simp [ndCells]; omega]
    simpa using h
/-- A node of a row is put. -/
theorem ndsCells_set (l : List (Nd × (Value × Value))) (j : Nat) (hj : j < l.length) (d : Nd) : ndsCells (l.set j (d, (l[j]'hj).2)) = ((((((ndsCells l).set (j * 8) (.int .i64 d.kind)).set (j * 8 + 1) (.string d.name.pre)).set (j * 8 + 2) (.string d.name.loc)).set (j * 8 + 3) (.string d.name.spc)).set (j * 8 + 4) (.string d.name.val)).set (j * 8 + 7) (.string d.text) := by
  apply List.ext_getElem?
  intro k
  by_cases hk : k < l.length * 8
  · have h1 := ndsCells_at (l.set j (d, (l[j]'hj).2)) (k / 8) (by rw [List.length_set]; omega) (k % 8) (by omega)
    have h2 := ndsCells_at l (k / 8) (by omega) (k % 8) (by omega)
    rw [show k / 8 * 8 + k % 8 = k by omega] at h1 h2
    by_cases hkj : k / 8 = j
    · subst hkj
      rw [h1]
      simp only [List.getElem_set_self]
      have hlen := ndsCells_len l
      obtain h8 | h8 | h8 | h8 | h8 | h8 | h8 | h8 : k % 8 = 0 ∨ k % 8 = 1 ∨ k % 8 = 2 ∨ k % 8 = 3 ∨ k % 8 = 4 ∨ k % 8 = 5 ∨ k % 8 = 6 ∨ k % 8 = 7 := by omega
      all_goals
        rw [h8] at h2 ⊢
        simp only [List.getElem?_set, List.length_set, hlen]
        repeat (first | rw [if_neg (by omega)] | rw [if_pos (by omega), if_pos (by omega)])
        first | rfl | (rw [h2]; rfl)
    · rw [h1]
      simp only [List.getElem_set_ne (Ne.symm hkj)]
      rw [← h2]
      rw [List.getElem?_set_ne (by omega), List.getElem?_set_ne (by omega), List.getElem?_set_ne (by omega), List.getElem?_set_ne (by omega), List.getElem?_set_ne (by omega), List.getElem?_set_ne (by omega)]
  · rw [List.getElem?_eq_none (by rw [ndsCells_len, List.length_set]; omega), List.getElem?_eq_none (by simp only [List.length_set]; rw [ndsCells_len]; omega)]
theorem zip_set {α β : Type} : ∀ (l : List α) (m : List β) (j : Nat) (a : α) (h : j < (l.zip m).length), (l.set j a).zip m = (l.zip m).set j (a, ((l.zip m)[j]'h).2)
  | [], _, j, _, h => by simp at h
  | _ :: _, [], _, _, h => by simp at h
  | x :: l, y :: m, 0, a, h => by simp
  | x :: l, y :: m, j + 1, a, h => by
    have := zip_set l m j a (by simpa using h)
    simp only [List.set_cons_succ, List.zip_cons_cons, List.getElem_cons_succ, this]
/-- Nodes as they are read. -/
theorem NdsAt.ndIn {W : World} {B : Nat} {v : Value} {nds : List Nd} {vs : List (Value × Value)} (h : NdsAt W B v nds vs) : ∃ a c, v = .slice a nds.length c ∧ NdIn W a nds := by
  obtain ⟨ao, ac, rfl, hao⟩ := row_sl h.row
  refine ⟨ao, ac, rfl, ?_⟩
  by_cases h0 : nds.length = 0
  · exact ⟨0, fun h => by omega, fun j hj => by omega⟩
  · obtain ⟨g, rfl⟩ := hao (by omega)
    refine ⟨g, fun _ => rfl, fun j hj => ?_⟩
    have hzl : j < (nds.zip vs).length := by rw [List.length_zip, h.len]; omega
    have hr := h.rows _ (List.getElem_mem hzl)
    have hz : (nds.zip vs)[j]'hzl = (nds[j]'hj, vs[j]'(by rw [h.len]; omega)) := List.getElem_zip
    have hc := fun i (hi : i < 8) => (h.row.cellAt (j * 8 + i) (by omega)).trans (ndsCells_at _ j hzl i hi)
    rw [hz] at hr
    simp only [hz] at hc
    obtain ⟨⟨dv, av⟩, hvj⟩ : ∃ p, vs[j]'(by rw [h.len]; omega) = p := ⟨_, rfl⟩
    rw [hvj] at hr
    simp only [hvj] at hc hr
    obtain ⟨da, dc, rfl, hE⟩ := row_entsN hr.1
    obtain ⟨xa, xc, rfl, hN⟩ := row_nms hr.2
    exact ⟨da, dc, xa, xc, hc 0 (by omega), hc 1 (by omega), hc 2 (by omega), hc 3 (by omega), hc 4 (by omega), hc 5 (by omega), hc 6 (by omega), hc 7 (by omega), hE, hN⟩
/-- Blocks within bounds are kept: so are the nodes. -/
theorem NdsAt.keepR {W W' : World} {B : Nat} {v : Value} {nds : List Nd} {vs : List (Value × Value)} (h : NdsAt W B v nds vs) (hk : ∀ k, B ≤ k → k < W.heap.size → W'.heap[k]? = W.heap[k]?) : NdsAt W' B v nds vs :=
  ⟨h.len, own_keep h.row (fun k hkk => hk k (h.row.lt k hkk).1 (h.row.lt k hkk).2), fun p hp => ⟨own_keep (h.rows p hp).1 (fun k hkk => hk k ((h.rows p hp).1.lt k hkk).1 ((h.rows p hp).1.lt k hkk).2), own_keep (h.rows p hp).2 (fun k hkk => hk k ((h.rows p hp).2.lt k hkk).1 ((h.rows p hp).2.lt k hkk).2)⟩, h.nodup⟩
theorem flat_apart {α : Type} {f : α → List Nat} : ∀ (l : List α), (l.flatMap f).Nodup → ∀ (i j : Nat) (hi : i < l.length) (hj : j < l.length), i < j → ∀ k ∈ f (l[i]'hi), k ∉ f (l[j]'hj)
  | [], _, i, _, hi, _, _ => by simp at hi
  | x :: l, h, 0, 0, _, _, hlt => by omega
  | x :: l, h, 0, j + 1, hi, hj, _ => fun k hk hm => by
    rw [List.flatMap_cons, List.nodup_append] at h
    exact h.2.2 k hk k (List.mem_flatMap.2 ⟨_, List.getElem_mem (by simpa using hj), hm⟩) rfl
  | x :: l, h, i + 1, 0, _, _, hlt => by omega
  | x :: l, h, i + 1, j + 1, hi, hj, hlt => fun k hk hm => by
    rw [List.flatMap_cons, List.nodup_append] at h
    exact flat_apart l h.2.1 i j (by simpa using hi) (by simpa using hj) (by omega) k hk hm
/-- One node is written, with its rows. -/
theorem NdsAt.put {W W' : World} {B : Nat} {v : Value} {nds : List Nd} {vs : List (Value × Value)} {j : Nat} {d : Nd} (h : NdsAt W B v nds vs) (hj : j < vs.length)
    (hr : W'.ownsRow B 51 8 v nds.length (ndsCells ((nds.set j d).zip vs))) (hd : W'.ownsRow B 62 2 (vs[j]'hj).1 d.decls.length (acells d.decls)) (ha : W'.ownsRow B 48 4 (vs[j]'hj).2 d.attrs.length (nmCells d.attrs))
    (hk : ∀ (k : Nat) (cs : Array Value) (t : TypeId), W.heap[k]? = some (.cells cs t (0, 0)) → t = 62 ∨ t = 48 → k ∉ blk (vs[j]'hj).1 ++ blk (vs[j]'hj).2 → W'.heap[k]? = W.heap[k]?) : NdsAt W' B v (nds.set j d) vs := by
  refine ⟨by rw [List.length_set]; exact h.len, by rw [List.length_set]; exact hr, fun p hp => ?_, h.nodup⟩
  obtain ⟨i, hi, rfl⟩ := List.getElem_of_mem hp
  have hiv : i < vs.length := by rw [List.length_zip] at hi; omega
  have hin : i < nds.length := by have := h.len; omega
  have e : ((nds.set j d).zip vs)[i]'hi = ((nds.set j d)[i]'(by rw [List.length_set]; exact hin), vs[i]'hiv) := List.getElem_zip
  rw [e]
  by_cases hij : j = i
  · subst hij
    simp only [List.getElem_set_self]
    exact ⟨hd, ha⟩
  · simp only [List.getElem_set_ne hij]
    have hzl : i < (nds.zip vs).length := by rw [List.length_zip]; omega
    have hro := h.rows _ (List.getElem_mem hzl)
    have hz : (nds.zip vs)[i]'hzl = (nds[i]'hin, vs[i]'hiv) := List.getElem_zip
    rw [hz] at hro
    have hdis : ∀ k ∈ blk (vs[i]'hiv).1 ++ blk (vs[i]'hiv).2, k ∉ blk (vs[j]'hj).1 ++ blk (vs[j]'hj).2 := by
      intro k hk1 hk2
      have hp := flat_apart vs h.nodup
      rcases Nat.lt_or_gt_of_ne hij with hlt | hlt
      · exact hp j i hj hiv hlt k hk2 hk1
      · exact hp i j hiv hj hlt k hk1 hk2
    refine ⟨own_keep hro.1 (fun k hkk => ?_), own_keep hro.2 (fun k hkk => ?_)⟩
    · obtain ⟨cs, hc⟩ := own_type hro.1 hkk
      exact hk k cs _ hc (Or.inl rfl) (hdis k (List.mem_append_left _ (by unfold blk; rw [Option.mem_toList]; exact hkk)))
    · obtain ⟨cs, hc⟩ := own_type hro.2 hkk
      exact hk k cs _ hc (Or.inr rfl) (hdis k (List.mem_append_right _ (by unfold blk; rw [Option.mem_toList]; exact hkk)))
end Go.Proofs.YtlfcmlcpdpkibaaDoor

namespace Go.Proofs.YtlfcmlcpdpkibaaDoor
open Go.RowKit Lists Ents PlainR PlainN
set_option linter.unusedVariables false

theorem kp_grown {W W' W'' : World} {bs : List Nat} {r : Option Nat} (h : Kp W W' bs) (hg : W'.grownBy W'' r) (hr : ∀ k, r = some k → k ∈ bs) : Kp W W'' bs :=
  h.trans (grown_kp hg) (fun c hc _ => hr c (by rw [Option.mem_toList] at hc; exact hc))
theorem Kp.wide {W W' : World} {bs cs : List Nat} (h : Kp W W' bs) (hs : ∀ b ∈ bs, b ∈ cs) : Kp W W' cs := ⟨h.os, h.tape, h.output, h.size, fun k hk hn => h.block k hk (fun hm => hn (hs k hm))⟩
theorem own_off {W W' : World} {bs : List Nat} {B : Nat} {e : TypeId} {size : Nat} {v : Value} {n : Nat} {xs : List Value} (h : W.ownsRow B e size v n xs) (hk : Kp W W' bs) (hn : ∀ k, v.ownBlock = some k → k ∉ bs) : W'.ownsRow B e size v n xs :=
  own_keep h (fun k hkk => hk.block k (h.lt k hkk).2 (hn k hkk))
/-- The shape of a row of attributes. -/
def AtrSh (W : World) (b n c : Nat) : Prop := ∃ cur : Array Value, W.heap[b]? = some (.cells cur 62 (0, 0)) ∧ n ≤ c ∧ c ≤ maxLen ∧ cur.size = c * 2
theorem AtrSh.own {W : World} {b n c : Nat} (h : AtrSh W b n c) : ∃ ys, W.ownsRow 0 62 2 (.slice (some ⟨b, 0, none⟩) n c) n ys := by
  obtain ⟨cur, h1, h2, h3, h4⟩ := h
  exact ⟨cur.toList.take (n * 2), by rw [List.length_take, Array.length_toList, h4]; omega, .inr ⟨b, c, cur, rfl, Nat.zero_le _, h1, h2, h3, h4, rfl⟩⟩
theorem AtrSh.of_own {W : World} {B b n c : Nat} {ys : List Value} (h : W.ownsRow B 62 2 (.slice (some ⟨b, 0, none⟩) n c) n ys) : AtrSh W b n c := by
  rcases h.2 with ⟨h0, _⟩ | ⟨g, cap, cur, hv, _, h1, h2, h3, h4, _⟩
  · cases h0
  · cases hv; exact ⟨cur, h1, h2, h3, h4⟩
theorem AtrSh.other {W W' : World} {b n c n' c' : Nat} (h : AtrSh W b n c) (h' : AtrSh W b n' c') (k : AtrSh W' b n c) : AtrSh W' b n' c' := by
  obtain ⟨cur, h1, h2, h3, h4⟩ := h
  obtain ⟨cur', h1', h2', h3', h4'⟩ := h'
  obtain ⟨cur2, k1, k2, k3, k4⟩ := k
  rw [h1] at h1'
  cases h1'
  exact ⟨cur2, k1, h2', h3', by omega⟩
theorem AtrSh.keep {W W' : World} {b n c : Nat} (h : AtrSh W b n c) (hk : W'.heap[b]? = W.heap[b]?) : AtrSh W' b n c := by
  obtain ⟨cur, h1, h2⟩ := h
  exact ⟨cur, hk.trans h1, h2⟩
theorem AtrSh.lt {W : World} {b n c : Nat} (h : AtrSh W b n c) : b < W.heap.size := by
  obtain ⟨cur, h1, h2⟩ := h
  exact (Array.getElem?_eq_some_iff.1 h1).1
/-- The shape of a row of events that lie between two bounds. -/
def EvSh (lo hi : Nat) (W : World) (c n : Nat) (xs : List Value) : Prop :=
  W.ownsRow lo 42 4 (.slice (some ⟨lo, 0, none⟩) n c) n xs ∧ ∀ j, j < n → ∃ b m cc, xs[j * 4 + 3]? = some (.slice (some ⟨b, 0, none⟩) m cc) ∧ m ≤ 1048576 ∧ lo < b ∧ b < hi ∧ AtrSh W b m cc
theorem EvOwn.sh {lo : Nat} {W : World} {c : Nat} {l : List Ev} (h : EvOwn lo W c l) (hla : ∀ e ∈ l, e.attrs.length ≤ 1048576) : ∃ xs, EvSh lo W.heap.size W c l.length xs := by
  obtain ⟨xs, h1, h2⟩ := h
  refine ⟨xs, h1, fun j hj => ?_⟩
  obtain ⟨_, _, _, b, cc, h3, hb, _, B, ys, hA⟩ := h2 j hj
  have hs := AtrSh.of_own hA
  exact ⟨b, _, cc, h3, hla _ (List.getElem_mem hj), hb, hs.lt, hs⟩
theorem EvSh.grown {lo hi : Nat} {W W' : World} {c n : Nat} {xs : List Value} (h : EvSh lo hi W c n xs) (hg : W.grownBy W' none) : EvSh lo hi W' c n xs := by
  refine ⟨h.1.kept hg (.inr (by simp [Value.ownBlock])), fun j hj => ?_⟩
  obtain ⟨b, m, cc, h1, h2, h3, h4, h5⟩ := h.2 j hj
  exact ⟨b, m, cc, h1, h2, h3, h4, h5.keep (hg.block _ h5.lt (by simp))⟩
/-- What lies outside of two bounds is kept. -/
structure Kx (lo hi : Nat) (w w' : World) : Prop where
  os : w'.os = w.os
  tape : w'.tape = w.tape
  output : w'.output = w.output
  size : w.heap.size ≤ w'.heap.size
  block : ∀ k, k < w.heap.size → k < lo ∨ hi ≤ k → w'.heap[k]? = w.heap[k]?
theorem Kx.refl (lo hi : Nat) (w : World) : Kx lo hi w w := ⟨rfl, rfl, rfl, Nat.le_refl _, fun _ _ _ => rfl⟩
theorem Kx.kp {lo hi : Nat} {w W W' : World} {bs : List Nat} (h : Kx lo hi w W) (hk : Kp W W' bs) (hb : ∀ b ∈ bs, lo ≤ b ∧ b < hi) : Kx lo hi w W' :=
  ⟨hk.os.trans h.os, hk.tape.trans h.tape, hk.output.trans h.output, Nat.le_trans h.size hk.size, fun k hkk ho => (hk.block k (by have := h.size; omega) (fun hm => by have := hb k hm; omega)).trans (h.block k hkk ho)⟩

set_option maxRecDepth 100000 in
set_option maxHeartbeats 4000000 in
theorem markEventS_any (w : World) (lo hi c n : Nat) (ys : List Value) (hE : EvSh lo hi w c n ys) (hlh : lo < hi) (hn : n ≤ 1048576) :
    Calls Tryd.prog 10 #[.slice (some ⟨lo, 0, none⟩) n c, .int .i64 1] w fun e w' => (∃ z : Nat, e = .returned (.int .i64 (z : Int))) ∧ Kx lo hi w w' := by
  have HE := mkHidEa hE
  have HLH := mkHidEa hlh
  clear hE hlh
  go_enter Tryd.func10, Tryd.ntmps10
  go_wp2
  go_loopw [1, 5] (fun kk i wr => ∃ (j KJ : Nat) (xs : List Value), j ≤ n ∧ kk = .int .i64 (KJ : Int) ∧ i = .int .i64 j ∧ 1 ≤ KJ ∧ KJ ≤ 1 + j * 2097155 ∧ EvSh lo hi wr c n xs ∧ Kx lo hi w wr) (fun _ i _ => n - (intOf i).toNat)
  case atStart => exact ⟨0, 1, ys, Nat.zero_le _, rfl, rfl, by omega, by omega, HE.out, Kx.refl _ _ _⟩
  case round =>
    obtain ⟨j, KJ, xs, hj, rfl, rfl, q0, q1, hs, hx⟩ := hrel
    have HS := mkHidEa hs
    have HX := mkHidEa hx
    clear hs hx HE
    by_cases hlt : j < n
    · obtain ⟨b, m, cc, p3, hm, hlb, hbh, hA⟩ := HS.out.2 j hlt
      have HA := mkHidEa hA
      have P3 := mkHidEa p3
      have HLB := mkHidEa hlb
      have HBH := mkHidEa hbh
      have O0 := mkHidEa HS.out.1
      have hxl : xs.length = n * 4 := O0.out.1
      have F0 := mkHidEa (Kp.refl wr [lo])
      clear hA p3 hlb hbh
      have k0 := O0.out.cellAt (j * 4) (by omega)
      rw [List.getElem?_eq_getElem (by omega)] at k0
      have f0 := O0.out.frozenAt (j * 4)
      have O1 := mkHidEa (O0.out.stored (j * 4) (.int .i64 (KJ : Int))).1
      have F1 := mkHidEa (F0.out.set (b := lo) (Or.inr List.mem_cons_self) (j * 4) (.int .i64 (KJ : Int)))
      clear O0 F0
      have hm1 := markText_any (KJ + 1) (wr.setCell ⟨lo, j * 4, none⟩ (.int .i64 (KJ : Int))) (by omega) (by omega)
      rw [show ((KJ + 1 : Nat) : Int) = (KJ : Int) + 1 by omega] at hm1
      have M1 := mkHidEa hm1
      clear hm1
      go_wp2_with fail
      refine M1.out.mono ?_
      rintro e w1 ⟨rfl, hg1⟩
      have ho1 := O1.out.kept hg1 (.inr (by simp [Value.ownBlock]))
      have k1 := ho1.cellAt (j * 4 + 1) (by omega)
      rw [List.getElem?_eq_getElem (by simp only [List.length_set]; omega)] at k1
      have f1 := ho1.frozenAt (j * 4 + 1)
      have O2 := mkHidEa (ho1.stored (j * 4 + 1) (.string (mt (KJ + 1)))).1
      have F2 := mkHidEa ((kp_grown F1.out hg1 (fun k hk => by cases hk)).set (b := lo) (Or.inr List.mem_cons_self) (j * 4 + 1) (.string (mt (KJ + 1))))
      clear ho1 hg1 O1 F1 M1 k0 f0
      have hm2 := markText_any (KJ + 2) (w1.setCell ⟨lo, j * 4 + 1, none⟩ (.string (mt (KJ + 1)))) (by omega) (by omega)
      rw [show ((KJ + 2 : Nat) : Int) = (KJ : Int) + 2 by omega] at hm2
      have M2 := mkHidEa hm2
      clear hm2
      go_wp2_with fail
      refine M2.out.mono ?_
      rintro e w2 ⟨rfl, hg2⟩
      have ho2 := O2.out.kept hg2 (.inr (by simp [Value.ownBlock]))
      have k2 := ho2.cellAt (j * 4 + 2) (by omega)
      rw [List.getElem?_eq_getElem (by simp only [List.length_set]; omega)] at k2
      have f2 := ho2.frozenAt (j * 4 + 2)
      have O3 := mkHidEa (ho2.stored (j * 4 + 2) (.string (mt (KJ + 2)))).1
      have F3 := mkHidEa ((kp_grown F2.out hg2 (fun k hk => by cases hk)).set (b := lo) (Or.inr List.mem_cons_self) (j * 4 + 2) (.string (mt (KJ + 2))))
      clear ho2 hg2 O2 F2 M2 k1 f1
      have c3 := O3.out.cellAt (j * 4 + 3) (by omega)
      rw [List.getElem?_set_ne (by omega), List.getElem?_set_ne (by omega), List.getElem?_set_ne (by omega), P3.out] at c3
      have hA3 := HA.out.keep (F3.out.block b HA.out.lt (by have := HLB.out; simp; omega))
      have HA3 := mkHidEa hA3
      obtain ⟨zs, hzs⟩ := hA3.own
      have hm3 := markAttrS_any 0 _ m zs _ hzs hm (KJ + 3) (by omega) (by omega)
      rw [show ((KJ + 3 : Nat) : Int) = (KJ : Int) + 3 by omega] at hm3
      have M3 := mkHidEa hm3
      clear hm3 hzs hA3
      go_wp2_with fail
      refine M3.out.mono ?_
      rintro e w3 ⟨rfl, hd3, hg3⟩
      have hF4 : Kp wr w3 [lo, b] := (F3.out.wide (fun c hc => by simp at hc; simp [hc])).trans (grown_kp hg3) (fun c hc _ => by simp [Value.ownBlock] at hc; simp [hc])
      have F4 := mkHidEa hF4
      have HS4 : Hid (EvSh lo hi w3 c n (((xs.set (j * 4) (.int .i64 (KJ : Int))).set (j * 4 + 1) (.string (mt (KJ + 1)))).set (j * 4 + 2) (.string (mt (KJ + 2))))) := by
        refine mkHidEa ⟨O3.out.kept hg3 (.inr (by have := HLB.out; simp [Value.ownBlock]; omega)), fun i hi' => ?_⟩
        obtain ⟨b', m', cc', h1, h2, h3, h4, h5⟩ := HS.out.2 i hi'
        refine ⟨b', m', cc', ?_, h2, h3, h4, ?_⟩
        · rw [List.getElem?_set_ne (by omega), List.getElem?_set_ne (by omega), List.getElem?_set_ne (by omega)]; exact h1
        · by_cases hbb : b' = b
          · subst hbb
            exact HA.out.other h5 (AtrSh.of_own hd3)
          · exact h5.keep (hF4.block _ h5.lt (by simp; omega))
      have HX4 := mkHidEa (HX.out.kp hF4 (fun x hx => by
        have h1 := HLB.out
        have h2 := HBH.out
        have h3 := HLH.out
        simp at hx
        rcases hx with rfl | rfl <;> omega))
      clear hd3 hg3 hF4 HS HX O3 F3 HA HA3 M3 c3 k2 f2
      go_wp2
      go_roundw
      case rel => exact ⟨j + 1, KJ + 3 + m * 2, _, by omega, by go_num, by go_num, by omega, by omega, HS4.out, HX4.out⟩
      case measure => simp [intOf]; omega
    · obtain rfl : j = n := by omega
      go_wp2
      go_ret
      exact ⟨⟨_, rfl⟩, HX.out⟩
end Go.Proofs.YtlfcmlcpdpkibaaDoor

namespace Go.Proofs.YtlfcmlcpdpkibaaDoor
open Go.RowKit Lists Ents PlainR PlainN
set_option linter.unusedVariables false

/-- Two rows of two types do not meet. -/
theorem rows_apart {W : World} {B B' : Nat} {e e' : TypeId} {s s' : Nat} {v v' : Value} {n n' : Nat} {xs xs' : List Value} (h : W.ownsRow B e s v n xs) (h' : W.ownsRow B' e' s' v' n' xs') (hne : e ≠ e') : ∀ k, v.ownBlock = some k → k ∉ v'.ownBlock.toList := fun k hk hm => by
  rw [Option.mem_toList] at hm
  obtain ⟨c, hc⟩ := own_type h hk
  obtain ⟨c', hc'⟩ := own_type h' hm
  exact type_ne hc hc' hne rfl
/-- What is no node, no attribute and no name is kept. -/
def TyK (w w' : World) : Prop := ∀ (k : Nat) (cs : Array Value) (t : TypeId) (f : Nat × Nat), w.heap[k]? = some (.cells cs t f) → t ≠ 51 → t ≠ 62 → t ≠ 48 → w'.heap[k]? = w.heap[k]?
theorem TyK.refl (w : World) : TyK w w := fun _ _ _ _ _ _ _ _ => rfl
theorem TyK.trans {w W W' : World} (h : TyK w W) (h' : TyK W W') : TyK w W' := fun k cs t f hc h1 h2 h3 => by
  have e := h k cs t f hc h1 h2 h3
  exact (h' k cs t f (e.trans hc) h1 h2 h3).trans e
theorem TyK.below {w W : World} (h : Below w.heap.size w W) : TyK w W := fun k cs t f hc _ _ _ => h.block k (Array.getElem?_eq_some_iff.1 hc).1
theorem TyK.kp {W W' : World} {B g n m d : Nat} {cap : Nat} {dv av : Value} {xs ys zs : List Value} (hk : Kp W W' (g :: (blk dv ++ blk av))) (h0 : W.ownsRow B 51 8 (.slice (some ⟨g, 0, none⟩) n cap) n xs) (h1 : W.ownsRow B 62 2 dv m ys) (h2 : W.ownsRow B 48 4 av d zs) : TyK W W' := fun k cs t f hc t0 t1 t2 => hk.block k (Array.getElem?_eq_some_iff.1 hc).1 (fun hm => by
  rcases List.mem_cons.1 hm with hm | hm
  · obtain ⟨cs', hc'⟩ := own_type h0 (k := g) rfl
    exact type_ne hc hc' t0 hm
  · rcases List.mem_append.1 hm with hm | hm
    · unfold blk at hm; rw [Option.mem_toList] at hm
      obtain ⟨cs', hc'⟩ := own_type h1 hm
      exact type_ne hc hc' t1 rfl
    · unfold blk at hm; rw [Option.mem_toList] at hm
      obtain ⟨cs', hc'⟩ := own_type h2 hm
      exact type_ne hc hc' t2 rfl)
theorem below_kp {B : Nat} {w W W' : World} {bs : List Nat} (h : Below B w W) (hs : B ≤ w.heap.size) (hk : Kp W W' bs) (hb : ∀ b ∈ bs, B ≤ b) : Below B w W' :=
  ⟨hk.os.trans h.os, hk.tape.trans h.tape, hk.output.trans h.output, Nat.le_trans h.size hk.size, fun k hkk => (hk.block k (by have := h.size; omega) (fun hm => by have := hb k hm; omega)).trans (h.block k hkk)⟩

set_option maxRecDepth 100000 in
set_option maxHeartbeats 4000000 in
theorem markNodeS_any (w : World) (B : Nat) (v : Value) (nds : List Nd) (vs : List (Value × Value)) (hN : NdsAt w B v nds vs) (hB : B ≤ w.heap.size) (hl : nds.length ≤ 1048576) (hla : ∀ e ∈ nds, e.decls.length ≤ 1048576 ∧ e.attrs.length ≤ 1048576) (K : Nat) (hK0 : 1 ≤ K) (hK1 : K ≤ 1048576) :
    Calls Tryd.prog 23 #[v, .int .i64 (K : Int)] w fun e w' => e = .returned (.int .i64 ((K + mkT nds : Nat) : Int)) ∧ NdsAt w' B v (mkNds K nds) vs ∧ Below B w w' ∧ TyK w w' := by
  rcases hN.row.2 with ⟨rfl, h0⟩ | ⟨g, cap, cur, rfl, hrest⟩
  · obtain rfl : nds = [] := List.eq_nil_of_length_eq_zero h0
    have HN := mkHidEa hN
    clear hN h0
    go_enter Tryd.func23, Tryd.ntmps23
    go_wp2
    go_loopw [1, 5] (fun kk i wr => kk = .int .i64 (K : Int) ∧ i = .int .i64 0 ∧ wr = w) (fun _ _ _ => 0)
    case atStart => exact ⟨rfl, rfl, rfl⟩
    case round =>
      obtain ⟨rfl, rfl, rfl⟩ := hrel
      go_wp2
      go_ret
      exact ⟨by simp [mkT], HN.out, Below.refl _ _, TyK.refl _⟩
  · clear hrest
    have HN0 := mkHidEa hN
    have HLA := mkHidEa hla
    have HB := mkHidEa hB
    have hbd := mkT_bound hla
    clear hN hla hB
    go_enter Tryd.func23, Tryd.ntmps23
    go_wp2
    go_loopw [1, 5] (fun kk i wr => ∃ (j KJ : Nat), j ≤ nds.length ∧ kk = .int .i64 (KJ : Int) ∧ i = .int .i64 j ∧ KJ = K + mkT (nds.take j) ∧ NdsAt wr B (.slice (some ⟨g, 0, none⟩) nds.length cap) (half K nds j) vs ∧ Below B w wr ∧ TyK w wr) (fun _ i _ => nds.length - (intOf i).toNat)
    case atStart => exact ⟨0, K, Nat.zero_le _, rfl, rfl, by simp [mkT], by rw [half_zero]; exact HN0.out, Below.refl _ _, TyK.refl _⟩
    case round =>
      obtain ⟨j, KJ, hj, rfl, rfl, hKJ, hn, hb, hty⟩ := hrel
      have HKJ := mkHidEa hKJ
      have HN := mkHidEa hn
      have HBW := mkHidEa hb
      have HTY := mkHidEa hty
      have hbj : mkT (nds.take j) ≤ j * 6291462 := by
        have := mkT_bound (l := nds.take j) (fun e he => HLA.out e (List.mem_of_mem_take he))
        rw [List.length_take, Nat.min_eq_left hj] at this
        exact this
      have q0 : 1 ≤ KJ := by omega
      have q1 : KJ ≤ 8000000000000 := by omega
      clear hKJ hn hb hbj hbd HN0 hty
      by_cases hlt : j < nds.length
      · have hlv : j < vs.length := by rw [HN.out.len, half_len]; exact hlt
        have hlh : j < (half K nds j).length := by rw [half_len]; exact hlt
        have hlz : j < ((half K nds j).zip vs).length := by rw [List.length_zip]; omega
        have hz : ((half K nds j).zip vs)[j]'hlz = (nds[j]'hlt, vs[j]'hlv) := by rw [List.getElem_zip, half_at hlt]
        have hrows := HN.out.rows _ (List.getElem_mem hlz)
        rw [hz] at hrows
        obtain ⟨hz1, hz2⟩ := HLA.out _ (List.getElem_mem hlt)
        obtain ⟨D, hD⟩ : ∃ D, nds[j]'hlt = D := ⟨_, rfl⟩
        obtain ⟨⟨dv, av⟩, hv⟩ : ∃ p, vs[j]'hlv = p := ⟨_, rfl⟩
        rw [hD, hv] at hrows hz
        rw [hD] at hz1 hz2
        obtain ⟨hr1, hr2⟩ := hrows
        simp only at hr1 hr2
        have hc5 := ndsCells_at _ j hlz 5 (by omega)
        have hc6 := ndsCells_at _ j hlz 6 (by omega)
        have hput := ndsCells_set _ j hlz (mkNd KJ D)
        rw [← zip_set _ _ j (mkNd KJ D) hlz] at hput
        rw [hz] at hc5 hc6
        simp only [ndCells] at hc5 hc6
        obtain ⟨xs, hxs⟩ : ∃ xs, ndsCells ((half K nds j).zip vs) = xs := ⟨_, rfl⟩
        rw [hxs] at hc5 hc6 hput
        have O0 := mkHidEa (show wr.ownsRow B 51 8 (.slice (some ⟨g, 0, none⟩) nds.length cap) nds.length xs by have := HN.out.row; rw [hxs, half_len] at this; exact this)
        have hxl : xs.length = nds.length * 8 := O0.out.1
        have HN0r := mkHidEa O0.out
        obtain ⟨da, dc, rfl, _⟩ := row_sl hr1
        obtain ⟨aa, ac, rfl, _⟩ := row_sl hr2
        obtain ⟨dl, hdl⟩ : ∃ dl, D.decls.length = dl := ⟨_, rfl⟩
        obtain ⟨al, hal⟩ : ∃ al, D.attrs.length = al := ⟨_, rfl⟩
        rw [hdl] at hr1 hz1 hc5 hv
        rw [hal] at hr2 hz2 hc6 hv
        simp only [hdl] at hc5 hc6
        simp only [hal] at hc5 hc6
        have R1 := mkHidEa hr1
        have R2 := mkHidEa hr2
        have A1 := mkHidEa (rows_apart hr1 O0.out (by decide))
        have A2 := mkHidEa (rows_apart hr2 O0.out (by decide))
        have A3 := mkHidEa (rows_apart hr2 hr1 (by decide))
        have P5 := mkHidEa hc5
        have P6 := mkHidEa hc6
        have hput2 : ndsCells (((half K nds j).set j (mkNd KJ D)).zip vs) = (((((xs.set (j * 8) (.int .i64 (KJ : Int))).set (j * 8 + 1) (.string (mt (KJ + 1)))).set (j * 8 + 2) (.string (mt (KJ + 2)))).set (j * 8 + 3) (.string (mt (KJ + 3)))).set (j * 8 + 4) (.string (mt (KJ + 4)))).set (j * 8 + 7) (.string (mt (KJ + 5 + dl * 2 + al * 4))) := by
          rw [hput]; simp only [mkNd, hdl, hal]
        have PUT := mkHidEa hput2
        have HD := mkHidEa hD
        have HV := mkHidEa hv
        have HDL := mkHidEa hdl
        have HAL := mkHidEa hal
        have F0 := mkHidEa (Kp.refl wr [g])
        clear hr1 hr2 hc5 hc6 hput hput2 hz hD hv hdl hal hxs hlh hlz
        have k0 := O0.out.cellAt (j * 8) (by omega)
        rw [List.getElem?_eq_getElem (by omega)] at k0
        have f0 := O0.out.frozenAt (j * 8)
        have O1 := mkHidEa (O0.out.stored (j * 8) (.int .i64 (KJ : Int))).1
        have F1 := mkHidEa (F0.out.set (b := g) (Or.inr List.mem_cons_self) (j * 8) (.int .i64 (KJ : Int)))
        clear O0 F0
        have hm1 := markText_any (KJ + 1) (wr.setCell ⟨g, j * 8, none⟩ (.int .i64 (KJ : Int))) (by omega) (by omega)
        rw [show ((KJ + 1 : Nat) : Int) = (KJ : Int) + 1 by omega] at hm1
        have M1 := mkHidEa hm1
        clear hm1
        go_wp2_with fail
        refine M1.out.mono ?_
        rintro e w1 ⟨rfl, hg1⟩
        have ho1 := O1.out.kept hg1 (.inr (by simp [Value.ownBlock]))
        have k1 := ho1.cellAt (j * 8 + 1) (by omega)
        rw [List.getElem?_eq_getElem (by simp only [List.length_set]; omega)] at k1
        have f1 := ho1.frozenAt (j * 8 + 1)
        have O2 := mkHidEa (ho1.stored (j * 8 + 1) (.string (mt (KJ + 1)))).1
        have F2 := mkHidEa ((kp_grown F1.out hg1 (fun k hk => by cases hk)).set (b := g) (Or.inr List.mem_cons_self) (j * 8 + 1) (.string (mt (KJ + 1))))
        clear ho1 hg1 O1 F1 M1 k0 f0
        have hm2 := markText_any (KJ + 2) (w1.setCell ⟨g, j * 8 + 1, none⟩ (.string (mt (KJ + 1)))) (by omega) (by omega)
        rw [show ((KJ + 2 : Nat) : Int) = (KJ : Int) + 2 by omega] at hm2
        have M2 := mkHidEa hm2
        clear hm2
        go_wp2_with fail
        refine M2.out.mono ?_
        rintro e w2 ⟨rfl, hg2⟩
        have ho2 := O2.out.kept hg2 (.inr (by simp [Value.ownBlock]))
        have k2 := ho2.cellAt (j * 8 + 2) (by omega)
        rw [List.getElem?_eq_getElem (by simp only [List.length_set]; omega)] at k2
        have f2 := ho2.frozenAt (j * 8 + 2)
        have O3 := mkHidEa (ho2.stored (j * 8 + 2) (.string (mt (KJ + 2)))).1
        have F3 := mkHidEa ((kp_grown F2.out hg2 (fun k hk => by cases hk)).set (b := g) (Or.inr List.mem_cons_self) (j * 8 + 2) (.string (mt (KJ + 2))))
        clear ho2 hg2 O2 F2 M2 k1 f1
        have hm3 := markText_any (KJ + 3) (w2.setCell ⟨g, j * 8 + 2, none⟩ (.string (mt (KJ + 2)))) (by omega) (by omega)
        rw [show ((KJ + 3 : Nat) : Int) = (KJ : Int) + 3 by omega] at hm3
        have M3 := mkHidEa hm3
        clear hm3
        go_wp2_with fail
        refine M3.out.mono ?_
        rintro e w3 ⟨rfl, hg3⟩
        have ho3 := O3.out.kept hg3 (.inr (by simp [Value.ownBlock]))
        have k3 := ho3.cellAt (j * 8 + 3) (by omega)
        rw [List.getElem?_eq_getElem (by simp only [List.length_set]; omega)] at k3
        have f3 := ho3.frozenAt (j * 8 + 3)
        have O4 := mkHidEa (ho3.stored (j * 8 + 3) (.string (mt (KJ + 3)))).1
        have F4 := mkHidEa ((kp_grown F3.out hg3 (fun k hk => by cases hk)).set (b := g) (Or.inr List.mem_cons_self) (j * 8 + 3) (.string (mt (KJ + 3))))
        clear ho3 hg3 O3 F3 M3 k2 f2
        have hm4 := markText_any (KJ + 4) (w3.setCell ⟨g, j * 8 + 3, none⟩ (.string (mt (KJ + 3)))) (by omega) (by omega)
        rw [show ((KJ + 4 : Nat) : Int) = (KJ : Int) + 4 by omega] at hm4
        have M4 := mkHidEa hm4
        clear hm4
        go_wp2_with fail
        refine M4.out.mono ?_
        rintro e w4 ⟨rfl, hg4⟩
        have ho4 := O4.out.kept hg4 (.inr (by simp [Value.ownBlock]))
        have k4 := ho4.cellAt (j * 8 + 4) (by omega)
        rw [List.getElem?_eq_getElem (by simp only [List.length_set]; omega)] at k4
        have f4 := ho4.frozenAt (j * 8 + 4)
        have O5 := mkHidEa (ho4.stored (j * 8 + 4) (.string (mt (KJ + 4)))).1
        have F5 := mkHidEa ((kp_grown F4.out hg4 (fun k hk => by cases hk)).set (b := g) (Or.inr List.mem_cons_self) (j * 8 + 4) (.string (mt (KJ + 4))))
        clear ho4 hg4 O4 F4 M4 k3 f3
        obtain ⟨W5, hW5⟩ : ∃ W5, w4.setCell ⟨g, j * 8 + 4, none⟩ (.string (mt (KJ + 4))) = W5 := ⟨_, rfl⟩
        rw [hW5] at O5 F5
        have R15 := mkHidEa (own_off R1.out F5.out A1.out)
        have R25 := mkHidEa (own_off R2.out F5.out A2.out)
        have c5 := O5.out.cellAt (j * 8 + 5) (by omega)
        rw [List.getElem?_set_ne (by omega), List.getElem?_set_ne (by omega), List.getElem?_set_ne (by omega), List.getElem?_set_ne (by omega), List.getElem?_set_ne (by omega), P5.out] at c5
        simp only [List.getElem?_cons_succ, List.getElem?_cons_zero] at c5
        have hm5 := markAttrS_any B (.slice da dl dc) dl _ W5 R15.out hz1 (KJ + 5) (by omega) (by omega)
        rw [show ((KJ + 5 : Nat) : Int) = (KJ : Int) + 5 by omega] at hm5
        have M5 := mkHidEa hm5
        clear hm5
        go_wp2_with fail
        refine M5.out.mono ?_
        rintro e w6 ⟨rfl, hd6, hg6⟩
        have O6 := mkHidEa (O5.out.kept hg6 (.inr (fun e => A1.out g e.symm (by simp [Value.ownBlock]))))
        have R26 := mkHidEa (own_keep R25.out (fun k hk => hg6.block k (R25.out.lt k hk).2 (fun e => A3.out k hk (by rw [Option.mem_toList]; exact e.symm))))
        have F6 := mkHidEa ((F5.out.wide (cs := g :: (blk (.slice da dl dc) ++ blk (.slice aa al ac))) (fun x hx => by rw [List.mem_singleton] at hx; rw [hx]; exact List.mem_cons_self)).trans (grown_kp hg6) (fun c hc _ => List.mem_cons_of_mem _ (List.mem_append_left _ hc)))
        have D6 := mkHidEa hd6
        clear hd6 hg6 M5 O5 F5 R15 R25 c5
        have c6 := O6.out.cellAt (j * 8 + 6) (by omega)
        rw [List.getElem?_set_ne (by omega), List.getElem?_set_ne (by omega), List.getElem?_set_ne (by omega), List.getElem?_set_ne (by omega), List.getElem?_set_ne (by omega), P6.out] at c6
        simp only [List.getElem?_cons_succ, List.getElem?_cons_zero] at c6
        have hm6 := markNamedS_any B (.slice aa al ac) al _ w6 R26.out hz2 (KJ + 5 + dl * 2) (by omega) (by omega)
        rw [show ((KJ + 5 + dl * 2 : Nat) : Int) = (KJ : Int) + 5 + (dl : Int) * 2 by omega] at hm6
        have M6 := mkHidEa hm6
        clear hm6
        go_wp2_with fail
        refine M6.out.mono ?_
        rintro e w7 ⟨rfl, ha7, hg7⟩
        have O7 := mkHidEa (O6.out.kept hg7 (.inr (fun e => A2.out g e.symm (by simp [Value.ownBlock]))))
        have R17 := mkHidEa (own_keep D6.out (fun k hk => hg7.block k (D6.out.lt k hk).2 (fun e => A3.out k e.symm (by rw [Option.mem_toList]; exact hk))))
        have R27 := mkHidEa ha7
        have F7 := mkHidEa (F6.out.trans (grown_kp hg7) (fun c hc _ => List.mem_cons_of_mem _ (List.mem_append_right _ hc)))
        clear ha7 hg7 M6 O6 F6 D6 R26 c6
        have hm7 := markText_any (KJ + 5 + dl * 2 + al * 4) w7 (by omega) (by omega)
        rw [show ((KJ + 5 + dl * 2 + al * 4 : Nat) : Int) = (KJ : Int) + 5 + (dl : Int) * 2 + (al : Int) * 4 by omega] at hm7
        have M7 := mkHidEa hm7
        clear hm7
        go_wp2_with fail
        refine M7.out.mono ?_
        rintro e w8 ⟨rfl, hg8⟩
        have ho8 := O7.out.kept hg8 (.inr (by simp [Value.ownBlock]))
        have k8 := ho8.cellAt (j * 8 + 7) (by omega)
        rw [List.getElem?_eq_getElem (by simp only [List.length_set]; omega)] at k8
        have f8 := ho8.frozenAt (j * 8 + 7)
        have O9 := mkHidEa (ho8.stored (j * 8 + 7) (.string (mt (KJ + 5 + dl * 2 + al * 4)))).1
        have hk9 := (kp_grown (Kp.refl w7 [g]) hg8 (fun k hk => by cases hk)).set (b := g) (Or.inr List.mem_cons_self) (j * 8 + 7) (.string (mt (KJ + 5 + dl * 2 + al * 4)))
        have R19 := mkHidEa (own_off R17.out hk9 A1.out)
        have R29 := mkHidEa (own_off R27.out hk9 A2.out)
        have F9 := mkHidEa (F7.out.trans hk9 (fun c hc _ => by rw [List.mem_singleton] at hc; rw [hc]; exact List.mem_cons_self))
        clear ho8 hg8 hk9 O7 F7 R17 R27 M7
        have FIN : Hid (NdsAt _ B (.slice (some ⟨g, 0, none⟩) nds.length cap) ((half K nds j).set j (mkNd KJ D)) vs) := mkHidEa (HN.out.put (d := mkNd KJ D) hlv (by rw [half_len, PUT.out]; exact O9.out) (by rw [HV.out]; simp only [mkNd, mks_len, HDL.out]; exact R19.out) (by rw [HV.out]; simp only [mkNd, mkn_len, HDL.out, HAL.out]; exact R29.out) (fun k cs t hc ht hn => F9.out.block k (Array.getElem?_eq_some_iff.1 hc).1 (fun hm => by
          rw [HV.out] at hn
          rcases List.mem_cons.1 hm with hm | hm
          · obtain ⟨cs', hc'⟩ := own_type HN.out.row (k := g) rfl
            rw [hm] at hc
            rw [hc'] at hc
            injection hc with hc
            injection hc with _ hc _
            rcases ht with rfl | rfl <;> exact absurd hc (by decide)
          · exact hn hm)))
        have BFIN := mkHidEa (below_kp HBW.out HB.out F9.out (fun x hx => by
          rcases List.mem_cons.1 hx with hx | hx
          · rw [hx]; exact (HN.out.row.lt g rfl).1
          · rcases List.mem_append.1 hx with hx | hx
            · unfold blk at hx; rw [Option.mem_toList] at hx; exact (R1.out.lt _ hx).1
            · unfold blk at hx; rw [Option.mem_toList] at hx; exact (R2.out.lt _ hx).1))
        have TFIN := mkHidEa (HTY.out.trans (TyK.kp F9.out HN0r.out R1.out R2.out))
        have HNX : Hid (half K nds (j + 1) = (half K nds j).set j (mkNd KJ D)) := mkHidEa (by rw [half_next hlt, HD.out, ← HKJ.out])
        have HKN : Hid (KJ + 6 + dl * 2 + al * 4 = K + mkT (nds.take (j + 1))) := mkHidEa (by rw [mkT_snoc hlt, HD.out, HKJ.out]; unfold mkL; rw [HDL.out, HAL.out]; omega)
        clear O9 F9 R19 R29 HN HBW HKJ PUT P5 P6 HTY HN0r
        go_wp2
        go_roundw
        case rel => exact ⟨j + 1, KJ + 6 + dl * 2 + al * 4, by omega, by go_num, by go_num, HKN.out, by rw [HNX.out]; exact FIN.out, BFIN.out, TFIN.out⟩
        case measure => simp [intOf]; omega
      · obtain rfl : j = nds.length := by omega
        go_wp2
        go_ret
        have hf := HN.out
        rw [half_all] at hf
        refine ⟨?_, hf, HBW.out, HTY.out⟩
        rw [HKJ.out, List.take_length]
        rfl
end Go.Proofs.YtlfcmlcpdpkibaaDoor
