import Derived.Test.YtocnfoeaikiecaaGreatDoorQqZ
import Derived.Test.YtocnfoeaikiecaaGreatDoorQqX
import Derived.Test.YtocnfoeaikiecaaGreatDoorPlainT
import Derived.Test.YtocnfoeaikiecaaGreatDoorMsI
set_option linter.unusedVariables false
namespace Go.Proofs.YtocnfoeaikiecaaGreatDoor
open Go.RowKit Lists Ents PlainN
def dQv (W : World) (a : Option Addr) (l : List Nd) : Prop :=
 ∃ b : Nat, (0 < l.length → a = some ⟨b, 0, none⟩) ∧ ∀ (j : Nat) (hj : j < l.length), ∃ da dc xa xc, W.cell? ⟨b, j * 8, none⟩ = some (.int .i64 (l[j]'hj).kind) ∧ W.cell? ⟨b, j * 8 + 1, none⟩ = some (.string (l[j]'hj).name.pre) ∧ W.cell? ⟨b, j * 8 + 2, none⟩ = some (.string (l[j]'hj).name.loc) ∧ W.cell? ⟨b, j * 8 + 3, none⟩ = some (.string (l[j]'hj).name.spc) ∧ W.cell? ⟨b, j * 8 + 4, none⟩ = some (.string (l[j]'hj).name.val) ∧ W.cell? ⟨b, j * 8 + 5, none⟩ = some (.slice da (l[j]'hj).decls.length dc) ∧ W.cell? ⟨b, j * 8 + 6, none⟩ = some (.slice xa (l[j]'hj).attrs.length xc) ∧ W.cell? ⟨b, j * 8 + 7, none⟩ = some (.string (l[j]'hj).text) ∧ aZ2 W da (l[j]'hj).decls ∧ NmAt W xa (l[j]'hj).attrs
theorem bXt : ∀ (l : List (Nd × (Value × Value))) (j : Nat) (hj : j < l.length) (i : Nat), i < 8 → (aJo l)[j * 8 + i]? = (aQb (l[j]'hj).1 (l[j]'hj).2.1 (l[j]'hj).2.2).toList[i]?
 | [], j, hj, _, _ => by simp at hj
 | x :: l, 0, _, i, hi => by
  rw [show 0 * 8 + i = i by omega]
  simp only [aJo]
  rw [List.getElem?_append_left (by simp [aQb]; omega)]; rfl
 | x :: l, j + 1, hj, i, hi => by
  have h := bXt l j (by simpa using hj) i hi
  simp only [aJo]
  rw [List.getElem?_append_right (by simp [aQb]; omega)]
  rw [show (j + 1) * 8 + i - (aQb x.1 x.2.1 x.2.2).toList.length = j * 8 + i by simp [aQb]; omega]
  simpa using h
theorem aJc.ndInQ {W : World} {B : Nat} {v : Value} {nds : List Nd} {vs : List (Value × Value)} (h : aJc W B v nds vs) : ∃ a c, v = .slice a nds.length c ∧ dQv W a nds := by
 obtain ⟨ao, ac, rfl, hao⟩ := aQr h.row
 refine ⟨ao, ac, rfl, ?_⟩
 by_cases h0 : nds.length = 0
 · exact ⟨0, fun h => by omega, fun j hj => by omega⟩
 · obtain ⟨g, rfl⟩ := hao (by omega)
   refine ⟨g, fun _ => rfl, fun j hj => ?_⟩
   have hzl : j < (nds.zip vs).length := by rw [List.length_zip, h.len]; omega
   have hr := h.rows _ (List.getElem_mem hzl)
   have hz : (nds.zip vs)[j]'hzl = (nds[j]'hj, vs[j]'(by rw [h.len]; omega)) := List.getElem_zip
   have hc := fun i (hi : i < 8) => (h.row.cellAt (j * 8 + i) (by omega)).trans (bXt _ j hzl i hi)
   rw [hz] at hr
   simp only [hz] at hc
   obtain ⟨⟨dv, av⟩, hvj⟩ : ∃ p, vs[j]'(by rw [h.len]; omega) = p := ⟨_, rfl⟩
   rw [hvj] at hr
   simp only [hvj] at hc hr
   obtain ⟨da, dc, rfl, hE⟩ := aKf hr.1
   obtain ⟨xa, xc, rfl, hN⟩ := cQx hr.2
   exact ⟨da, dc, xa, xc, hc 0 (by omega), hc 1 (by omega), hc 2 (by omega), hc 3 (by omega), hc 4 (by omega), hc 5 (by omega), hc 6 (by omega), hc 7 (by omega), hE, hN⟩
theorem dQv.below {w wr : World} {a : Option Addr} {l : List Nd} (h : dQv w a l) (hb0 : Below w.heap.size w wr) : dQv wr a l := by
 obtain ⟨b, hb, hc⟩ := h
 refine ⟨b, hb, fun j hj => ?_⟩
 obtain ⟨da, dc, xa, xc, c0, c1, c2, c3, c4, c5, c6, c7, hE, hN⟩ := hc j hj
 have hk := hb0.block _ (aQk c0)
 exact ⟨da, dc, xa, xc, aQ2 hk c0, aQ2 hk c1, aQ2 hk c2, aQ2 hk c3, aQ2 hk c4, aQ2 hk c5, aQ2 hk c6, aQ2 hk c7, cXp hE hb0, hN.below hb0⟩
theorem cKt {w : World} {R : NOut} {en : Ending} {w' : World} (h : cJs w R en w') : ∃ a c, en = .returned (.agg #[.slice a R.nodes.length c, .int .i64 R.at1, .int .i64 R.code]) ∧ dQv w' a R.nodes ∧ Below w.heap.size w w' := by
 obtain ⟨v, vs, he, hN, hb⟩ := h
 obtain ⟨a, c, rfl, hI⟩ := hN.ndInQ
 exact ⟨a, c, he, hI, hb⟩
open Go.RowKit PlainR PlainN
theorem bQd (sc : List (List (ByteArray × ByteArray))) : ∀ (l l' : List Nm), aXh sc l = some l' → l'.length = l.length
 | [], l', h => by simp [aXh] at h; subst h; rfl
 | a :: l, l', h => by
  unfold aXh at h
  split at h
  · obtain ⟨m, hm, rfl⟩ := Option.map_eq_some_iff.1 h
    simp [bQd sc l m hm]
  · split at h
    · cases h
    · obtain ⟨m, hm, rfl⟩ := Option.map_eq_some_iff.1 h
      simp [bQd sc l m hm]
theorem cV9 {st st' : List Scp} {e : Ev} {n : Nd} (h : aVn st e = (st', .ok n)) : n.decls.length ≤ e.attrs.length ∧ n.attrs.length ≤ e.attrs.length := by
 unfold aVn at h
 split at h
 · cases hs : aZo (st.map (·.2)) e with
   | error c => rw [hs] at h; cases h
   | ok m =>
    rw [hs] at h
    cases h
    unfold aZo at hs
    split at hs
    · cases hs
    · split at hs
      · cases hs
      · split at hs
        · cases hs
        · rename_i l hl
          split at hs
          · cases hs
          · cases hs
            refine ⟨List.length_filterMap_le _ _, ?_⟩
            show l.length ≤ _
            rw [bQd _ _ _ hl]
            exact List.length_filterMap_le _ _
 · split at h
   · cases h; exact ⟨Nat.zero_le _, Nat.zero_le _⟩
   · split at h
     · split at h
       · cases h
       · cases h; exact ⟨Nat.zero_le _, Nat.zero_le _⟩
     · cases h; exact ⟨Nat.zero_le _, Nat.zero_le _⟩
theorem bZt (M : Nat) : ∀ (l : List Ev) (i : Nat) (st : List Scp) (acc : List Nd), (∀ e ∈ l, e.attrs.length ≤ M) → (∀ n ∈ acc, n.decls.length ≤ M ∧ n.attrs.length ≤ M) → (aW6 l i st acc).nodes.length ≤ acc.length + l.length ∧ ∀ n ∈ (aW6 l i st acc).nodes, n.decls.length ≤ M ∧ n.attrs.length ≤ M
 | [], i, st, acc, _, ha => by simp only [aW6]; exact ⟨by simp, ha⟩
 | e :: l, i, st, acc, he, ha => by
  unfold aW6
  split
  · exact ⟨Nat.zero_le _, fun n hn => by cases hn⟩
  · rename_i st' n hx
    have hs := cV9 hx
    have hM := he e List.mem_cons_self
    have ih := bZt M l (i + 1) st' (acc ++ [n]) (fun x hx => he x (List.mem_cons_of_mem _ hx)) (fun x hx => by
     rcases List.mem_append.1 hx with h | h
     · exact ha x h
     · rw [List.mem_singleton] at h; subst h; omega)
    refine ⟨?_, ih.2⟩
    have := ih.1
    simp only [List.length_append, List.length_cons, List.length_nil] at this ⊢
    omega
theorem bWr {M : Nat} {l : List Ev} (he : ∀ e ∈ l, e.attrs.length ≤ M) : (aZr l).nodes.length ≤ l.length ∧ ∀ n ∈ (aZr l).nodes, n.decls.length ≤ M ∧ n.attrs.length ≤ M := by
 unfold aZr
 split
 · exact ⟨Nat.zero_le _, fun n hn => by cases hn⟩
 · split
   · exact ⟨Nat.zero_le _, fun n hn => by cases hn⟩
   · have := bZt M l 0 [] [] he (fun n hn => by cases hn)
     simpa using this
end Go.Proofs.YtocnfoeaikiecaaGreatDoor
