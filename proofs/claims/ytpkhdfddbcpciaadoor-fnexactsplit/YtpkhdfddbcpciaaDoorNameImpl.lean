/- The contract of the program's NameRight. -/
import Derived.Test.YtpkhdfddbcpciaaDoorRunesLoop
import Derived.Test.YtpkhdfddbcpciaaDoorParts
import Derived.Test.YtpkhdfddbcpciaaDoorPlain6
import Derived.WalkKit
import Derived.WalkSpells
namespace Go.Proofs.YtpkhdfddbcpciaaDoor
open Go.RowKit Plain1 Plain2 Strs Plain3 Plain5 Plain6 Lists

theorem mkHidI {p : Prop} (h : p) : Hid p := h

/-- What holds behind the call of Runes: its list lies in a block of its own; the tables lie where they lay. -/
theorem after_runes {w w1 : World} {v : Value} {n : Nat} {c0 : Int} {cs : List Int} {e : TypeId} {A C : Array Value} {t tp : TypeId} {fr frp : Nat × Nat} {ga gp : Nat} (hg : w.heap[ga]? = some (.cells A t fr)) (hgp : w.heap[gp]? = some (.cells C tp frp)) (hz : ga < w.heap.size) (hzp : gp < w.heap.size)
    (ho : w1.ownsRow w.heap.size e 1 v (n + 1) ((c0 :: cs).map (Value.int .i64))) (hb : Below w.heap.size w w1) :
    ∃ g cap, v = .slice (some ⟨g, 0, none⟩) (n + 1) cap ∧ (n + 1 ≤ cap ∧ cap ≤ maxLen) ∧ g < w1.heap.size ∧ w1.cell? ⟨g, 0, none⟩ = some (.int .i64 c0) ∧ Hid (∀ o, (w1.alloc o).heap[ga]? = some (.cells A t fr)) ∧ Hid (∀ o, (w1.alloc o).heap[gp]? = some (.cells C tp frp)) ∧ Hid (Below w.heap.size w w1) ∧ Hid (w1.ownsRow w.heap.size e 1 (.slice (some ⟨g, 0, none⟩) (n + 1) cap) (n + 1) ((c0 :: cs).map (Value.int .i64))) := by
  rcases owns_forms ho with ⟨_, h⟩ | ⟨g, cap, rfl⟩
  · omega
  · have hcap : n + 1 ≤ cap ∧ cap ≤ maxLen := by
      rcases ho.2 with ⟨h, _⟩ | ⟨g', cap', cur, h, _, _, h1, h2, _⟩
      · cases h
      · cases h; exact ⟨h1, h2⟩
    refine ⟨g, cap, rfl, hcap, (ho.lt g rfl).2, ?_, ?_, ?_, hb, ho⟩
    · rw [ho.cellAt 0 (by omega)]; rfl
    · intro o; exact ((hb.alloc hb.size o).block ga hz).trans hg
    · intro o; exact ((hb.alloc hb.size o).block gp hzp).trans hgp

/-- A box of three cells laid ahead of a callee: its first cell behind it; and below all is as it was. -/
theorem box_there {w w1 w2 : World} {a b c : Value} {t : TypeId} (hb1 : Below w.heap.size w w1) (hb : Below (w1.alloc (.cells #[a, b, c] t)).heap.size (w1.alloc (.cells #[a, b, c] t)) w2) :
    w2.cell? ⟨w1.heap.size, 0, none⟩ = some a ∧ Hid (Below w.heap.size w w2) :=
  ⟨(hb.cell (p := ⟨w1.heap.size, 0, none⟩) (by simp)).trans (by simp), (hb1.alloc hb1.size _).trans (hb.mono (by have := hb1.size; simp; omega))⟩

set_option maxHeartbeats 1000000 in
theorem implName_any (s : ByteArray) (w : World) (t : TypeId) (fr : Nat × Nat) (hg : w.heap[0]? = some (.cells startCells t fr)) (tp : TypeId) (frp : Nat × Nat) (hgp : w.heap[1]? = some (.cells partCells tp frp)) :
    Calls Tryd.prog 27 #[.string s] w fun e w' => e = .returned (.bool (nameB s)) ∧ Below w.heap.size w w' := by
  by_cases h1 : s.size < 1
  · rw [nameB_empty h1]
    have hem : s.toList.isEmpty = true := by 
      rw [Lib.toList_data, List.isEmpty_iff, ← List.length_eq_zero_iff]
      have hsz : s.data.toList.length = s.size := by simp
      omega
    go_enter Tryd.func27, Tryd.ntmps27
    go_wp2_with fail
    go_ret
    exact ⟨rfl, Below.refl _ _⟩
  have hem : s.toList.isEmpty = false := by
    rw [Lib.toList_data]
    have hsz : s.data.toList.length = s.size := by simp
    cases h : s.data.toList with
    | nil => rw [h] at hsz; simp at hsz; omega
    | cons a l => rfl
  by_cases h2 : 60 < s.size
  · rw [nameB_long h2]
    go_enter Tryd.func27, Tryd.ntmps27
    go_wp2_with fail
    go_ret
    exact ⟨rfl, Below.refl _ _⟩
  have hz : 0 < w.heap.size := (Array.getElem?_eq_some_iff.1 hg).1
  have hzp : 1 < w.heap.size := (Array.getElem?_eq_some_iff.1 hgp).1
  have HG : Hid (w.heap[0]? = some (.cells startCells t fr)) := hg
  have HGP : Hid (w.heap[1]? = some (.cells partCells tp frp)) := hgp
  clear hg hgp
  have hcall := implRunes_any s w
  have e1 : rList s = (scanAll s).1 := by unfold rList; rw [if_neg (by omega)]
  have hnb : nameB s = (decide ((scanAll s).2 < 0) && nameL 0 (scanAll s).1) := by unfold nameB; rw [decide_eq_true (by omega), Bool.true_and]
  by_cases hbad : (scanAll s).2 < 0
  · have e3 : rCode s = 0 := by unfold rCode; rw [if_neg (by omega), if_neg (by omega)]
    have hlen := scan_some (by omega) hbad
    rw [decide_eq_true hbad, Bool.true_and] at hnb
    rw [hnb]
    rw [e1, e3] at hcall
    clear hnb e3 hbad
    have hll : (scanAll s).1.length ≤ 4000 := by rw [← e1]; exact rList_len s
    clear e1
    obtain ⟨L, hL⟩ : ∃ L, (scanAll s).1 = L := ⟨_, rfl⟩
    rw [hL] at hcall hlen hll ⊢
    clear hL
    obtain ⟨at3, hat⟩ : ∃ x, rAt s = x := ⟨_, rfl⟩
    rw [hat] at hcall
    clear hat
    match L, hlen with
    | c0 :: cs, _ =>
    have hnl : nameL 0 (c0 :: cs) = (startB c0 && cs.all partB) := by
      unfold nameL
      cases h : startB c0 with
      | true => simp [h, start_part h]
      | false => simp [h]
    rw [hnl]
    clear hnl
    obtain ⟨n, hn⟩ : ∃ n, cs.length = n := ⟨_, rfl⟩
    have HN : Hid (cs.length = n) := hn
    simp only [List.length_cons, hn] at hll hcall
    clear hn hlen
    go_enter Tryd.func27, Tryd.ntmps27
    cases hst : startB c0 with
    | false =>
      go_wp2_with (first | (go_at_call 13; refine hcall.mono ?_; rintro e w1 ⟨v1, rfl, ho1, hb1⟩; clear hcall; obtain ⟨g, cap, rfl, ⟨hcap, hcm⟩, hgz, k0, G1, GP1, HB1, HO1⟩ := after_runes HG.out HGP.out hz hzp ho1 hb1; clear ho1 hb1) | (go_at_call 22; refine (implStart_any _ _ t fr (G1.out _)).mono ?_; rintro e w2 ⟨rfl, hb2⟩; obtain ⟨q0, q1⟩ := box_there HB1.out hb2; replace hb2 := mkHidI hb2))
      go_ret
      exact ⟨rfl, q1.out⟩
    | true =>
      go_wp2_with (first | (go_at_call 13; refine hcall.mono ?_; rintro e w1 ⟨v1, rfl, ho1, hb1⟩; clear hcall; obtain ⟨g, cap, rfl, ⟨hcap, hcm⟩, hgz, k0, G1, GP1, HB1, HO1⟩ := after_runes HG.out HGP.out hz hzp ho1 hb1; clear ho1 hb1) | (go_at_call 22; refine (implStart_any _ _ t fr (G1.out _)).mono ?_; rintro e w2 ⟨rfl, hb2⟩; obtain ⟨q0, q1⟩ := box_there HB1.out hb2; replace hb2 := mkHidI hb2))
      · -- one character alone
        have hn0 : n = 0 := by omega
        subst hn0
        have hcs : cs = [] := List.eq_nil_of_length_eq_zero HN.out
        subst hcs
        clear hcap hcm k0 hgz q0
        go_loopw [30] (fun i wr => i = .int .i64 0 ∧ wr = w2) (fun _ _ => 0)
        case atStart => exact ⟨rfl, rfl⟩
        case round =>
          obtain ⟨rfl, rfl⟩ := hrel
          go_wp2
          go_ret
          exact ⟨rfl, q1.out⟩
      · have hcells : Hid (∀ k, k < n → w2.cell? ⟨g, 1 + k, none⟩ = some (.int .i64 (cs.getD k 0))) := by
          intro k hk
          refine (hb2.out.cell (p := ⟨g, 1 + k, none⟩) (by simp; omega)).trans ?_
          refine (((Below.refl w1.heap.size w1).alloc (Nat.le_refl _) _).cell (p := ⟨g, 1 + k, none⟩) hgz).trans ?_
          rw [HO1.out.cellAt (1 + k) (by omega)]
          have hkl : k < cs.length := by have := HN.out; omega
          rw [Nat.add_comm 1 k]
          simp [List.getD, hkl]
        have hgw : g < w2.heap.size := by have := hb2.out.size; simp at this; omega
        have GS2 : Hid (∀ wx, Below w2.heap.size w2 wx → wx.heap[0]? = some (.cells startCells t fr)) := fun wx hx => ((hx.block _ (Nat.lt_of_lt_of_le hz q1.out.size)).trans (q1.out.block _ hz)).trans HG.out
        have GP2 : Hid (∀ wx, Below w2.heap.size w2 wx → wx.heap[1]? = some (.cells partCells tp frp)) := fun wx hx => ((hx.block _ (Nat.lt_of_lt_of_le hzp q1.out.size)).trans (q1.out.block _ hzp)).trans HGP.out
        clear k0 hgz q0 G1 GP1 HO1 hb2 HB1
        go_loopw [30] (fun i wr => ∃ (k : Nat), k ≤ n ∧ i = .int .i64 k ∧ (cs.take k).all partB = true ∧ Below w2.heap.size w2 wr) (fun i _ => n - (intOf i).toNat)
        case atStart => exact ⟨0, Nat.zero_le _, rfl, rfl, Below.refl _ _⟩
        case round =>
          obtain ⟨k, hk, rfl, hall, hbr⟩ := hrel
          by_cases hlt : k < n
          · have c1 := (hbr.cell (p := ⟨g, 1 + k, none⟩) hgw).trans (hcells.out k hlt)
            have hkl : k < cs.length := by have := HN.out; omega
            obtain ⟨c, hce⟩ : ∃ c, c = cs.getD k 0 := ⟨_, rfl⟩
            rw [← hce] at c1
            have HE : Hid (c = cs.getD k 0) := hce
            have HA : Hid ((cs.take k).all partB = true) := hall
            have hpart := implPart_any c wr tp frp (GP2.out wr hbr) t fr (GS2.out wr hbr)
            have HBR : Hid (Below w2.heap.size w2 wr) := hbr
            clear hce hall hbr
            cases hpb : partB c with
            | true =>
              rw [hpb] at hpart
              go_wp2_with (go_at_call 24; refine hpart.mono ?_; rintro e w4 ⟨rfl, hb4⟩)
              go_roundw
              case rel =>
                refine ⟨k + 1, by omega, by go_num, ?_, HBR.out.trans (hb4.mono HBR.out.size)⟩
                have e : cs.take (k + 1) = cs.take k ++ [c] := by rw [List.take_succ_eq_append_getElem hkl, HE.out]; simp [List.getD, hkl]
                rw [e, List.all_append, HA.out]
                simp [hpb]
              case measure => simp [intOf]; omega
            | false =>
              rw [hpb] at hpart
              go_wp2_with (go_at_call 24; refine hpart.mono ?_; rintro e w4 ⟨rfl, hb4⟩)
              go_ret
              refine ⟨ret_bool ?_, (q1.out.trans (HBR.out.mono q1.out.size)).trans (hb4.mono (q1.out.trans (HBR.out.mono q1.out.size)).size)⟩
              have hno : cs.all partB = false := by
                cases h : cs.all partB with
                | false => rfl
                | true =>
                  rw [List.all_eq_true] at h
                  have := h cs[k] (List.getElem_mem hkl)
                  have e : c = cs[k] := by rw [HE.out]; simp [List.getD, hkl]
                  rw [← e, hpb] at this
                  cases this
              rw [hno]; rfl
          · have hkn : n ≤ k := by omega
            have e : cs.take k = cs := List.take_of_length_le (by have := HN.out; omega)
            rw [e] at hall
            clear e
            have HA : Hid (cs.all partB = true) := hall
            clear hall
            go_wp2
            go_ret
            refine ⟨ret_bool ?_, q1.out.trans (hbr.mono q1.out.size)⟩
            rw [HA.out]; rfl
  · rw [decide_eq_false hbad, Bool.false_and] at hnb
    rw [hnb]
    have e3 : rCode s = 3 := by unfold rCode; rw [if_neg (by omega), if_pos (by omega)]
    have e4 : rList s = [] := by rw [e1]; exact scan_list _ _ _ (by unfold scanAll at hbad; omega)
    rw [e3, e4] at hcall
    clear hnb e1 e3 e4 hbad
    obtain ⟨at3, hat⟩ : ∃ x, rAt s = x := ⟨_, rfl⟩
    rw [hat] at hcall
    clear hat
    go_enter Tryd.func27, Tryd.ntmps27
    go_wp2_with (go_at_call 13; refine hcall.mono ?_; rintro e w1 ⟨v1, rfl, ho1, hb1⟩; clear hcall; obtain ⟨ao, cv, rfl⟩ := owns_sliceR ho1; clear ho1)
    go_ret
    exact ⟨rfl, hb1.alloc hb1.size _⟩
end Go.Proofs.YtpkhdfddbcpciaaDoor
