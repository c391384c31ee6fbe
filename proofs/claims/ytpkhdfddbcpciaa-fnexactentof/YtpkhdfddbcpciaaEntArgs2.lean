/- The laws' helpers over lists of entities: a copy, are two alike? -/
import Derived.Test.YtpkhdfddbcpciaaEntArgs
namespace Go.Proofs.Ytpkhdfddbcpciaa
open Go.RowKit Lists Ents

theorem infoEnt : (Try.prog.info? 40).map (fun i => (i.zero, i.size, i.bytes)) = some (some (.agg #[.string ⟨#[]⟩, .string ⟨#[]⟩]), 2, 32) := by kernel_rfl
theorem run_make_wide {P : Program} (t e : TypeId) (z : Value) (size bytes : Nat) (ht : P.underlying t = some (.slice e)) (hinfo : (P.info? e).map (fun i => (i.zero, i.size, i.bytes)) = some (some z, size, bytes))
    (kl kc : IntKind) (n : Nat) (hbytes : bytes * n ≤ 281474976710656) (h63 : n ≤ maxLen) (w : World) :
    ∃ cs : Array Value, (Instr.makeSlice t (.int kl (n : Int)) (.int kc (n : Int))).run P w = .ok (.slice (some ⟨w.heap.size, 0, none⟩) n n) (w.alloc (.cells cs e)) ∧ cs.size = n * size := by
  obtain ⟨i, hi, hzz⟩ := Option.map_eq_some_iff.1 hinfo
  simp only [Prod.mk.injEq] at hzz
  obtain ⟨hz, hs, hb⟩ := hzz
  unfold maxLen at h63
  have hb' : (i.bytes : Int) * (n : Int) ≤ 281474976710656 := by
    rw [hb]
    have h : ((bytes * n : Nat) : Int) ≤ 281474976710656 := by omega
    rwa [Int.natCast_mul] at h
  have hr := run_make (P := P) w t e i z ht hi hz kl kc n n (by omega) (Int.le_refl _) hb' (by omega)
  simp only [Int.toNat_natCast] at hr
  exact ⟨_, hr, by rw [size_madeCells, hs]⟩
theorem ents_of_row {w : World} {g n c : Nat} {e : TypeId} {B : Nat} {xs : List Value} {l : List (ByteArray × ByteArray)} (h : w.ownsRow B e 2 (.slice (some ⟨g, 0, none⟩) n c) n xs) (hn : n = l.length)
    (hx : ∀ j (hj : j < l.length), xs[j * 2]? = some (.string (l[j]'hj).1) ∧ xs[j * 2 + 1]? = some (.string (l[j]'hj).2)) : EntsAt w (some ⟨g, 0, none⟩) l := by
  refine ⟨g, 0, fun _ => rfl, fun j hj => ?_⟩
  have h1 := h.cellAt (j * 2) (by omega)
  have h2 := h.cellAt (j * 2 + 1) (by omega)
  rw [Nat.zero_add]
  exact ⟨by rw [h1]; exact (hx j hj).1, by rw [h2]; exact (hx j hj).2⟩

set_option maxHeartbeats 2000000 in
theorem toEntS_any (w : World) (a : Option Addr) (n c : Nat) (l : List (ByteArray × ByteArray)) (hn : n = l.length) (hl : l.length ≤ 1048576) (h : EntsAt w a l) :
    Calls Try.prog 37 #[.slice a n c] w fun e w' => (∃ b c', e = .returned (.slice (some ⟨b, 0, none⟩) l.length c') ∧ w.heap.size ≤ b ∧ EntsAt w' (some ⟨b, 0, none⟩) l) ∧ w.grownBy w' none := by
  subst hn
  obtain ⟨cs, hmk, hcs⟩ := run_make_wide (P := Try.prog) 42 40 _ 2 32 Try.underlying42 infoEnt .i64 .i64 l.length (by omega) (by unfold maxLen; omega) w
  have HA := mkHidEa h
  have HO := mkHidEa (World.ownsRow_lit (base := w.heap.size) (e := 40) (size := 2) w cs l.length (Nat.le_refl _) (by unfold maxLen; omega) hcs)
  clear h
  go_enter Try.func37, Try.ntmps37
  go_wp2
  go_loopw [4] (fun i wr => ∃ (k : Nat) (xs : List Value), k ≤ l.length ∧ i = .int .i64 k ∧ wr.ownsRow w.heap.size 40 2 (.slice (some ⟨w.heap.size, 0, none⟩) l.length l.length) l.length xs ∧ w.grownBy wr none ∧ ∀ j (hj : j < l.length), j < k → xs[j * 2]? = some (.string (l[j]'hj).1) ∧ xs[j * 2 + 1]? = some (.string (l[j]'hj).2)) (fun i _ => l.length - (intOf i).toNat)
  case atStart => exact ⟨0, _, Nat.zero_le _, rfl, HO.out, gnA _ _, fun j _ hj => absurd hj (by omega)⟩
  case round =>
    obtain ⟨k, xs, hk, rfl, hown, hgr, hxs⟩ := hrel
    have HX := mkHidEa hxs
    have HG := mkHidEa hgr
    have HW := mkHidEa hown
    clear hxs hgr hown HO hmk
    by_cases hlt : k < l.length
    · obtain ⟨b, off, ha, hc⟩ := HA.out.grown HG.out
      obtain rfl := ha (by omega)
      obtain ⟨c1, c2⟩ := hc k hlt
      obtain ⟨E, hE⟩ : ∃ E, l[k]'hlt = E := ⟨_, rfl⟩
      rw [hE] at c1 c2
      have HE := mkHidEa hE
      have hcall := toEnt_any E.1 E.2 wr
      clear hc ha hE
      go_wp2_with fail
      refine hcall.mono ?_
      rintro e w' ⟨rfl, hg'⟩
      have HW' := mkHidEa (HW.out.kept hg' (.inr (by simp [Value.ownBlock])))
      have HG' := mkHidEa (gnT HG.out hg')
      clear hcall hg' c1 c2 HW HG
      have hxl : xs.length = l.length * 2 := HW'.out.1
      have k1 := HW'.out.cellAt (k * 2) (by omega)
      have k2 := HW'.out.cellAt (k * 2 + 1) (by omega)
      rw [List.getElem?_eq_getElem (by omega)] at k1 k2
      have f1 := HW'.out.frozenAt (k * 2)
      have f2 := HW'.out.frozenAt (k * 2 + 1)
      have hw2 := ((HW'.out.stored (k * 2) (.string E.1)).1.stored (k * 2 + 1) (.string E.2))
      have HW2 := mkHidEa hw2.1
      have HG2 : Hid (w.grownBy ((w'.setCell ⟨w.heap.size, k * 2, none⟩ (.string E.1)).setCell ⟨w.heap.size, k * 2 + 1, none⟩ (.string E.2)) none) := by
        refine mkHidEa ⟨HG'.out.os, HG'.out.tape, HG'.out.output, by have := HG'.out.size; simpa using this, fun i hi hr => ?_⟩
        rw [Below.heap_setCell _ ⟨w.heap.size, k * 2 + 1, none⟩ _ i (by simp only; omega), Below.heap_setCell _ ⟨w.heap.size, k * 2, none⟩ _ i (by simp only; omega)]
        exact HG'.out.block i hi hr
      clear hw2 HG'
      go_wp2
      go_roundw
      case rel =>
        refine ⟨k + 1, _, by omega, by go_num, HW2.out, HG2.out, fun j hj hjk => ?_⟩
        by_cases hjk' : j = k
        · subst hjk'
          rw [HE.out]
          exact ⟨by rw [List.getElem?_set_ne (by omega), List.getElem?_set_self (by omega)], by rw [List.getElem?_set_self (by simp; omega)]⟩
        · have := HX.out j hj (by omega)
          rw [List.getElem?_set_ne (by omega), List.getElem?_set_ne (by omega), List.getElem?_set_ne (by omega), List.getElem?_set_ne (by omega)]
          exact this
      case measure => simp [intOf]; omega
    · go_wp2
      go_ret
      exact ⟨⟨_, _, rfl, Nat.le_refl _, ents_of_row HW.out rfl fun j hj => HX.out j hj (by omega)⟩, HG.out⟩

set_option maxHeartbeats 2000000 in
theorem eqEntS_same (w : World) (a a' : Option Addr) (n c c' : Nat) (l : List (ByteArray × ByteArray)) (hn : n = l.length) (hl : l.length ≤ 1048576) (h : EntsAt w a l) (h' : EntsAt w a' l) :
    Calls Try.prog 40 #[.slice a n c, .slice a' n c'] w fun e w' => e = .returned (.bool true) ∧ w.grownBy w' none := by
  subst hn
  have HA := mkHidEa h
  have HA' := mkHidEa h'
  clear h h'
  go_enter Try.func40, Try.ntmps40
  go_wp2
  go_loopw [5] (fun i wr => ∃ (k : Nat), k ≤ l.length ∧ i = .int .i64 k ∧ w.grownBy wr none) (fun i _ => l.length - (intOf i).toNat)
  case atStart => exact ⟨0, Nat.zero_le _, rfl, gnR _⟩
  case round =>
    obtain ⟨k, hk, rfl, hgr⟩ := hrel
    have HG := mkHidEa hgr
    clear hgr
    by_cases hlt : k < l.length
    · obtain ⟨b, off, ha, hc⟩ := HA.out.grown HG.out
      obtain rfl := ha (by omega)
      obtain ⟨c1, c2⟩ := hc k hlt
      obtain ⟨b', off', ha', hc'⟩ := HA'.out.grown HG.out
      obtain rfl := ha' (by omega)
      obtain ⟨d1, d2⟩ := hc' k hlt
      obtain ⟨E, hE⟩ : ∃ E, l[k]'hlt = E := ⟨_, rfl⟩
      rw [hE] at c1 c2 d1 d2
      clear hc ha hE hc' ha' HA HA'
      go_wp2_with fail
      go_region_held3 (fun W => W.cell? ⟨b, off + k * 2, none⟩ = some (.string E.1) ∧ W.cell? ⟨b, off + k * 2 + 1, none⟩ = some (.string E.2) ∧ W.cell? ⟨b', off' + k * 2, none⟩ = some (.string E.1) ∧ W.cell? ⟨b', off' + k * 2 + 1, none⟩ = some (.string E.2)) (go_keep)
        (first | (go_at_call 23; refine (eqEnt_any _ _ _).mono ?_; rintro e w' ⟨rfl, hg'⟩; have hk' : ∀ k, k < wr.heap.size → w'.heap[k]? = wr.heap[k]? := (fun k hk => hg'.block k hk (by simp)); have e1 := cell_keep hk' c1; have e2 := cell_keep hk' c2; have e3 := cell_keep hk' d1; have e4 := cell_keep hk' d2))
      have HG' : Hid (w.grownBy w' none) := mkHidEa (gnT HG.out (gnT (gnD wr 1) hg'))
      clear hg' hk'
      go_wp2
      go_roundw
      case rel => exact ⟨k + 1, by omega, by go_num, HG'.out⟩
      case measure => simp [intOf]; omega
    · go_wp2
      go_ret
      exact ⟨rfl, HG.out⟩
end Go.Proofs.Ytpkhdfddbcpciaa
