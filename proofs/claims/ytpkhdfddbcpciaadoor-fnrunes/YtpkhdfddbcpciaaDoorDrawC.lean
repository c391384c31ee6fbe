/- The contracts of the model's drawing of texts: pick, spoil. -/
import Derived.Test.YtpkhdfddbcpciaaDoorDrawA
import Derived.Test.YtpkhdfddbcpciaaDoorStrs
import Derived.Test.YtpkhdfddbcpciaaDoorBytes
import Derived.Laws.Concat
namespace Go.Proofs.YtpkhdfddbcpciaaDoor
open Go.RowKit Plain1 Lists Strs Bytes

/-- A row of short texts. -/
def Texts (w : World) (b n S : Nat) : Prop := ∀ k, k < n → ∃ t : ByteArray, w.cell? ⟨b, k, none⟩ = some (.string t) ∧ t.size ≤ S
theorem Texts.grown {w w' : World} {b n S g : Nat} (h : Texts w b n S) (hg : w.grownBy w' (some g)) (hne : b ≠ g) : Texts w' b n S := fun k hk => by
  obtain ⟨t, h1, h2⟩ := h k hk
  exact ⟨t, (World.cell?_of_block (w := w) (hg.block b (block_lt h1) (fun e => hne (by cases e; rfl)))).trans h1, h2⟩

def isShort (S : Nat) : Value → Bool
  | .string t => decide (t.data.size ≤ S)
  | _ => false
/-- A row of texts laid as it stands. -/
theorem texts_lit {w : World} {cs : Array Value} {t : TypeId} {S : Nat} (hall : cs.all (isShort S) = true) : Texts (w.alloc (.cells cs t)) w.heap.size cs.size S := by
  intro k hk
  have hc : (w.alloc (.cells cs t)).cell? ⟨w.heap.size, k, none⟩ = cs[k]? := by simp
  rw [hc, Array.getElem?_eq_getElem hk]
  rw [Array.all_eq_true] at hall
  have := hall k hk
  revert this
  cases cs[k] with
  | string x => intro h; exact ⟨x, rfl, of_decide_eq_true h⟩
  | _ => simp [isShort]


theorem grown_al {w w1 : World} {r : Option Nat} (h : w.grownBy w1 r) (o : Obj) : w.grownBy (w1.alloc o) r := by
  have h1 : w1.grownBy (w1.alloc o) r := ⟨rfl, rfl, rfl, by simp, fun i hi _ => Below.heap_alloc w1 o i hi⟩
  exact grown_trans' h h1

theorem pick_any {W0 w : World} {g : Nat} {a : Option Addr} {n cap : Nat} (hS : Fed W0 a n) (hd : Dr W0 w g a n cap) (b m c S : Nat) (hT : Texts w b m S) (hne : b ≠ g) (hm : 1 < m) (hm2 : m ≤ 1000) :
    Calls Tryd.prog 38 #[.pointer (some ⟨g, 0, none⟩), .slice (some ⟨b, 0, none⟩) m c] w fun e w' => ∃ t : ByteArray, e = .returned (.string t) ∧ t.size ≤ S ∧ Dr W0 w' g a n cap ∧ w.grownBy w' (some g) := by
  have hcall := draw_any hS hd (m : Int) (by omega)
  clear hd
  go_enter Tryd.func38, Tryd.ntmps38
  go_wp2_with fail
  refine hcall.mono ?_
  rintro e w1 ⟨r, rfl, h0, h1, -, hd1, hg1⟩
  have h1' := h1 (by omega)
  obtain ⟨k, rfl⟩ : ∃ k : Nat, r = k := ⟨r.toNat, by omega⟩
  obtain ⟨t, ht, hts⟩ := hT.grown hg1 hne k (by omega)
  clear hcall h1 hT
  go_wp2
  go_ret
  exact ⟨t, rfl, hts, hd1, hg1⟩

set_option maxRecDepth 100000 in
set_option maxHeartbeats 2000000 in
theorem spoil_any {W0 w : World} {g : Nat} {a : Option Addr} {n cap : Nat} (hS : Fed W0 a n) (hd : Dr W0 w g a n cap) (s : ByteArray) (hs : s.size ≤ 1000) :
    Calls Tryd.prog 37 #[.pointer (some ⟨g, 0, none⟩), .string s] w fun e w' => ∃ t : ByteArray, e = .returned (.string t) ∧ t.size ≤ s.size + 1 ∧ Dr W0 w' g a n cap ∧ w.grownBy w' (some g) := by
  have hcall := draw_any hS hd ((s.size : Int) + 1) (by omega)
  clear hd
  go_enter Tryd.func37, Tryd.ntmps37
  go_wp2_with fail
  refine hcall.mono ?_
  rintro e w1 ⟨r, rfl, h0, h1, h2, hd1, hg1⟩
  have hr : r ≤ s.size := by
    by_cases h : 1 < (s.size : Int) + 1
    · have := h1 h; omega
    · have := h2 (by omega); omega
  obtain ⟨k, rfl⟩ : ∃ k : Nat, r = k := ⟨r.toNat, by omega⟩
  have hk : k ≤ s.size := by omega
  clear hcall h1 h2 hr
  go_wp2_with fail
  refine (draw_any hS hd1 17 (by omega)).mono ?_
  rintro e w2 ⟨r, rfl, h0', h1, -, hd2, hg2⟩
  have h1' := h1 (by omega)
  obtain ⟨j, rfl⟩ : ∃ k : Nat, r = k := ⟨r.toNat, by omega⟩
  have hj : j < 17 := by omega
  clear hd1 h1
  have HD := mkHidD hd2
  have HG := mkHidD (grown_trans' hg1 hg2)
  clear hd2 hg1 hg2
  obtain ⟨y, hy⟩ : ∃ y, byteAt ⟨#[32, 10, 48, 97, 45, 110, 44, 58, 93, 255, 40, 120, 126, 49, 128, 225, 59]⟩ j = y := ⟨_, rfl⟩
  have HY := mkHidD hy
  clear hy
  have hconv := conv_own (P := Tryd.prog) (w := w2.alloc (.cells #[.int .u8 y] 5)) (src := 22) (dst := 9) (xs := [y]) Tryd.underlying22 Tryd.underlying5 Tryd.underlying9 (World.ownsRow_lit w2 #[.int .u8 y] 1 (Nat.le_refl _) (by unfold maxLen; omega) (by simp))
  obtain ⟨c, hc⟩ : ∃ c, strOfNums [y] = c := ⟨_, rfl⟩
  have hcs : c.size = 1 := by rw [← hc, strOfNums_size]; rfl
  rw [hc] at hconv
  clear hc
  go_wp2_with (refine wpList_index_byte rfl 9 (.const (.string ⟨#[32, 10, 48, 97, 45, 110, 44, 58, 93, 255, 40, 120, 126, 49, 128, 225, 59]⟩)) (.tmp 13) rfl _ j _ y rfl rfl rfl (by exact hj) Tryd.underlying9 HY.out ?_)
  · clear hconv
    go_quiet (fail)
    go_wp2
    go_ret
    refine ⟨_, rfl, ?_, (HD.out.alloc _).on (below_drewN (Below.refl _ _) _), grown_trans' (grown_al HG.out _) (grown_drewN _ _ _)⟩
    simp [ByteArray.size_append]
    omega
  · clear hconv
    have hks : k < s.size := by have : ¬ k = s.size := by (intro e; simp_all)
                                omega
    refine (one_any hS (HD.out.alloc _) 3 (by omega)).mono ?_
    rintro e w3 ⟨b, rfl, hd3, hg3⟩
    have HD3 := mkHidD hd3
    have HG3 := mkHidD (grown_trans' (grown_al HG.out _) hg3)
    clear hd3 hg3 HD HG
    cases b with
    | true =>
      go_wp2_with fail
      go_quiet (fail)
      go_wp2
      go_ret
      refine ⟨_, rfl, ?_, HD3.out.on (below_drewN (Below.refl _ _) _), grown_trans' HG3.out (grown_drewN _ _ _)⟩
      simp [ByteArray.size_append, ByteArray.size_extract]
      omega
    | false =>
      go_wp2_with fail
      refine (one_any hS HD3.out 2 (by omega)).mono ?_
      rintro e w4 ⟨b, rfl, hd4, hg4⟩
      have HD4 := mkHidD hd4
      have HG4 := mkHidD (grown_trans' HG3.out hg4)
      clear hd4 hg4 HD3 HG3
      cases b with
      | true =>
        go_wp2_with fail
        go_quiet (fail)
        go_wp2
        go_ret
        refine ⟨_, rfl, ?_, HD4.out.on (below_drewN (Below.refl _ _) _), grown_trans' HG4.out (grown_drewN _ _ _)⟩
        simp [ByteArray.size_append, ByteArray.size_extract]
        omega
      | false =>
        go_wp2_with fail
        go_quiet (fail)
        go_wp2
        go_ret
        refine ⟨_, rfl, ?_, HD4.out.on (below_drewN (Below.refl _ _) _), grown_trans' HG4.out (grown_drewN _ _ _)⟩
        simp [ByteArray.size_append, ByteArray.size_extract]
        omega
end Go.Proofs.YtpkhdfddbcpciaaDoor
