/- The contracts of the model's l01Runes and Runes: the characters of a text. -/
import Derived.Test.YtpkhdfddbcpciaaDoorRuneModel
import Derived.Test.YtpkhdfddbcpciaaDoorPlain5
import Derived.Test.YtpkhdfddbcpciaaDoorLists
import Derived.WalkKit
import Derived.WalkSpells
namespace Go.Proofs.YtpkhdfddbcpciaaDoor
open Go.RowKit Plain1 Strs Plain3 Plain5 Lists

theorem info64' : (Tryd.prog.info? 2).map (fun i => (i.zero, i.size, i.bytes)) = some (some (.int .i64 0), 1, 8) := by kernel_rfl

set_option maxHeartbeats 1000000 in
theorem l01Runes_any (s : ByteArray) (w : World) (hs : s.size ≤ 1048576) :
    Calls Tryd.prog 39 #[.string s] w fun e w' => ∃ v, e = .returned (.tuple #[v, .int .i64 (scanAll s).2]) ∧ w'.ownsRow w.heap.size 2 1 v (scanAll s).1.length ((scanAll s).1.map (Value.int .i64)) ∧ Below w.heap.size w w' := by
  obtain ⟨i0, hi, hz0, hz1, hz2⟩ := info_parts info64'
  generalize hR : scanAll s = R
  have HR : Hid (scanAll s = R) := hR
  clear hR
  go_enter Tryd.func39, Tryd.ntmps39
  go_wp2
  go_loopw [4, 5] (fun v i wr => ∃ (f pos : Nat) (acc : List Int), pos ≤ s.size ∧ i = .int .i64 pos ∧ scan s f pos acc = R ∧ s.size < pos + f ∧ acc.length ≤ pos ∧ wr.ownsRow w.heap.size 2 1 v acc.length (acc.map (Value.int .i64)) ∧ Below w.heap.size w wr) (fun _ i _ => s.size - (intOf i).toNat)
  case atStart => exact ⟨s.size + 1, 0, [], Nat.zero_le _, rfl, HR.out, by omega, Nat.le_refl _, World.ownsRow_lit w _ 0 (Nat.le_refl _) (by unfold maxLen; omega) (by simp), (Below.refl _ _).alloc (Nat.le_refl _) _⟩
  case round =>
    obtain ⟨f, pos, acc, hpos, rfl, hsc, hf, hal, hown, hb⟩ := hrel
    have HS : Hid (scan s f pos acc = R) := hsc
    clear hsc
    have hsz := hb.size
    by_cases hlt : pos < s.size
    · obtain ⟨f', rfl⟩ : ∃ f', f = f' + 1 := ⟨f - 1, by omega⟩
      obtain ⟨r, hr⟩ : ∃ r, runeZ s pos = r := ⟨_, rfl⟩
      have hcall := rune_any s pos wr hlt hs
      rw [hr] at hcall
      obtain ⟨c, n⟩ := r
      simp only at hcall
      by_cases hn : n = 0
      · subst hn
        have HRr : Hid (runeZ s pos = (c, 0)) := hr
        clear hr
        go_wp2_with (first | (go_at_call 51; refine hcall.mono ?_; rintro e w' ⟨rfl, rfl⟩))
        have hbad := scan_bad (f := f') (acc := acc) hlt (by rw [HRr.out])
        rw [HS.out] at hbad
        subst hbad
        go_ret2
        exact ⟨_, rfl, World.ownsRow_nil _ _ _ _, hb⟩
      · have hgood := scan_good (f := f') (acc := acc) hlt (by rw [hr]; exact hn)
        have hle := rune_le (s := s) (pos := pos) (by rw [hr]; exact hn)
        rw [HS.out, hr] at hgood
        rw [hr] at hle
        simp only at hgood hle
        have HG : Hid (R = scan s f' (pos + n) (acc ++ [c])) := hgood
        have hn' : ((n : Int) == 0) = false := by simp; omega
        clear hgood hr
        go_wp2_with (first | (go_at_call 51; refine hcall.mono ?_; rintro e w' ⟨rfl, rfl⟩) | (at_builtin; refine wpList_append_own _ rfl _ _ 23 rfl w.heap.size 2 i0 (.int .i64 0) 1 8 Tryd.underlying23 hi hz0 hz1 hz2 rfl (by decide) _ _ _ rfl (hown.alloc _) ⟨_, 0, none⟩ 1 1 [.int .i64 c] rfl rfl ?c1 ?c2 ?c3 ?c4 ?c5 ?_))
        case c1 => exact cell_one_new _ _ _
        case c2 => intro u hu; simp at hu; subst hu; rfl
        case c3 => unfold maxLen; omega
        case c4 => omega
        case c5 => simp; omega
        intro v' w2 hown' hgrow _
        have hb2 : Below w.heap.size w w2 := (hb.alloc hsz _).grown hgrow (by simp; omega) (fun k hk => (hown.lt k hk).1)
        clear hgrow hown hb
        go_wp2
        go_roundw
        case rel =>
          refine ⟨f', pos + n, acc ++ [c], by omega, by go_num, HG.out.symm, by omega, by simp; omega, ?_, hb2⟩
          simpa using hown'
        case measure => simp [intOf]; omega
    · have he := scan_end (f := f) (acc := acc) (show s.size ≤ pos by omega)
      rw [HS.out] at he
      subst he
      go_wp2
      go_ret2
      exact ⟨_, rfl, hown, hb⟩

theorem owns_slice' {w : World} {B : Nat} {e : TypeId} {size : Nat} {v : Value} {n : Nat} {xs : List Value} (h : w.ownsRow B e size v n xs) : ∃ ao cv, v = .slice ao n cv := by
  rcases owns_forms h with ⟨rfl, rfl⟩ | ⟨g, cap, rfl⟩
  · exact ⟨_, _, rfl⟩
  · exact ⟨_, _, rfl⟩
theorem owns_le {w : World} {base base' size n : Nat} {e : TypeId} {v : Value} {xs : List Value} (h : w.ownsRow base e size v n xs) (hb : base' ≤ base) : w.ownsRow base' e size v n xs := by
  obtain ⟨h1, h2⟩ := h
  refine ⟨h1, ?_⟩
  rcases h2 with h2 | ⟨g, cap, cur, a, b, c⟩
  · exact .inl h2
  · exact .inr ⟨g, cap, cur, a, Nat.le_trans hb b, c⟩

/-- A box of three cells that the call laid ahead of a callee: its cells behind it; and below it all is as it was. -/
theorem box3 {w w1 : World} {a b c : Value} {t : TypeId} (hb : Below (w.alloc (.cells #[a, b, c] t)).heap.size (w.alloc (.cells #[a, b, c] t)) w1) :
    w1.cell? ⟨w.heap.size, 0, none⟩ = some a ∧ w1.cell? ⟨w.heap.size, 1, none⟩ = some b ∧ w1.cell? ⟨w.heap.size, 2, none⟩ = some c ∧
    w1.frozen? ⟨w.heap.size, 0, none⟩ = false ∧ w1.frozen? ⟨w.heap.size, 1, none⟩ = false ∧ w1.frozen? ⟨w.heap.size, 2, none⟩ = false ∧ w.heap.size < w1.heap.size ∧ Hid (Below w.heap.size w w1) := by
  have hz := hb.size
  simp at hz
  exact ⟨(hb.cell (p := ⟨w.heap.size, 0, none⟩) (by simp)).trans (by simp), (hb.cell (p := ⟨w.heap.size, 1, none⟩) (by simp)).trans (by simp), (hb.cell (p := ⟨w.heap.size, 2, none⟩) (by simp)).trans (by simp),
    (hb.frozen (p := ⟨w.heap.size, 0, none⟩) (by simp)).trans (by simp), (hb.frozen (p := ⟨w.heap.size, 1, none⟩) (by simp)).trans (by simp), (hb.frozen (p := ⟨w.heap.size, 2, none⟩) (by simp)).trans (by simp), by omega,
    ((Below.refl _ _).alloc (Nat.le_refl _) _).trans (hb.mono (by simp))⟩
end Go.Proofs.YtpkhdfddbcpciaaDoor
