/- The contract of the model's Utf: the UTF-8 of a list of characters. -/
import Derived.Test.YtpkhdfddbcpciaaDoorChars
import Derived.Test.YtpkhdfddbcpciaaDoorPut
namespace Go.Proofs.YtpkhdfddbcpciaaDoor
open Go.RowKit Plain1 Lists Bytes Go.Lib

set_option maxHeartbeats 1000000 in
theorem specUtf_any (a : Option Addr) (n cap : Nat) (l : List Int) (w : World) (hn : n = l.length) (hl : l.length ≤ 1048576) (hA : Ints .i64 w a l) :
    Calls Tryd.prog 11 #[.slice a n cap] w fun e w' => e = .returned (.string (strOfNums (utfZ l))) ∧ Below w.heap.size w w' := by
  obtain ⟨b, off, ha, hc⟩ := hA
  rw [← hn] at ha hc hl
  have HL : Hid (n = l.length) := hn
  clear hn
  by_cases hbig : 400 < n
  · go_enter Tryd.func11, Tryd.ntmps11
    go_wp2
    go_ret
    refine ⟨?_, Below.refl _ _⟩
    rw [utfZ_long (by have := HL.out; omega)]
    rfl
  go_enter Tryd.func11, Tryd.ntmps11
  go_wp2
  go_loopw [3, 4] (fun v i wr => ∃ (k : Nat), k ≤ n ∧ i = .int .i64 k ∧ wr.ownsRow w.heap.size 5 1 v (encAll (l.take k)).length ((encAll (l.take k)).map (Value.int .u8)) ∧ Below w.heap.size w wr ∧ (l.take k).all charB = true) (fun _ i _ => n - (intOf i).toNat)
  case atStart => exact ⟨0, Nat.zero_le _, rfl, World.ownsRow_lit w _ 0 (Nat.le_refl _) (by unfold maxLen; omega) (by simp), (Below.refl _ _).alloc (Nat.le_refl _) _, rfl⟩
  case round =>
    obtain ⟨k, hk, rfl, hown, hb, hall⟩ := hrel
    by_cases hlt : k < n
    · obtain rfl := ha (by omega)
      have hkl : k < l.length := by have := HL.out; omega
      have hsz := hb.size
      have hbw := block_lt (hc k hlt)
      have c1 : ∀ wx, Below w.heap.size w wx → wx.cell? ⟨b, off + k, none⟩ = some (.int .i64 (l.getD k 0)) := fun wx hx => (hx.cell (p := ⟨b, off + k, none⟩) hbw).trans (hc k hlt)
      have c2 := c1 wr hb
      have hlen := encAll_len (l.take k)
      have hlk : (l.take k).length ≤ k := List.length_take_le _ _
      obtain ⟨c, hce⟩ : ∃ c, c = l.getD k 0 := ⟨_, rfl⟩
      rw [← hce] at c2
      by_cases hch : charB c = true
      · have hput := put_any w.heap.size _ _ _ c hch wr hown (by omega) hsz
        have HE : Hid (c = l.getD k 0) := hce
        have HA : Hid ((l.take k).all charB = true) := hall
        have HB : Hid (Below w.heap.size w wr) := hb
        clear hce hall hb c1 hc ha hown
        go_wp2_with (first | (go_at_call 21; refine (specChar_any _ _).mono ?_; rintro e w' ⟨rfl, rfl⟩) | (go_at_call 34; refine hput.mono ?_; rintro e w' ⟨v', rfl, ho', hb'⟩))
        go_roundw
        case rel =>
          refine ⟨k + 1, by omega, by go_num, ?_, HB.out.trans hb', all_snoc hkl HA.out (by rw [← HE.out]; exact hch)⟩
          rw [take_snoc_getD l k hkl, encAll_snoc, ← HE.out, List.length_append, List.map_append]
          exact ho'
        case measure => simp [intOf]; omega
      · have hch' : charB c = false := by simpa using hch
        have HE : Hid (c = l.getD k 0) := hce
        clear hce hch c1 hc ha hown
        go_wp2_with (first | (go_at_call 21; refine (specChar_any _ _).mono ?_; rintro e w' ⟨rfl, rfl⟩))
        go_ret
        refine ⟨?_, hb⟩
        rw [utfZ_bad hkl (by rw [← HE.out]; exact hch')]
        rfl
    · have hkn : n ≤ k := by omega
      have hconv := conv_own (P := Tryd.prog) (src := 22) (dst := 9) Tryd.underlying22 Tryd.underlying5 Tryd.underlying9 hown
      have HA : Hid ((l.take k).all charB = true) := hall
      clear hc ha hown hall
      go_wp2
      go_ret
      have hlk : l.take k = l := List.take_of_length_le (by have := HL.out; omega)
      have ha := HA.out
      rw [hlk] at ha
      exact ⟨ret_str (by rw [hlk, utfZ_good (by have := HL.out; omega) ha]), hb⟩
end Go.Proofs.YtpkhdfddbcpciaaDoor
