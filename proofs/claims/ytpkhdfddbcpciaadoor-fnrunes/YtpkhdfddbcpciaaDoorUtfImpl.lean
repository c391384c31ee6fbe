/- The contract of the program's Utf: the UTF-8 of a list of characters. -/
import Derived.Test.YtpkhdfddbcpciaaDoorChars
import Derived.Test.YtpkhdfddbcpciaaDoorBytes
import Derived.Test.YtpkhdfddbcpciaaDoorShelfU
import Derived.WalkKit
namespace Go.Proofs.YtpkhdfddbcpciaaDoor
open Go.RowKit Plain1 Lists Bytes Go.Lib

theorem owns_slice {w : World} {B : Nat} {e : TypeId} {size : Nat} {v : Value} {n : Nat} {xs : List Value} (h : w.ownsRow B e size v n xs) : ∃ ao cv, v = .slice ao n cv := by
  rcases owns_forms h with ⟨rfl, rfl⟩ | ⟨g, cap, rfl⟩
  · exact ⟨_, _, rfl⟩
  · exact ⟨_, _, rfl⟩

theorem appendRune_any (B : Nat) (v : Value) (n : Nat) (xs : List Int) (c : Int) (hc : charB c = true) (w : World) (hown : w.ownsRow B 5 1 v n (xs.map (Value.int .u8))) (hlen : n + 4 ≤ 140737488355328) (hBw : B ≤ w.heap.size) :
    Calls Tryd.prog 33 #[v, .int .i32 c] w fun e w' => ∃ v', e = .returned v' ∧ w'.ownsRow B 5 1 v' (n + (encodeRuneZ c).length) ((xs ++ encodeRuneZ c).map (Value.int .u8)) ∧ Below B w w' := by
  have hr := (charB_iff c).1 hc
  refine (Tryd.utf8_AppendRune_plain B v n _ c (by omega) (by omega) w hown hlen hBw).mono ?_
  rintro e w' ⟨v', he, ho, o, hg⟩
  refine ⟨v', he, ?_, ((Below.refl B w).alloc hBw o).grown hg (by simp; omega) (fun k hk => (hown.lt k hk).1)⟩
  rw [List.map_append]
  simpa [runeCells] using ho

set_option maxHeartbeats 1000000 in
theorem implUtf_any (a : Option Addr) (n cap : Nat) (l : List Int) (w : World) (hn : n = l.length) (hl : l.length ≤ 1048576) (hA : Ints .i64 w a l) :
    Calls Tryd.prog 10 #[.slice a n cap] w fun e w' => e = .returned (.string (strOfNums (utfZ l))) ∧ Below w.heap.size w w' := by
  obtain ⟨b, off, ha, hc⟩ := hA
  rw [← hn] at ha hc hl
  have HL : Hid (n = l.length) := hn
  clear hn
  by_cases hbig : 400 < n
  · go_enter Tryd.func10, Tryd.ntmps10
    go_wp2
    go_ret
    refine ⟨?_, Below.refl _ _⟩
    rw [utfZ_long (by have := HL.out; omega)]
    rfl
  go_enter Tryd.func10, Tryd.ntmps10
  go_wp2
  go_loopw [3, 11] (fun v i wr => ∃ (k : Nat) (ao : Option Addr) (cv : Nat), k ≤ n ∧ i = .int .i64 k ∧ v = .slice ao (encAll (l.take k)).length cv ∧ wr.ownsRow w.heap.size 5 1 v (encAll (l.take k)).length ((encAll (l.take k)).map (Value.int .u8)) ∧ Below w.heap.size w wr ∧ (l.take k).all charB = true) (fun _ i _ => n - (RowKit.intOf i).toNat)
  case atStart => exact ⟨0, none, 0, Nat.zero_le _, rfl, rfl, World.ownsRow_nil _ _ _ _, Below.refl _ _, rfl⟩
  case round =>
    obtain ⟨k, ao, cv, hk, rfl, rfl, hown, hb, hall⟩ := hrel
    have hlen := encAll_len (l.take k)
    have hlk : (l.take k).length ≤ k := List.length_take_le _ _
    by_cases hlt : k < n
    · obtain rfl := ha (by omega)
      have hkl : k < l.length := by have := HL.out; omega
      have hsz := hb.size
      have hbw := block_lt (hc k hlt)
      have c2 := (hb.cell (p := ⟨b, off + k, none⟩) hbw).trans (hc k hlt)
      obtain ⟨c, hce⟩ : ∃ c, c = l.getD k 0 := ⟨_, rfl⟩
      rw [← hce] at c2
      by_cases hch : charB c = true
      · have hput := appendRune_any w.heap.size _ _ _ c hch wr hown (by omega) hsz
        have hr := (charB_iff c).1 hch
        have hr0 : 0 ≤ c := by omega
        have hr1 : c ≤ 1114111 := by omega
        have HE : Hid (c = l.getD k 0) := hce
        have HA : Hid ((l.take k).all charB = true) := hall
        have HB : Hid (Below w.heap.size w wr) := hb
        clear hce hall hb hc ha hown hr
        go_wp2_with (first | (go_at_call 20; refine (implChar_any _ _).mono ?_; rintro e w' ⟨rfl, rfl⟩) | (go_at_call 33; refine hput.mono ?_; rintro e w' ⟨v', rfl, ho', hb'⟩))
        go_roundw
        case rel =>
          obtain ⟨ao', cv', hv⟩ := owns_slice ho'
          refine ⟨k + 1, ao', cv', by omega, by go_num, ?_, ?_, HB.out.trans hb', all_snoc hkl HA.out (by rw [← HE.out]; exact hch)⟩
          · rw [take_snoc_getD l k hkl, encAll_snoc, ← HE.out, List.length_append]
            exact hv
          · rw [take_snoc_getD l k hkl, encAll_snoc, ← HE.out, List.length_append]
            exact ho'
        case measure => simp [RowKit.intOf]; omega
      · have hch' : charB c = false := by simpa using hch
        have HE : Hid (c = l.getD k 0) := hce
        clear hce hch hc ha hown
        go_wp2_with (first | (go_at_call 20; refine (implChar_any _ _).mono ?_; rintro e w' ⟨rfl, rfl⟩))
        go_ret
        refine ⟨?_, hb⟩
        rw [utfZ_bad hkl (by rw [← HE.out]; exact hch')]
        rfl
    · have hkn : n ≤ k := by omega
      have hconv := conv_own (P := Tryd.prog) (src := 22) (dst := 9) Tryd.underlying22 Tryd.underlying5 Tryd.underlying9 hown
      have HA : Hid ((l.take k).all charB = true) := hall
      clear hc ha hown hall
      go_wp2
      go_ret
      have hlk : l.take k = l := List.take_of_length_le (by have := HL.out; omega)
      have ha := HA.out
      rw [hlk] at ha
      exact ⟨ret_str (by rw [hlk, utfZ_good (by have := HL.out; omega) ha]), hb⟩
end Go.Proofs.YtpkhdfddbcpciaaDoor
