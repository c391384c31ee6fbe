/- The contracts of the program's broken and Runes: the characters of a text, by a range over it. -/
import Derived.Test.YtpkhdfddbcpciaaDoorCharsI
import Derived.Test.YtpkhdfddbcpciaaDoorPlain5
import Derived.Test.YtpkhdfddbcpciaaDoorLists
import Derived.Test.YtpkhdfddbcpciaaDoorShelfH
import Derived.WalkKit
import Derived.WalkSpells
import Derived.WalkSmall
import Derived.Laws.RangeAny
import Derived.Lib.OthersKept
namespace Go.Proofs.YtpkhdfddbcpciaaDoor
open Go.RowKit Plain1 Strs Plain3 Plain4 Plain5 Lists

theorem info64r : (Tryd.prog.info? 2).map (fun i => (i.zero, i.size, i.bytes)) = some (some (.int .i64 0), 1, 8) := by kernel_rfl

theorem broken_any (rest : ByteArray) (r : Int) (w : World) :
    Calls Tryd.prog 35 #[.string rest, .int .i32 r] w fun e w' => e = .returned (.bool (decide (r = 65533) && !Lib.hasPrefix rest.data.toList [239, 191, 189])) ∧ w' = w := by
  obtain ⟨b, hb⟩ : ∃ b, Lib.hasPrefix rest.data.toList [239, 191, 189] = b := ⟨_, rfl⟩
  have hcall := Tryd.strings_HasPrefix rest ⟨#[239, 191, 189]⟩ w
  rw [show (⟨#[239, 191, 189]⟩ : ByteArray).data.toList = [239, 191, 189] from rfl, hb] at hcall
  rw [hb]
  clear hb
  by_cases hr : r = 65533
  · subst hr
    go_enter Tryd.func35, Tryd.ntmps35
    go_wp2_with (go_at_call 50; refine hcall.mono ?_; rintro e w' ⟨rfl, rfl⟩)
    go_ret
    exact ⟨ret_bool (by simp), rfl⟩
  · have hr' : (r == 65533) = false := by simpa using hr
    go_enter Tryd.func35, Tryd.ntmps35
    go_wp2
    go_ret
    exact ⟨ret_bool (by simp [hr]), rfl⟩

theorem u8_eq (x : UInt8) (k : Nat) (hk : k < 256) : (x.toNat : Int) = k ↔ UInt8.ofNat k = x := by
  constructor
  · intro h
    apply UInt8.toNat.inj
    rw [UInt8.toNat_ofNat_of_lt' (by simpa using hk)]
    omega
  · intro h
    rw [← h, UInt8.toNat_ofNat_of_lt' (by simpa using hk)]

theorem prefix_list (m : List UInt8) : [(239 : UInt8), 191, 189].isPrefixOf m = true ↔ (3 ≤ m.length ∧ ((m.getD 0 0).toNat : Int) = 239 ∧ ((m.getD 1 0).toNat : Int) = 191 ∧ ((m.getD 2 0).toNat : Int) = 189) := by
  match m with
  | [] => simp
  | [x] => simp [List.isPrefixOf]
  | [x, y] => simp [List.isPrefixOf]
  | x :: y :: z :: t =>
    have e0 := u8_eq x 239 (by omega)
    have e1 := u8_eq y 191 (by omega)
    have e2 := u8_eq z 189 (by omega)
    simp only [List.isPrefixOf, List.getD_cons_zero, List.getD_cons_succ, List.length_cons, Bool.and_eq_true, beq_iff_eq]
    constructor
    · rintro ⟨h0, h1, h2, _⟩
      exact ⟨by omega, e0.2 h0, e1.2 h1, e2.2 h2⟩
    · rintro ⟨_, h0, h1, h2⟩
      exact ⟨e0.1 h0, e1.1 h1, e2.1 h2, trivial⟩

theorem prefix_fffd (s : ByteArray) (pos : Nat) : Lib.hasPrefix (s.extract pos s.size).data.toList [239, 191, 189] = true ↔ fffd s pos := by
  have e : (s.extract pos s.size).data.toList = s.data.toList.drop pos := by
    simp [ByteArray.data_extract, Array.toList_extract, List.extract, List.take_of_length_le]
  rw [e]
  unfold Lib.hasPrefix fffd byteAt
  have hs : s.size = s.data.toList.length := by simp
  rw [hs]
  generalize s.data.toList = l
  rw [prefix_list]
  have g : ∀ k, (l.drop pos).getD k 0 = l.getD (pos + k) 0 := by
    intro k; simp [List.getD, List.getElem?_drop]
  rw [g 0, g 1, g 2, List.length_drop]
  constructor
  · rintro ⟨a, b⟩; exact ⟨by omega, b⟩
  · rintro ⟨a, b⟩; exact ⟨by omega, b⟩

/-- The program's test at a place, against the model's reading. -/
theorem test_good {s : ByteArray} {pos c n : Nat} (hp : pos < s.size) (hd : Utf8.decode s pos = (c, n)) (h : (runeZ s pos).2 ≠ 0) :
    (decide ((c : Int) = 65533) && !Lib.hasPrefix (s.extract pos s.size).data.toList [239, 191, 189]) = false ∧ charB (c : Int) = true ∧ runeZ s pos = ((c : Int), n) := by
  rcases rune_agree hp with ⟨_, e1, e2, e3⟩ | ⟨e, _⟩
  · rw [hd] at e1 e2 e3
    refine ⟨?_, e3, Prod.ext e1.symm e2.symm⟩
    by_cases hc : (c : Int) = 65533
    · rw [(prefix_fffd s pos).2 (fffd_of_rune h (e1.symm.trans hc))]; simp
    · simp [hc]
  · rw [e] at h; exact absurd rfl h
theorem test_bad {s : ByteArray} {pos c n : Nat} (hp : pos < s.size) (hd : Utf8.decode s pos = (c, n)) (h : (runeZ s pos).2 = 0) :
    (decide ((c : Int) = 65533) && !Lib.hasPrefix (s.extract pos s.size).data.toList [239, 191, 189]) = true ∨ ((decide ((c : Int) = 65533) && !Lib.hasPrefix (s.extract pos s.size).data.toList [239, 191, 189]) = false ∧ charB (c : Int) = false) := by
  rcases rune_agree hp with ⟨e, _⟩ | ⟨_, e | e⟩
  · exact absurd h e
  · left
    rw [hd] at e
    have hc : c = 65533 := congrArg Prod.fst e
    have hnp : Lib.hasPrefix (s.extract pos s.size).data.toList [239, 191, 189] = false := by
      cases hh : Lib.hasPrefix (s.extract pos s.size).data.toList [239, 191, 189] with
      | false => rfl
      | true => have := rune_fffd ((prefix_fffd s pos).1 hh); rw [this] at h; cases h
    rw [hnp, hc]; rfl
  · right
    rw [hd] at e
    refine ⟨?_, e⟩
    have hc : ¬ ((c : Int) = 65533) := by
      intro hc
      simp only at e
      rw [hc] at e
      cases e
    simp [hc]
end Go.Proofs.YtpkhdfddbcpciaaDoor
