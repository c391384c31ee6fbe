/- The contract of the model's escapes: byte by byte. -/
import Derived.Test.YtpkhdfddbcpciabProg
import Derived.Test.YtpkhdfddbcpciabPlain1
import Derived.Test.YtpkhdfddbcpciabPlainE
import Derived.Test.YtpkhdfddbcpciabBytes
import Derived.WalkKit
import Derived.WalkSpells
namespace Go.Proofs.Ytpkhdfddbcpciab
open Go.RowKit Plain1 Strs Plain7 Bytes Lists PlainE Go.Lib

theorem mkHidE {p : Prop} (h : p) : Hid p := h
theorem info8x : (Try.prog.info? 5).map (fun i => (i.zero, i.size, i.bytes)) = some (some (.int .u8 0), 1, 1) := by kernel_rfl
theorem below_app2 {w wr w2 : World} {o : Obj} {e : TypeId} {size : Nat} {v : Value} {n : Nat} {xs : List Value} (hb : Below w.heap.size w wr) (hown : wr.ownsRow w.heap.size e size v n xs) (hg : (wr.alloc o).grownBy w2 v.ownBlock) : Below w.heap.size w w2 :=
  (hb.alloc hb.size o).grown hg (by have := hb.size; simp; omega) (fun k hk => (hown.lt k hk).1)
theorem below_app3 {w wr w2 : World} {e : TypeId} {size : Nat} {v : Value} {n : Nat} {xs : List Value} (hb : Below w.heap.size w wr) (hown : wr.ownsRow w.heap.size e size v n xs) (hg : wr.grownBy w2 v.ownBlock) : Below w.heap.size w w2 :=
  hb.grown hg hb.size (fun k hk => (hown.lt k hk).1)

theorem sign_no {v : Bool} {b : Int} (h1 : b ≠ 38) (h2 : b ≠ 60) (h3 : b ≠ 62) (h4 : b ≠ 34) (h5 : b ≠ 13) (h6 : b ≠ 9) (h7 : b ≠ 10) : signS v b = ⟨#[]⟩ := by
  unfold signS; simp [h1, h2, h3, h4, h5, h6, h7]
theorem sign7 {p : Int → Prop} (b : Int) (h1 : p 38) (h2 : p 60) (h3 : p 62) (h4 : p 34) (h5 : p 13) (h6 : p 9) (h7 : p 10) (h : b ≠ 38 → b ≠ 60 → b ≠ 62 → b ≠ 34 → b ≠ 13 → b ≠ 9 → b ≠ 10 → p b) : p b := by
  by_cases e1 : b = 38
  · rw [e1]; exact h1
  by_cases e2 : b = 60
  · rw [e2]; exact h2
  by_cases e3 : b = 62
  · rw [e3]; exact h3
  by_cases e4 : b = 34
  · rw [e4]; exact h4
  by_cases e5 : b = 13
  · rw [e5]; exact h5
  by_cases e6 : b = 9
  · rw [e6]; exact h6
  by_cases e7 : b = 10
  · rw [e7]; exact h7
  exact h e1 e2 e3 e4 e5 e6 e7

theorem specSign_any (v : Bool) (b : Int) : ∀ (w : World),
    Calls Try.prog 13 #[.int .u8 b, .bool v] w fun e w' => e = .returned (.string (signS v b)) ∧ Below w.heap.size w w' := by
  refine sign7 (p := fun b => ∀ (w : World), Calls Try.prog 13 #[.int .u8 b, .bool v] w fun e w' => e = .returned (.string (signS v b)) ∧ Below w.heap.size w w') b ?_ ?_ ?_ ?_ ?_ ?_ ?_ ?_
  case refine_8 =>
    intro h1 h2 h3 h4 h5 h6 h7 w
    rw [sign_no h1 h2 h3 h4 h5 h6 h7]
    cases v
    all_goals
      go_enter Try.func13, Try.ntmps13
      go_wp2
      go_ret
      exact ⟨rfl, Below.refl _ _⟩
  all_goals
    intro w
    cases v
    all_goals
      go_enter Try.func13, Try.ntmps13
      go_wp2
      go_ret
      exact ⟨rfl, Below.refl _ _⟩
end Go.Proofs.Ytpkhdfddbcpciab
