/- The contract of the program's fresh: a text in memory of its own reads as the text. -/
import Derived.Test.YtpkhdfddbcpciaaProg
import Derived.Test.YtpkhdfddbcpciaaBytes
import Derived.Test.YtpkhdfddbcpciaaLists
import Derived.Deep.OwnRows
import Derived.Lib.BufferWrite
import Derived.Deep.QuietTactic
import Derived.BigQuiet
namespace Go.Proofs.Ytpkhdfddbcpciaa
open Go.RowKit Plain1 Lists Bytes Go.Lib

theorem info8 : (Try.prog.info? 5).map (fun i => (i.zero, i.size, i.bytes)) = some (some (.int .u8 0), 1, 1) := by kernel_rfl
theorem size8 : (Try.prog.info? 5).map (·.size) = some 1 := by kernel_rfl
theorem mkHidFr {p : Prop} (h : p) : Hid p := h
theorem bytes_all (s : ByteArray) : byteCells s.data.toList = (s.data.toList.map fun b => (b.toNat : Int)).map (Value.int .u8) := by
  simp [byteCells]
theorem str_of_bytes (s : ByteArray) : strOfNums (s.data.toList.map fun b => (b.toNat : Int)) = s := by
  apply ByteArray.ext
  apply Array.toList_inj.1
  simp only [strOfNums, List.map_map]
  have : ∀ l : List UInt8, l.map ((fun n : Int => UInt8.ofNat n.toNat) ∘ fun b => (b.toNat : Int)) = l := by
    intro l
    induction l with
    | nil => rfl
    | cons a t ih => simp only [List.map_cons, ih]; simp
  simpa using this s.data.toList
theorem fresh_any (s : ByteArray) (w : World) (hs : s.size ≤ 1048576) :
    Calls Try.prog 39 #[.string s] w fun e w' => e = .returned (.string s) ∧ w.grownBy w' none := by
  have hmk := run_make_row' (P := Try.prog) 60 5 (.int .u8 0) 1 Try.underlying60 info8 rfl .i64 .i64 s.size (by omega) (by omega)
  have hcp := fun ty => run_copy_row_string (P := Try.prog) (w.alloc (.cells (madeCells #[.int .u8 0] s.size) 5)) 60 9 ty 5 w.heap.size 0 s.size s.size s (madeCells #[.int .u8 0] s.size) 5
    Try.underlying60 size8 (heap_alloc_new w _) (Nat.le_refl _) (by simp [madeCells])
  obtain ⟨W, hW⟩ : ∃ W, W = (w.alloc (.cells (madeCells #[.int .u8 0] s.size) 5)).setRow w.heap.size (((madeCells #[.int .u8 0] s.size).toList.take 0 ++ byteCells s.data.toList ++ (madeCells #[.int .u8 0] s.size).toList.drop (0 + s.size)).toArray) := ⟨_, rfl⟩
  rw [← hW] at hcp
  have hrow : W.heap[w.heap.size]? = some (.cells (byteCells s.data.toList).toArray 5) := by
    rw [hW, setRow_heap _ _ _ _ _ _ (heap_alloc_new w _)]
    congr 3
    have hl : (madeCells #[Value.int .u8 0] s.size).toList.drop (0 + s.size) = [] := List.drop_eq_nil_of_le (by simp [madeCells])
    rw [hl]
    simp
  have hg : w.grownBy W none := by
    rw [hW]
    exact ⟨rfl, rfl, rfl, by simp [World.setRow], fun k hk _ => by rw [setRow_other _ _ _ _ (by omega)]; exact heap_alloc_old w _ hk⟩
  have hown : W.ownsRow w.heap.size 5 1 (.slice (some ⟨w.heap.size, 0, none⟩) s.size s.size) s.size ((s.data.toList.map fun b => (b.toNat : Int)).map (Value.int .u8)) := by
    refine ⟨by simp, .inr ⟨w.heap.size, s.size, (byteCells s.data.toList).toArray, rfl, Nat.le_refl _, hrow, Nat.le_refl _, by unfold maxLen; omega, by simp [byteCells_length], ?_⟩⟩
    rw [bytes_all]
    simp only [Nat.mul_one]
    rw [List.take_of_length_le (by simp)]
  have hconv := conv_own (P := Try.prog) (src := 60) (dst := 9) Try.underlying60 Try.underlying5 Try.underlying9 hown
  rw [str_of_bytes] at hconv
  have HG := mkHidFr hg
  clear hown hrow hW hg
  go_enter Try.func39, Try.ntmps39
  go_wp2
  go_ret
  exact ⟨rfl, HG.out⟩
end Go.Proofs.Ytpkhdfddbcpciaa
