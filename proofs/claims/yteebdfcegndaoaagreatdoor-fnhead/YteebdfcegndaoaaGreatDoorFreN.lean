/- What the texts on the model's and on the program's Next have in common. -/
import Derived.Test.YteebdfcegndaoaaGreatDoorFreA
namespace Go.Proofs.YteebdfcegndaoaaGreatDoor
open Go.RowKit Plain1 Plain2 Strs Strs2 Lists Plain3 Plain5 Plain6 Plain9 Plain10 Plain11 Plain12 Plain16

/-- What a face that reads a mark hands back. -/
def OutSays (w : World) (O : Out) (e : Ending) (w' : World) : Prop :=
  ∃ v, e = .returned (.agg #[.int .i64 O.tk.kind, .string O.tk.name, .string O.tk.text, v, .int .i64 O.at1, .int .i64 O.code]) ∧ w'.ownsRow w.heap.size 109 2 v O.tk.attrs.length (acells O.tk.attrs) ∧ Below w.heap.size w w'
def zOut : Obj := .cells #[.int .i64 0, .string ⟨#[]⟩, .string ⟨#[]⟩, .slice none 0 0, .int .i64 0, .int .i64 0] 29
def set6 (W : World) (b : Nat) (v0 v1 v2 v3 v4 v5 : Value) : World :=
  (((((W.setCell ⟨b, 0, none⟩ v0).setCell ⟨b, 1, none⟩ v1).setCell ⟨b, 2, none⟩ v2).setCell ⟨b, 3, none⟩ v3).setCell ⟨b, 4, none⟩ v4).setCell ⟨b, 5, none⟩ v5
theorem below6 {B b : Nat} {a W : World} (h : Below B a W) (hb : B ≤ b) (v0 v1 v2 v3 v4 v5 : Value) : Below B a (set6 W b v0 v1 v2 v3 v4 v5) :=
  (((((h.setCell (p := ⟨b, 0, none⟩) hb _).setCell (p := ⟨b, 1, none⟩) hb _).setCell (p := ⟨b, 2, none⟩) hb _).setCell (p := ⟨b, 3, none⟩) hb _).setCell (p := ⟨b, 4, none⟩) hb _).setCell (p := ⟨b, 5, none⟩) hb _
theorem row6 {W : World} {B b n : Nat} {t : TypeId} {sz : Nat} {v : Value} {cs : List Value} (h : W.ownsRow B t sz v n cs) (hb : b < B) (v0 v1 v2 v3 v4 v5 : Value) : (set6 W b v0 v1 v2 v3 v4 v5).ownsRow B t sz v n cs :=
  row1 (row1 (row1 (row1 (row1 (row1 h hb 0 _) hb 1 _) hb 2 _) hb 3 _) hb 4 _) hb 5 _
/-- An answer, put down at its place. -/
theorem out_put {w W : World} {O : Out} {v : Value} {B : Nat} (hb : Below w.heap.size w W) (hr : W.ownsRow B 109 2 v O.tk.attrs.length (acells O.tk.attrs)) (hB : w.heap.size < B) :
    OutSays w O (.returned (.agg #[.int .i64 O.tk.kind, .string O.tk.name, .string O.tk.text, v, .int .i64 O.at1, .int .i64 O.code]))
      (set6 W w.heap.size (.int .i64 O.tk.kind) (.string O.tk.name) (.string O.tk.text) v (.int .i64 O.at1) (.int .i64 O.code)) :=
  ⟨v, rfl, row_mono (row6 hr hB _ _ _ _ _ _) (by omega), below6 hb (Nat.le_refl _) _ _ _ _ _ _⟩
/-- A code, put down at its place. -/
theorem code_put {w W : World} (c : Int) (hb : Below w.heap.size w W) :
    OutSays w (codeOut c) (.returned (.agg #[.int .i64 0, .string ⟨#[]⟩, .string ⟨#[]⟩, .slice none 0 0, .int .i64 0, .int .i64 c]))
      (set6 W w.heap.size (.int .i64 0) (.string ⟨#[]⟩) (.string ⟨#[]⟩) (.slice none 0 0) (.int .i64 0) (.int .i64 c)) :=
  ⟨_, rfl, World.ownsRow_nil _ _ _ _, below6 hb (Nat.le_refl _) _ _ _ _ _ _⟩
theorem outcells {W : World} {b : Nat} {v0 v1 v2 v3 v4 v5 : Value} {t : TypeId} (h : W.heap[b]? = some (.cells #[v0, v1, v2, v3, v4, v5] t)) :
    (W.cell? ⟨b, 0, none⟩ = some v0 ∧ W.cell? ⟨b, 1, none⟩ = some v1 ∧ W.cell? ⟨b, 2, none⟩ = some v2 ∧ W.cell? ⟨b, 3, none⟩ = some v3 ∧ W.cell? ⟨b, 4, none⟩ = some v4 ∧ W.cell? ⟨b, 5, none⟩ = some v5) ∧
    W.frozen? ⟨b, 0, none⟩ = false ∧ W.frozen? ⟨b, 1, none⟩ = false ∧ W.frozen? ⟨b, 2, none⟩ = false ∧ W.frozen? ⟨b, 3, none⟩ = false ∧ W.frozen? ⟨b, 4, none⟩ = false ∧ W.frozen? ⟨b, 5, none⟩ = false := by
  simp [World.cell?, World.frozen?, h]
end Go.Proofs.YteebdfcegndaoaaGreatDoor
