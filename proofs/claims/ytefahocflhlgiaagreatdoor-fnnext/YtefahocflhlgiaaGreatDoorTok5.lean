/- The model's scanner: whether attributes have a name, whether a name is xml; comments and instructions. -/
import Derived.Test.YtefahocflhlgiaaGreatDoorTok4
namespace Go.Proofs.YtefahocflhlgiaaGreatDoor
open Go.RowKit Plain1 Strs Strs2 Lists Plain3 Plain5 Plain6 Plain9 Plain10 Plain11

def acells (l : List (ByteArray × ByteArray)) : List Value := l.flatMap fun a => [.string a.1, .string a.2]
/-- What a scanner's method leaves that reads a mark. -/
def TkSays (w : World) (g : Nat) (s : ByteArray) (T : Tk) (e : Ending) (w' : World) : Prop :=
  ∃ kd nm tx ao an ac q, e = .returned (.agg #[.int .i64 kd, .string nm, .string tx, .slice ao an ac]) ∧ ScBox w' g s ⟨q, T.fl⟩ ∧ q ≤ s.size ∧
    (T.fl = 0 → kd = T.kind ∧ nm = T.name ∧ tx = T.text ∧ q = T.pos ∧ w'.ownsRow w.heap.size 109 2 (.slice ao an ac) T.attrs.length (acells T.attrs)) ∧ w.grownBy w' (some g)
theorem says_fail {w w' : World} {g : Nat} {s : ByteArray} {f : Nat} {kd : Int} {nm tx : ByteArray} {ao : Option Addr} {an ac : Nat} {q : Nat} (hf : f ≠ 0) (hb : ScBox w' g s ⟨q, f⟩) (hq : q ≤ s.size) (hg : w.grownBy w' (some g)) :
    TkSays w g s (failT f) (.returned (.agg #[.int .i64 kd, .string nm, .string tx, .slice ao an ac])) w' :=
  ⟨kd, nm, tx, ao, an, ac, q, rfl, hb, hq, fun h => absurd h hf, hg⟩
theorem says_plain {w w' : World} {g : Nat} {s : ByteArray} {kd : Int} {nm tx : ByteArray} {q : Nat} (hb : ScBox w' g s ⟨q, 0⟩) (hq : q ≤ s.size) (hg : w.grownBy w' (some g)) :
    TkSays w g s ⟨0, kd, nm, tx, [], q⟩ (.returned (.agg #[.int .i64 kd, .string nm, .string tx, .slice none 0 0])) w' :=
  ⟨kd, nm, tx, _, _, _, q, rfl, hb, hq, fun _ => ⟨rfl, rfl, rfl, rfl, World.ownsRow_nil _ _ _ _⟩, hg⟩

/-- A mark's box in memory. -/
def TkBox (w : World) (k : Nat) (kd : Int) (nm tx : ByteArray) (v : Value) : Prop := w.heap[k]? = some (.cells #[.int .i64 kd, .string nm, .string tx, v] 27)
theorem tkcells {w : World} {k : Nat} {kd : Int} {nm tx : ByteArray} {v : Value} (h : TkBox w k kd nm tx v) :
    w.cell? ⟨k, 0, none⟩ = some (.int .i64 kd) ∧ w.cell? ⟨k, 1, none⟩ = some (.string nm) ∧ w.cell? ⟨k, 2, none⟩ = some (.string tx) ∧ w.cell? ⟨k, 3, none⟩ = some v ∧
    w.frozen? ⟨k, 0, none⟩ = false ∧ w.frozen? ⟨k, 1, none⟩ = false ∧ w.frozen? ⟨k, 2, none⟩ = false ∧ w.frozen? ⟨k, 3, none⟩ = false := by
  unfold TkBox at h
  simp [World.cell?, World.frozen?, h]
theorem sc_lt {w : World} {g : Nat} {s : ByteArray} {x : Sc} (h : ScBox w g s x) : g < w.heap.size := (Array.getElem?_eq_some_iff.1 h).1
theorem tk_lt {w : World} {k : Nat} {kd : Int} {nm tx : ByteArray} {v : Value} (h : TkBox w k kd nm tx v) : k < w.heap.size := (Array.getElem?_eq_some_iff.1 h).1
theorem galloc5 (w : World) (o : Obj) (r : Option Nat) : w.grownBy (w.alloc o) r := gbelow5 ((Below.refl _ _).alloc (Nat.le_refl _) o)
theorem sc_alloc {w : World} {g : Nat} {s : ByteArray} {x : Sc} (h : ScBox w g s x) (o : Obj) : ScBox (w.alloc o) g s x := box_below h ((Below.refl _ _).alloc (Nat.le_refl _) o)
theorem Below.heap_new (w : World) (o : Obj) : (w.alloc o).heap[w.heap.size]? = some o := by
  show (w.heap.push o)[w.heap.size]? = some o
  simp
theorem tk_alloc (w : World) : TkBox (w.alloc (.cells #[.int .i64 0, .string ByteArray.empty, .string ByteArray.empty, .slice none 0 0] 27)) w.heap.size 0 ByteArray.empty ByteArray.empty (.slice none 0 0) := by
  unfold TkBox; exact Below.heap_new _ _
theorem tk_new (w : World) (kd : Int) (nm tx : ByteArray) (v : Value) : TkBox (w.alloc (.cells #[.int .i64 kd, .string nm, .string tx, v] 27)) w.heap.size kd nm tx v := by
  unfold TkBox; exact Below.heap_new _ _
theorem tk_keep {w w' : World} {k g : Nat} {kd : Int} {nm tx : ByteArray} {v : Value} (h : TkBox w k kd nm tx v) (hg : w.grownBy w' (some g)) (hne : k ≠ g) : TkBox w' k kd nm tx v := by
  unfold TkBox
  rw [hg.block k (tk_lt h) (fun e => hne (Option.some.inj e))]; exact h
theorem sc_set {w : World} {g k j : Nat} {s : ByteArray} {x : Sc} (h : ScBox w g s x) (hne : k ≠ g) (u : Value) : ScBox (w.setCell ⟨k, j, none⟩ u) g s x := by
  unfold ScBox
  rw [Below.heap_setCell w ⟨k, j, none⟩ u g (fun e => hne e.symm)]; exact h
theorem gsetNew {a b : World} {r : Option Nat} {k j : Nat} (h : a.grownBy b r) (hk : a.heap.size ≤ k) (u : Value) : a.grownBy (b.setCell ⟨k, j, none⟩ u) r :=
  ⟨h.os, h.tape, h.output, by simpa using h.size, fun i hi hr => (Below.heap_setCell b ⟨k, j, none⟩ u i (fun e => by have e' : i = k := e; omega)).trans (h.block i hi hr)⟩

/-- Behind the result's storing. -/
theorem fin4 {w W : World} {g : Nat} {s : ByteArray} {x : Sc} (hb : ScBox W g s x) (hg : w.grownBy W (some g)) (hlt : g < w.heap.size) (a b c d : Value) :
    ScBox ((((W.setCell ⟨w.heap.size, 0, none⟩ a).setCell ⟨w.heap.size, 1, none⟩ b).setCell ⟨w.heap.size, 2, none⟩ c).setCell ⟨w.heap.size, 3, none⟩ d) g s x ∧
    w.grownBy ((((W.setCell ⟨w.heap.size, 0, none⟩ a).setCell ⟨w.heap.size, 1, none⟩ b).setCell ⟨w.heap.size, 2, none⟩ c).setCell ⟨w.heap.size, 3, none⟩ d) (some g) :=
  ⟨sc_set (sc_set (sc_set (sc_set hb (by omega) _) (by omega) _) (by omega) _) (by omega) _, gsetNew (gsetNew (gsetNew (gsetNew hg (Nat.le_refl _) _) (Nat.le_refl _) _) (Nat.le_refl _) _) (Nat.le_refl _) _⟩
/-- The zero mark, as a call lays it for its result. -/
def zTok : Obj := .cells #[.int .i64 0, .string ByteArray.empty, .string ByteArray.empty, .slice none 0 0] 27

theorem xml_any (n : ByteArray) (w : World) :
    Calls Tryz.prog 118 #[.string n] w fun e w' => e = .returned (.bool (xmlB n)) ∧ w' = w := by
  by_cases h3 : n.size = 3
  · obtain ⟨b0, hb0⟩ : ∃ b, byteAt n 0 = b := ⟨_, rfl⟩
    obtain ⟨b1, hb1⟩ : ∃ b, byteAt n 1 = b := ⟨_, rfl⟩
    obtain ⟨b2, hb2⟩ : ∃ b, byteAt n 2 = b := ⟨_, rfl⟩
    have i0 : ∀ wx, (Instr.index 9 (.string n) (.int .i64 0)).run Tryz.prog wx = .ok (.int .u8 b0) wx := fun wx => by rw [← hb0]; exact run_index_byte wx 9 n 0 (by omega) Tryz.underlying9
    have i1 : ∀ wx, (Instr.index 9 (.string n) (.int .i64 1)).run Tryz.prog wx = .ok (.int .u8 b1) wx := fun wx => by rw [← hb1]; exact run_index_byte wx 9 n 1 (by omega) Tryz.underlying9
    have i2 : ∀ wx, (Instr.index 9 (.string n) (.int .i64 2)).run Tryz.prog wx = .ok (.int .u8 b2) wx := fun wx => by rw [← hb2]; exact run_index_byte wx 9 n 2 (by omega) Tryz.underlying9
    have hx : xmlB n = (decide (b0 = 120 ∨ b0 = 88) && (decide (b1 = 109 ∨ b1 = 77) && decide (b2 = 108 ∨ b2 = 76))) := by
      unfold xmlB; rw [decide_eq_true h3, hb0, hb1, hb2]; rfl
    rw [hx]
    have h3i : ((n.size : Int) == 3) = true := beq_iff_eq.2 (by omega)
    clear hb0 hb1 hb2 hx
    go_enter Tryz.func118, Tryz.ntmps118
    go_wp2
    all_goals
      go_ret
      exact ⟨ret_bool (by apply Bool.eq_iff_iff.2; simp at *; try omega), rfl⟩
  · have hx : xmlB n = false := by unfold xmlB; rw [decide_eq_false h3]; rfl
    rw [hx]
    have h3i : ((n.size : Int) == 3) = false := beq_eq_false_iff_ne.2 (by omega)
    clear hx
    go_enter Tryz.func118, Tryz.ntmps118
    go_wp2
    go_ret
    exact ⟨rfl, rfl⟩

set_option maxHeartbeats 1000000 in
theorem comment_no (w : World) (g : Nat) (s : ByteArray) (x : Sc) (h : ScBox w g s x) (h0 : x.fl ≠ 0) (hs : s.size ≤ 1048576) (hp : x.pos ≤ s.size) :
    Calls Tryz.prog 92 #[.pointer (some ⟨g, 0, none⟩)] w fun e w' => TkSays w g s (failT x.fl) e w' := by
  have hlt := sc_lt h
  have HG := mkHidT (galloc5 w zTok (some g))
  have HK := mkHidT (tk_alloc w)
  have h1 := sc_alloc h zTok
  have hc := till_no _ g s ⟨#[45, 45]⟩ x h1 h0
  have H1 := mkHidT h1
  clear h h1
  go_enter Tryz.func92, Tryz.ntmps92
  go_wp2_with fail
  refine hc.mono ?_
  rintro e w1 ⟨rfl, hww⟩
  replace hww := mkHidT hww
  replace HK := mkHidT (hww.out.symm ▸ HK.out)
  replace HG := mkHidT (hww.out.symm ▸ HG.out)
  replace H1 := mkHidT (hww.out.symm ▸ H1.out)
  clear hww hc
  go_wp2_with fail
  have hm := must_any _ g s ⟨#[62]⟩ x (sc_alloc H1.out (.cells #[.int .i64 6, .string ByteArray.empty, .string ByteArray.empty, .slice none 0 0] 27)) hs (by decide) hp
  rw [must_no h0] at hm
  refine hm.mono ?_
  rintro e w2 ⟨rfl, hb, hg⟩
  have hK := tk_keep (tk_new w1 6 ByteArray.empty ByteArray.empty (.slice none 0 0)) hg (by have := sc_lt H1.out; omega)
  have hR := tk_keep (tk_keep (g := g) HK.out (galloc5 w1 (.cells #[.int .i64 6, .string ByteArray.empty, .string ByteArray.empty, .slice none 0 0] 27) _) (by omega)) hg (by omega)
  obtain ⟨k0, k1, k2, k3, _, _, _, _⟩ := tkcells hK
  obtain ⟨r0, r1, r2, r3, s0, s1, s2, s3⟩ := tkcells hR
  have HG2 := mkHidT (gtrans5 HG.out (gtrans5 (galloc5 w1 _ _) hg))
  replace hb := mkHidT hb
  clear hK hR hm hg
  go_wp2
  have hF := mkHidT (fin4 hb.out HG2.out hlt (.int .i64 6) (.string ByteArray.empty) (.string ByteArray.empty) (.slice none 0 0))
  refine bodyPost_ret (v := .agg #[.int .i64 6, .string ByteArray.empty, .string ByteArray.empty, .slice none 0 0]) (by simp [results, Tryz.results92, go_sem, r0, r1, r2, r3]) rfl ?_
  exact says_fail h0 hF.out.1 hp hF.out.2
end Go.Proofs.YtefahocflhlgiaaGreatDoor
