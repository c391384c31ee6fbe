import Derived.Test.YtdblemolaojebaaGreatDoorHd15
import Derived.Test.YtdblemolaojebaaGreatDoorPlR
import Derived.Test.YtdblemolaojebaaGreatDoorEaI
import Derived.WalkLawsBesides
set_option maxRecDepth 100000
set_option maxHeartbeats 4000000
set_option linter.unusedVariables false
namespace Go.Proofs.YtdblemolaojebaaGreatDoor
open Go.RowKit Lists Plain7 Plain23 PlainR Go.Lib Ents
open Go.Maps
abbrev srcE (cl : Bool) : Inhabited Hold := ⟨⟨[.bool cl], 60⟩⟩
def aQd (W : World) (g : Nat) (s : ByteArray) (p : Nat) (cl : Bool) : Prop := @aQi (srcE cl) W g s p
theorem aXo {W : World} {g : Nat} {s : ByteArray} {p : Nat} {cl : Bool} (h : aQd W g s p cl) : W.heap[g]? = some (.cells #[.string s, .int .i64 (p : Int), .bool cl] 60) := h
theorem aZl {W : World} {g : Nat} {s : ByteArray} {p : Nat} {cl : Bool} (h : aQd W g s p cl) : W.cell? ⟨g, 0, none⟩ = some (.string s) ∧ W.cell? ⟨g, 1, none⟩ = some (.int .i64 (p : Int)) ∧ W.cell? ⟨g, 2, none⟩ = some (.bool cl) ∧ W.frozen? ⟨g, 1, none⟩ = false := by
 simp [World.cell?, World.frozen?, aXo h]
def aXx : List (Ev × Value) → List Value
 | [] => []
 | x :: l => .int .i64 x.1.kind :: .string x.1.name :: .string x.1.text :: x.2 :: aXx l
theorem evCells_app (a b : List (Ev × Value)) : aXx (a ++ b) = aXx a ++ aXx b := by
 induction a with
 | nil => rfl
 | cons x l ih => simp [aXx, ih]
def aVp (W : World) (B : Nat) (v : Value) (evs : List Ev) : Prop :=
 ∃ vs : List Value, vs.length = evs.length ∧ W.ownsRow B 66 4 v evs.length (aXx (evs.zip vs)) ∧ ∀ x ∈ evs.zip vs, W.ownsRow B 148 2 x.2 x.1.attrs.length (aQ8 x.1.attrs)
def zEntD : DataW Value := .held (.agg #[.string ⟨#[]⟩, .string ⟨#[]⟩])
def aWc (W : World) (mb : Nat) (wi : List ByteArray) : Prop :=
 ∃ D : DataW Value, W.ownsMap Tryz.prog 9 bV7 mb wi.length D ∧ (∀ x : ByteArray, Maps.has D (.string x.data.toList) = inB wi x) ∧ Maps.size D = wi.length ∧ (∀ x : ByteArray, ∃ a b, D.atKey (.string x.data.toList) zEntD = .held (.agg #[.string a, .string b]))
structure Rm (w0 W : World) (r mb : Nat) (st : Rs) (de da ev tx : Value) : Prop where
 box : W.heap[r]? = some (.cells #[de, da, ev, tx, .int .i64 (st.pos : Int), .int .i64 (st.deep : Int), .map (some mb), .int .i64 (st.spent : Int)] 51)
 ents : W.ownsRow w0.heap.size 195 2 de st.dt.ents.length (aQ8 st.dt.ents)
 atts : W.ownsRow w0.heap.size 150 5 da st.dt.atts.length (aJp st.dt.atts)
 evs : aVp W w0.heap.size ev st.evs
 txt : W.ownsRow w0.heap.size 5 1 tx st.txt.length ((numsOf st.txt).map (Value.int .u8))
 map : aWc W mb st.wi
 bel : Below w0.heap.size w0 W
 r0 : w0.heap.size ≤ r
 m0 : w0.heap.size ≤ mb
def RowB (W : World) (k : Nat) : Prop := ∃ cs fr, W.heap[k]? = some (.cells cs 66 fr) ∨ W.heap[k]? = some (.cells cs 5 fr)
structure Fr (W W' : World) (r mb : Nat) (g : Option Nat) : Prop where
 size : W.heap.size ≤ W'.heap.size
 keep : ∀ k, k < W.heap.size → k ≠ r → k ≠ mb → some k ≠ g → ¬ RowB W k → W'.heap[k]? = W.heap[k]?
def aQr (c : Int) : Ending := .panicked [{ v := .iface 53 (.agg #[.int .i64 c]), recovered := false }]
def Fell (w0 : World) (r : Nat) (st : Rs) (c : Int) (e : Ending) (W' : World) : Prop :=
 e = aQr c ∧ (∃ de da ev tx u5 u6 u7, W'.heap[r]? = some (.cells #[de, da, ev, tx, .int .i64 (st.pos : Int), u5, u6, u7] 51) ∧ aVp W' w0.heap.size ev st.evs) ∧ Below w0.heap.size w0 W'
theorem Rm.fell {w0 W : World} {r mb : Nat} {st : Rs} {de da ev tx : Value} (h : Rm w0 W r mb st de da ev tx) (c : Int) : Fell w0 r st c (aQr c) W :=
 ⟨rfl, ⟨_, _, _, _, _, _, _, h.box, h.evs⟩, h.bel⟩
theorem Rm.cells {w0 W : World} {r mb : Nat} {st : Rs} {de da ev tx : Value} (h : Rm w0 W r mb st de da ev tx) :
 (W.cell? ⟨r, 0, none⟩ = some de ∧ W.cell? ⟨r, 1, none⟩ = some da ∧ W.cell? ⟨r, 2, none⟩ = some ev ∧ W.cell? ⟨r, 3, none⟩ = some tx ∧ W.cell? ⟨r, 4, none⟩ = some (.int .i64 (st.pos : Int)) ∧ W.cell? ⟨r, 5, none⟩ = some (.int .i64 (st.deep : Int)) ∧ W.cell? ⟨r, 6, none⟩ = some (.map (some mb)) ∧ W.cell? ⟨r, 7, none⟩ = some (.int .i64 (st.spent : Int))) ∧
 W.frozen? ⟨r, 0, none⟩ = false ∧ W.frozen? ⟨r, 1, none⟩ = false ∧ W.frozen? ⟨r, 2, none⟩ = false ∧ W.frozen? ⟨r, 3, none⟩ = false ∧ W.frozen? ⟨r, 4, none⟩ = false ∧ W.frozen? ⟨r, 5, none⟩ = false ∧ W.frozen? ⟨r, 7, none⟩ = false := by
 simp [World.cell?, World.frozen?, h.box]
theorem Rm.lt {w0 W : World} {r mb : Nat} {st : Rs} {de da ev tx : Value} (h : Rm w0 W r mb st de da ev tx) : r < W.heap.size := (gLt h.box)
theorem aWc.there {W : World} {mb : Nat} {wi : List ByteArray} (h : aWc W mb wi) : ∃ es clock, W.heap[mb]? = some (.map es clock) := by
 obtain ⟨D, ⟨es, clock, h1, _⟩, _⟩ := h
 exact ⟨es, clock, h1⟩
theorem aWc.lt {W : World} {mb : Nat} {wi : List ByteArray} (h : aWc W mb wi) : mb < W.heap.size := by
 obtain ⟨es, clock, h1⟩ := h.there
 exact (gLt h1)
theorem aQ4 {W : World} {B : Nat} {e : TypeId} {size : Nat} {v : Value} {n : Nat} {xs : List Value} (h : W.ownsRow B e size v n xs) {k : Nat} (hk : v.ownBlock = some k) : ∃ cs, W.heap[k]? = some (.cells cs e) ∧ B ≤ k := by
 rcases h.2 with ⟨rfl, _⟩ | ⟨g, cap, cur, rfl, h2, hh, _⟩
 · cases hk
 · have : g = k := Option.some.inj hk
   subst this
   exact ⟨_, hh, h2⟩
theorem aQj {W W' : World} {B : Nat} {e : TypeId} {size : Nat} {v : Value} {n : Nat} {xs : List Value} (h : W.ownsRow B e size v n xs) (hk : ∀ k, v.ownBlock = some k → W'.heap[k]? = W.heap[k]?) : W'.ownsRow B e size v n xs := by
 refine ⟨h.1, ?_⟩
 rcases h.2 with h2 | ⟨g, cap, cur, rfl, h2, hh, h3⟩
 · exact .inl h2
 · exact .inr ⟨g, cap, cur, rfl, h2, (hk g rfl).trans hh, h3⟩
theorem aVp.keep {W W' : World} {B : Nat} {v : Value} {evs : List Ev} (h : aVp W B v evs) (h1 : ∀ (k : Nat) (cs : Array Value), W.heap[k]? = some (Obj.cells cs 66) → v.ownBlock = some k → W'.heap[k]? = W.heap[k]?) (h2 : ∀ (k : Nat) (cs : Array Value), B ≤ k → W.heap[k]? = some (Obj.cells cs 148) → W'.heap[k]? = W.heap[k]?) : aVp W' B v evs := by
 obtain ⟨vs, hl, hr, ha⟩ := h
 refine ⟨vs, hl, aQj hr fun k hk => ?_, fun x hx => aQj (ha x hx) fun k hk => ?_⟩
 · obtain ⟨cs, hc, _⟩ := aQ4 hr hk
   exact h1 k cs hc hk
 · obtain ⟨cs, hc, hb⟩ := aQ4 (ha x hx) hk
   exact h2 k cs hb hc
theorem aWc.keep {W W' : World} {mb : Nat} {wi : List ByteArray} (h : aWc W mb wi) (hk : W'.heap[mb]? = W.heap[mb]?) : aWc W' mb wi := by
 obtain ⟨D, ⟨es, clock, h1, h2⟩, h3⟩ := h
 exact ⟨D, ⟨es, clock, hk.trans h1, h2⟩, h3⟩
def aY9 (t : TypeId) : Prop := t = 51 ∨ t = 66 ∨ t = 5 ∨ t = 148 ∨ t = 195 ∨ t = 150
theorem Rm.keep {w0 W W' : World} {r mb : Nat} {st : Rs} {de da ev tx : Value} (h : Rm w0 W r mb st de da ev tx) (hk : ∀ (k : Nat) (cs : Array Value) (t : TypeId), W.heap[k]? = some (Obj.cells cs t) → aY9 t → W'.heap[k]? = W.heap[k]?) (hm : W'.heap[mb]? = W.heap[mb]?) (hb : Below w0.heap.size w0 W') : Rm w0 W' r mb st de da ev tx := by
 have hrow : ∀ {e : TypeId} {size : Nat} {v : Value} {n : Nat} {xs : List Value}, aY9 e → W.ownsRow w0.heap.size e size v n xs → W'.ownsRow w0.heap.size e size v n xs := fun he ho => aQj ho fun k hk' => by
  obtain ⟨cs, hc, _⟩ := aQ4 ho hk'
  exact hk k cs _ hc he
 exact ⟨(hk r _ _ h.box (by unfold aY9; simp)).trans h.box, hrow (by unfold aY9; simp) h.ents, hrow (by unfold aY9; simp) h.atts, h.evs.keep (fun k cs hc _ => hk k cs _ hc (by unfold aY9; simp)) (fun k cs _ hc => hk k cs _ hc (by unfold aY9; simp)), hrow (by unfold aY9; simp) h.txt, h.map.keep hm, hb, h.r0, h.m0⟩
theorem Rm.below {w0 W W' : World} {r mb : Nat} {st : Rs} {de da ev tx : Value} (h : Rm w0 W r mb st de da ev tx) (hb : Below W.heap.size W W') : Rm w0 W' r mb st de da ev tx :=
 h.keep (fun k _ _ hc _ => hb.block k (gLt hc)) (hb.block _ h.map.lt) (h.bel.trans (hb.mono h.bel.size))
theorem Rm.grew {w0 W W' : World} {r mb : Nat} {st : Rs} {de da ev tx : Value} (h : Rm w0 W r mb st de da ev tx) (hg : W.grownBy W' none) : Rm w0 W' r mb st de da ev tx :=
 h.below ⟨hg.os, hg.tape, hg.output, hg.size, fun k hk => hg.block k hk (by simp)⟩
theorem Rm.off {w0 W W' : World} {r mb : Nat} {st : Rs} {de da ev tx : Value} (h : Rm w0 W r mb st de da ev tx) {g : Nat} (hg : W.grownBy W' (some g)) {cs : Array Value} {t : TypeId} (hc : W.heap[g]? = some (.cells cs t)) (ht : ¬ aY9 t) (h0 : w0.heap.size ≤ g) : Rm w0 W' r mb st de da ev tx := by
 refine h.keep (fun k cs' t' hc' ht' => hg.block k (gLt hc') (fun e => ?_)) (hg.block _ h.map.lt (fun e => ?_)) (h.bel.grown hg h.bel.size (fun k hk => by have := Option.some.inj hk; omega))
 · have e' := Option.some.inj e
   subst e'
   rw [hc] at hc'
   injection (Option.some.inj hc') with _ h2 _
   exact ht (h2 ▸ ht')
 · have e' := Option.some.inj e
   obtain ⟨es, clock, hm⟩ := h.map.there
   rw [e', hc] at hm
   cases hm
theorem Rm.mne {w0 W : World} {r mb : Nat} {st : Rs} {de da ev tx : Value} (h : Rm w0 W r mb st de da ev tx) : mb ≠ r := fun e => by
 obtain ⟨es, clock, hm⟩ := h.map.there
 rw [e, h.box] at hm
 cases hm
theorem Rm.put {w0 W W' : World} {r mb : Nat} {st st' : Rs} {de da ev tx : Value} (h : Rm w0 W r mb st de da ev tx) (hg : W.grownBy W' (some r)) (hbox : W'.heap[r]? = some (.cells #[de, da, ev, tx, .int .i64 (st'.pos : Int), .int .i64 (st'.deep : Int), .map (some mb), .int .i64 (st'.spent : Int)] 51)) (h1 : st'.dt = st.dt) (h2 : st'.evs = st.evs) (h3 : st'.txt = st.txt) (h4 : st'.wi = st.wi) : Rm w0 W' r mb st' de da ev tx := by
 have hbk : ∀ k, k < W.heap.size → k ≠ r → W'.heap[k]? = W.heap[k]? := fun k hk hne => hg.block k hk (fun e => hne (Option.some.inj e))
 have hne : ∀ {k : Nat} {cs : Array Value} {t : TypeId}, W.heap[k]? = some (.cells cs t) → t ≠ 51 → k ≠ r := fun hc ht e => by
  rw [e, h.box] at hc
  injection (Option.some.inj hc) with _ h2 _
  exact ht h2.symm
 have hrow : ∀ {e : TypeId} {size : Nat} {v : Value} {n : Nat} {xs : List Value}, e ≠ 51 → W.ownsRow w0.heap.size e size v n xs → W'.ownsRow w0.heap.size e size v n xs := fun he ho => aQj ho fun k hk' => by
  obtain ⟨cs, hc, _⟩ := aQ4 ho hk'
  exact hbk k (gLt hc) (hne hc he)
 refine ⟨hbox, by rw [h1]; exact hrow (by decide) h.ents, by rw [h1]; exact hrow (by decide) h.atts, by rw [h2]; exact h.evs.keep (fun k cs hc _ => hbk k (gLt hc) (hne hc (by decide))) (fun k cs _ hc => hbk k (gLt hc) (hne hc (by decide))), by rw [h3]; exact hrow (by decide) h.txt, by rw [h4]; exact h.map.keep (hbk _ h.map.lt h.mne), h.bel.grown hg h.bel.size (fun k hk => by have := Option.some.inj hk; have := h.r0; omega), h.r0, h.m0⟩
theorem Rm.setAt {w0 W : World} {r mb : Nat} {st : Rs} {de da ev tx : Value} (h : Rm w0 W r mb st de da ev tx) (p : Nat) {z : Int} (hz : z = (p : Int)) : Rm w0 (W.setCell ⟨r, 4, none⟩ (.int .i64 z)) r mb { st with pos := p } de da ev tx :=
 h.put (aQa _) (by rw [aQ7 h.box, hz]; rfl) rfl rfl rfl rfl
theorem Rm.setDeep {w0 W : World} {r mb : Nat} {st : Rs} {de da ev tx : Value} (h : Rm w0 W r mb st de da ev tx) (p : Nat) {z : Int} (hz : z = (p : Int)) : Rm w0 (W.setCell ⟨r, 5, none⟩ (.int .i64 z)) r mb { st with deep := p } de da ev tx :=
 h.put (aQa _) (by rw [aQ7 h.box, hz]; rfl) rfl rfl rfl rfl
theorem Rm.setSpent {w0 W : World} {r mb : Nat} {st : Rs} {de da ev tx : Value} (h : Rm w0 W r mb st de da ev tx) (p : Nat) {z : Int} (hz : z = (p : Int)) : Rm w0 (W.setCell ⟨r, 7, none⟩ (.int .i64 z)) r mb { st with spent := p } de da ev tx :=
 h.put (aQa _) (by rw [aQ7 h.box, hz]; rfl) rfl rfl rfl rfl
theorem Fr.refl (W : World) (r mb : Nat) (g : Option Nat) : Fr W W r mb g := ⟨Nat.le_refl _, fun _ _ _ _ _ _ => rfl⟩
theorem Fr.trans {W W1 W2 : World} {r mb : Nat} {g g' : Option Nat} (h1 : Fr W W1 r mb g) (h2 : Fr W1 W2 r mb g') (hg : ∀ k, g' = some k → g = some k ∨ W.heap.size ≤ k) : Fr W W2 r mb g := by
 refine ⟨Nat.le_trans h1.size h2.size, fun k hk a b c d => ?_⟩
 have e1 := h1.keep k hk a b c d
 rw [h2.keep k (Nat.lt_of_lt_of_le hk h1.size) a b (fun e => ?_) (fun hr => d ?_), e1]
 · rcases hg k e.symm with h | h
   · exact c h.symm
   · omega
 · obtain ⟨cs, fr, hr⟩ := hr
   rw [e1] at hr
   exact ⟨cs, fr, hr⟩
theorem Fr.grown {W W' : World} {r mb : Nat} {g : Option Nat} {k : Option Nat} (h : W.grownBy W' k) (hk : ∀ j, k = some j → j = r ∨ j = mb ∨ some j = g ∨ RowB W j) : Fr W W' r mb g :=
 ⟨h.size, fun j hj a b c d => h.block j hj (fun e => by rcases hk j e.symm with h | h | h | h <;> contradiction)⟩
theorem Fr.below {W W' : World} {r mb : Nat} {g : Option Nat} (h : Below W.heap.size W W') : Fr W W' r mb g := ⟨h.size, fun k hk _ _ _ _ => h.block k hk⟩
theorem Fr.block {W W' : World} {r mb : Nat} {g : Option Nat} (h : Fr W W' r mb g) {k : Nat} {cs : Array Value} {t : TypeId} (hc : W.heap[k]? = some (.cells cs t)) (h1 : t ≠ 66) (h2 : t ≠ 5) (a : k ≠ r) (b : k ≠ mb) (c : some k ≠ g) : W'.heap[k]? = some (.cells cs t) := by
 rw [h.keep k (gLt hc) a b c (fun ⟨cs', fr, hr⟩ => ?_)]
 · exact hc
 · rw [hc] at hr
   rcases hr with hr | hr
   · injection (Option.some.inj hr) with _ e _; exact h1 e
   · injection (Option.some.inj hr) with _ e _; exact h2 e
open Go.RowKit Go.Lib
open Go.Maps
theorem aX3 (rv : Value) (c : Int) (w : World) : Calls Tryz.prog 24 #[rv, .int .i64 c] w fun e w' => e = aQr c ∧ w' = w := by
 go_enter Tryz.func24, Tryz.ntmps24
 go_wp2
 exact ⟨rfl, rfl, rfl⟩
open Go.RowKit Lists Plain9 Plain10 Plain11 Plain16 PlainR Go.Lib Ents
open Go.Maps
structure Ctx (w0 : World) (m : Int) : Prop where
 env : EnvH w0 m
 et : aV3 w0
def NxSays (w0 W : World) (r mb g : Nat) (s : ByteArray) (cl : Bool) (de da ev tx : Value) (R : Rs × Except Int Tk) (e : Ending) (W' : World) : Prop :=
 match R.2 with
 | .ok T => ∃ av, e = .returned (.agg #[.int .i64 T.kind, .string T.name, .string T.text, av]) ∧ Rm w0 W' r mb R.1 de da ev tx ∧ aQd W' g s T.pos cl ∧ Fr W W' r mb (some g) ∧ W'.ownsRow W.heap.size 148 2 av T.attrs.length (aQ8 T.attrs)
 | .error c => Fell w0 r R.1 c e W'
theorem aWc.len {W : World} {mb : Nat} {wi : List ByteArray} (h : aWc W mb wi) (ty : TypeId) : (Builtin.len_ #[45] ty #[.map (some mb)]).run Tryz.prog W = .ok (.int .i64 (wi.length : Int)) W := by
 obtain ⟨D, hD, _, hs, _⟩ := h
 rw [← hs]
 exact hD.len Tryz.underlying45 ty
theorem bZj : ¬ aY9 60 := by unfold aY9; decide
theorem aKa : ¬ aY9 73 := by unfold aY9; decide
theorem aQd.lt {W : World} {g : Nat} {s : ByteArray} {p : Nat} {cl : Bool} (h : aQd W g s p cl) : g < W.heap.size := (gLt (aXo h))
theorem aQd.keep {W W' : World} {g : Nat} {s : ByteArray} {p : Nat} {cl : Bool} (h : aQd W g s p cl) (hk : W'.heap[g]? = W.heap[g]?) : aQd W' g s p cl := hk.trans (aXo h)
theorem aQd.ner {w0 W : World} {r mb g : Nat} {st : Rs} {de da ev tx : Value} {s : ByteArray} {p : Nat} {cl : Bool} (h : aQd W g s p cl) (hr : Rm w0 W r mb st de da ev tx) : g ≠ r := fun e => by
 have := aXo h
 rw [e, hr.box] at this
 injection (Option.some.inj this) with _ h2 _
 exact absurd h2 (by decide)
theorem bXr (w : World) (r : Option Nat) : w.grownBy w.drew r := ⟨rfl, rfl, rfl, Nat.le_refl _, fun _ _ _ => rfl⟩
theorem bVp {w0 W W1 : World} {r mb g k n : Nat} {st : Rs} {de da ev tx : Value} {s : ByteArray} {p : Nat} {cl : Bool} {kd : Int} {nm t : ByteArray} {v : Value} (R1 : Rm w0 W1 r mb st de da ev tx) (S1 : aQd W1 g s p cl) (F1 : Fr W W1 r mb (some g)) (Z1 : aQt W1 k kd nm t v) (hk : W.heap.size ≤ k) (hk0 : w0.heap.size ≤ k) (hgk : g ≠ k) (a b c d : Value) :
 Rm w0 (((((W1.drewN n).setCell ⟨k, 0, none⟩ a).setCell ⟨k, 1, none⟩ b).setCell ⟨k, 2, none⟩ c).setCell ⟨k, 3, none⟩ d) r mb st de da ev tx ∧ aQd (((((W1.drewN n).setCell ⟨k, 0, none⟩ a).setCell ⟨k, 1, none⟩ b).setCell ⟨k, 2, none⟩ c).setCell ⟨k, 3, none⟩ d) g s p cl ∧
  Fr W (((((W1.drewN n).setCell ⟨k, 0, none⟩ a).setCell ⟨k, 1, none⟩ b).setCell ⟨k, 2, none⟩ c).setCell ⟨k, 3, none⟩ d) r mb (some g) ∧ W1.grownBy (((((W1.drewN n).setCell ⟨k, 0, none⟩ a).setCell ⟨k, 1, none⟩ b).setCell ⟨k, 2, none⟩ c).setCell ⟨k, 3, none⟩ d) (some k) := by
 have hg : W1.grownBy (((((W1.drewN n).setCell ⟨k, 0, none⟩ a).setCell ⟨k, 1, none⟩ b).setCell ⟨k, 2, none⟩ c).setCell ⟨k, 3, none⟩ d) (some k) := aQ3 (aQ3 (aQ3 (aQ3 (aQb W1 n _) (aQa a)) (aQa b)) (aQa c)) (aQa d)
 exact ⟨R1.off hg Z1 aKa hk0, S1.keep (hg.block g S1.lt (fun e => hgk (Option.some.inj e))), F1.trans (Fr.grown (g := some k) hg (fun j hj => .inr (.inr (.inl hj.symm)))) (fun j hj => .inr (by have := Option.some.inj hj; omega)), hg⟩
theorem aVd {w0 W : World} {r mb g : Nat} {st : Rs} {de da ev tx : Value} {s : ByteArray} {p : Nat} {cl : Bool} {m : Int} (hc : Ctx w0 m) (h : Rm w0 W r mb st de da ev tx) (hs : aQd W g s p cl) (hg0 : w0.heap.size ≤ g) (hp : p ≤ s.size) (h4 : s.size ≤ 1048576) (hv : VB s 0) :
 Calls Tryz.prog 17 #[.pointer (some ⟨r, 0, none⟩), .pointer (some ⟨g, 0, none⟩)] W fun e W' => NxSays w0 W r mb g s cl de da ev tx (aXt st s p cl) e W' := by
 obtain ⟨W0, hW0⟩ : ∃ W0, W.alloc zTok = W0 := ⟨_, rfl⟩
 have HW0 : Hid (W.alloc (.cells #[.int .i64 0, .string ⟨#[]⟩, .string ⟨#[]⟩, .slice none 0 0] 73) = W0) := aQ0 hW0
 have hB0 : Below W.heap.size W W0 := by rw [← hW0]; exact bAl
 have hR0 := h.below hB0
 have hS0 := hs.keep (hB0.block g hs.lt)
 have hz0 : W0.heap[W.heap.size]? = some zTok := by rw [← hW0]; exact heap_alloc_new W zTok
 have hsz0 : W0.heap.size = W.heap.size + 1 := by rw [← hW0]; simp
 have hlen := hR0.map.len 3
 obtain ⟨⟨c0, c1, c2, c3, c4, c5, c6, c7⟩, f0, f1, f2, f3, f4, f5, f7⟩ := hR0.cells
 obtain ⟨s0, s1, s2, sf⟩ := aZl hS0
 rw [← HW0.out] at hlen c4 c6 s0 s1 s2 f4
 have HB0 := aQ0 hB0
 have HR0 := aQ0 hR0
 have HS0 := aQ0 hS0
 have HZ0 := aQ0 hz0
 have HSZ := aQ0 hsz0
 have HC := aQ0 hc
 have HV := aQ0 hv
 have hlt0 := h.bel.size
 obtain ⟨R, hRR⟩ : ∃ R, aXt st s p cl = R := ⟨_, rfl⟩
 rw [hRR]
 have HRR := aQ0 hRR
 have hrz : r ≠ W.heap.size := by have := h.lt; omega
 have hgz : g ≠ W.heap.size := by have := hs.lt; omega
 have hner : g ≠ r := hs.ner h
 have hsl := hs.lt
 clear hB0 hR0 hS0 hz0 hsz0 hc hv hRR h hs hW0 c0 c1 c2 c3 c5 c7 f0 f1 f2 f3 f5 f7 sf
 by_cases hw : st.wi = []
 · have hn : ((st.wi.length : Int) == 0) = true := by rw [hw]; rfl
   have HAT := aQ0 (show atZ st p = { st with pos := p } by unfold atZ; rw [if_pos hw])
   clear hw
   go_enter Tryz.func17, Tryz.ntmps17
   go_wp2_with fail
   rw [HW0.out]
   obtain ⟨W1, hW1⟩ : ∃ W1, W0.setCell ⟨r, 4, none⟩ (.int .i64 (p : Int)) = W1 := ⟨_, rfl⟩
   rw [hW1]
   have HW1 := aQ0 hW1
   clear hW1 hn hlen c4 c6 s0 s1 s2 f4
   have R1 : Hid (Rm w0 W1 r mb (atZ st p) de da ev tx) := by rw [← HW1.out, HAT.out]; exact aQ0 (HR0.out.setAt p rfl)
   have S1 : Hid (aQd W1 g s p cl) := by rw [← HW1.out]; exact aQ0 (HS0.out.keep (Below.heap_setCell W0 _ _ g hner))
   have Z1 : Hid (aQt W1 W.heap.size 0 ⟨#[]⟩ ⟨#[]⟩ (.slice none 0 0)) := by rw [← HW1.out]; exact aQ0 ((Below.heap_setCell W0 ⟨r, 4, none⟩ _ W.heap.size (fun e => hrz e.symm)).trans HZ0.out)
   have F1 : Hid (Fr W W1 r mb (some g)) := by rw [← HW1.out]; exact aQ0 ((Fr.below HB0.out).trans (Fr.grown (aQa (w := W0) (g := r) (j := 4) (.int .i64 (p : Int))) (fun j hj => .inl (Option.some.inj hj).symm)) (fun k hk => .inl hk))
   have N1 : Hid (W1.heap.size = W.heap.size + 1) := by rw [← HW1.out]; exact aQ0 (by rw [← HSZ.out]; simp)
   clear HW1 HW0 HB0 HR0 HS0 HZ0 HSZ HAT
   obtain ⟨s0, s1, s2, sf⟩ := aZl S1.out
   obtain ⟨z0, z1, z2, z3, zf0, zf1, zf2, zf3⟩ := aQ6 Z1.out
   by_cases hpe : p = s.size
   · have hpb : ((p : Int) == (s.size : Int)) = true := by rw [hpe]; simp
     cases cl with
     | true =>
      have hR : R = (atZ st p, .ok ⟨0, 0, ⟨#[]⟩, ⟨#[]⟩, [], p⟩) := by rw [← HRR.out]; unfold aXt; rw [if_pos hpe, if_pos rfl]
      subst hR
      go_quiet (fail)
      go_wp2
      refine bodyPost_ret (v := .agg #[.int .i64 0, .string ⟨#[]⟩, .string ⟨#[]⟩, .slice none 0 0]) (by simp [results, Tryz.results17, go_sem, z0, z1, z2, z3]) rfl ?_
      obtain ⟨a1, a2, a3, a4⟩ := bVp (n := nq) R1.out S1.out F1.out Z1.out (Nat.le_refl _) hlt0 hgz (.int .i64 0) (.string ⟨#[]⟩) (.string ⟨#[]⟩) (.slice none 0 0)
      exact ⟨_, rfl, a1, a2, a3, World.ownsRow_nil _ _ _ _⟩
     | false =>
      have hR : R = (atZ st p, .error 4) := by rw [← HRR.out]; unfold aXt; rw [if_pos hpe]; rfl
      subst hR
      have hfl := fun wx => aX3 (.pointer (some ⟨r, 0, none⟩)) 4 wx
      go_quiet (fail)
      go_wp2_with fail
      refine (hfl _).mono ?_
      rintro e w2 ⟨he, rfl⟩
      unfold aQr at he
      subst he
      go_wp2
      exact ⟨rfl, (R1.out.grew (aQb W1 nq none)).fell 4⟩
   · have hpb : ((p : Int) == (s.size : Int)) = false := by simp; omega
     have hpl : p < s.size := by omega
     obtain ⟨T, hT⟩ : ∃ T, tokZ s p cl = T := ⟨_, rfl⟩
     have hfl : T.fl ≤ 3 := by rw [← hT]; unfold tokZ; split; exact markZ_le _ _; exact textZ_le _ _ _
     have HT := aQ0 hT
     clear hT
     go_quiet (fail)
     go_wp2_with fail
     obtain ⟨W2, hW2⟩ : ∃ W2, W1.drewN nq = W2 := ⟨_, rfl⟩
     rw [hW2]
     have hg12 : W1.grownBy W2 none := by rw [← hW2]; exact aQb W1 nq none
     have R2 := aQ0 (R1.out.grew hg12)
     have S2 : Hid (aQd W2 g s p cl) := aQ0 (S1.out.keep (hg12.block g S1.out.lt (by simp)))
     have Z2 : Hid (aQt W2 W.heap.size 0 ⟨#[]⟩ ⟨#[]⟩ (.slice none 0 0)) := aQ0 ((hg12.block _ (bX4 Z1.out) (by simp)).trans Z1.out)
     have F2 : Hid (Fr W W2 r mb (some g)) := aQ0 (F1.out.trans (Fr.grown (g := none) hg12 (fun j hj => by cases hj)) (fun k hk => by cases hk))
     have N2 : Hid (W2.heap.size = W.heap.size + 1) := aQ0 (by rw [← hW2]; exact N1.out)
     have htk : ∀ Wx, Below W2.heap.size W2 Wx → Calls Tryz.prog 32 #[.pointer (some ⟨g, 0, none⟩), .bool cl] Wx fun e w' => @aKw (srcE cl) Wx g s T e w' := fun Wx hb => by
      have := @bJb (srcE cl) Wx g s p m cl (S2.out.keep (hb.block g S2.out.lt)) (HC.out.env.below (R2.out.below hb).bel).env (HC.out.env.farG hg0).1 HV.out h4 hp
      rw [show (if aQ5 s p [60] = true then aJa s p else aWe s p cl) = T from HT.out] at this
      exact this
     clear R1 S1 Z1 F1 N1 hg12 hW2 s0 s1 s2 sf z0 z1 z2 z3 zf0 zf1 zf2 zf3
     obtain ⟨s0, s1, s2, sf⟩ := aZl S2.out
     have hg2 : g ≠ W2.heap.size := by have := S2.out.lt; omega
     go_region_held3 (fun W => W.cell? ⟨g, 2, none⟩ = some (.bool cl)) (first | go_keep | exact s2 | exact aYr hg2 t2) (first | (go_at_call 32; refine (htk _ (by first | exact (Below.refl _ _) | exact (Below.refl _ _).drew | exact ((Below.refl _ _).drew).alloc (by simp) _)).mono ?_; rintro e w3 ⟨kd, nm, tx', ao, an, ac, q, rfl, hb3, hq, hTT, hg3⟩; have S3 : Hid (aQd w3 g s q cl) := aQ0 hb3; obtain ⟨t0, t1, t2, tf⟩ := aZl S3.out; have G3 : Hid (W2.grownBy w3 (some g)) := aQ0 (by first | exact aQ3 (bXr W2 _) hg3 | exact aQ3 (aQ3 (bXr W2 _) (aZg _ _ _)) hg3); have HTT : Hid (T.fl = 0 → kd = T.kind ∧ nm = T.name ∧ tx' = T.text ∧ q = T.pos ∧ w3.ownsRow W.heap.size 148 2 (.slice ao an ac) T.attrs.length (aQ8 T.attrs)) := aQ0 (fun h0 => by obtain ⟨e1, e2, e3, e4, hr⟩ := hTT h0; exact ⟨e1, e2, e3, e4, row_mono hr (by first | (have := N2.out; simp; omega) | (have := N2.out; omega))⟩); first | (have hz3 : aQt w3 W2.heap.size 0 ⟨#[]⟩ ⟨#[]⟩ (.slice none 0 0) := (hg3.block W2.heap.size (by simp) (fun e => hg2 (Option.some.inj e).symm)).trans (heap_alloc_new W2.drew zTok); obtain ⟨y0, y1, y2, y3, yf0, yf1, yf2, yf3⟩ := aQ6 hz3) | skip))
     · obtain ⟨W5, hW5⟩ : ∃ W5, w3.alloc (.cells #[.int .i64 kd, .string nm, .string tx', .slice ao an ac] 73) = W5 := ⟨_, rfl⟩
       rw [hW5]
       have R3 := aQ0 (R2.out.off G3.out (aXo S2.out) bZj hg0)
       have Z3 : Hid (aQt w3 W.heap.size 0 ⟨#[]⟩ ⟨#[]⟩ (.slice none 0 0)) := aQ0 ((G3.out.block _ (bX4 Z2.out) (fun e => hgz (Option.some.inj e).symm)).trans Z2.out)
       have F3 := aQ0 (F2.out.trans (Fr.grown (g := some g) G3.out (fun j hj => .inr (.inr (.inl hj.symm)))) (fun k hk => .inl hk))
       have B35 : Below w3.heap.size w3 W5 := by rw [← hW5]; exact bAl
       have R5 := aQ0 (R3.out.below B35)
       have S5 := aQ0 (S3.out.keep (B35.block g S3.out.lt))
       have Z5 : Hid (aQt W5 W.heap.size 0 ⟨#[]⟩ ⟨#[]⟩ (.slice none 0 0)) := aQ0 ((B35.block _ (bX4 Z3.out)).trans Z3.out)
       have B5 : Hid (aQt W5 w3.heap.size kd nm tx' (.slice ao an ac)) := aQ0 (by rw [← hW5]; exact tk_new _ _ _ _ _)
       have F5 := aQ0 (F3.out.trans (Fr.below (g := none) B35) (fun k hk => by cases hk))
       have O5 : Hid (w3.ownsRow W.heap.size 148 2 (.slice ao an ac) T.attrs.length (aQ8 T.attrs) → W5.ownsRow W.heap.size 148 2 (.slice ao an ac) T.attrs.length (aQ8 T.attrs)) := aQ0 (fun ho => by rw [← hW5]; exact ho.alloc _)
       clear B35 hW5 s0 s1 s2 sf t0 t1 t2 tf hb3 hTT hg3 hq R2 S2 Z2 F2 N2 R3 Z3 F3 S3 G3
       have E5 := aQ0 (HC.out.et.below R5.out.bel)
       obtain ⟨x0, x1, x2, x3, xf0, xf1, xf2, xf3⟩ := aQ6 B5.out
       obtain ⟨z0, z1, z2, z3, zf0, zf1, zf2, zf3⟩ := aQ6 Z5.out
       obtain ⟨v0, v1, v2, vf⟩ := aZl S5.out
       have hcase : T.fl = 0 ∨ T.fl = 1 ∨ T.fl = 2 ∨ T.fl = 3 := by omega
       clear hfl htk
       rcases hcase with hf | hf | hf | hf
       · obtain ⟨e1, e2, e3, e4, hr⟩ := HTT.out hf
         have HO := aQ0 hr
         have hR : R = (atZ st p, .ok T) := by rw [← HRR.out]; unfold aXt; rw [if_neg hpe, HT.out, if_pos hf]
         subst hR
         rw [hf, aXq]
         subst e1 e2 e3 e4
         clear hr HTT
         go_wp2
         refine bodyPost_ret (v := .agg #[.int .i64 T.kind, .string T.name, .string T.text, .slice ao an ac]) (by simp [results, Tryz.results17, go_sem, z0, z1, z2, z3]) rfl ?_
         obtain ⟨a1, a2, a3, a4⟩ := bVp (n := 0) R5.out S5.out F5.out Z5.out (Nat.le_refl _) hlt0 hgz (.int .i64 T.kind) (.string T.name) (.string T.text) (.slice ao an ac)
         exact ⟨_, rfl, a1, a2, a3, aQj (O5.out HO.out) (fun k hk => a4.block k (by obtain ⟨cs, hcs, _⟩ := aQ4 (O5.out HO.out) hk; exact (gLt hcs)) (fun e => by obtain ⟨cs, hcs, _⟩ := aQ4 (O5.out HO.out) hk; rw [Option.some.inj e, Z5.out] at hcs; injection (Option.some.inj hcs) with _ hh _; exact absurd hh (by decide)))⟩
       · have hR : R = (atZ st p, .error (aZf 1 cl)) := by rw [← HRR.out]; unfold aXt; rw [if_neg hpe, HT.out, if_neg (by omega), hf]
         subst hR
         have hfc := fun Wx hx => aQx Wx 1 cl (by decide) (by decide) hx
         have hfail := fun wx => aX3 (.pointer (some ⟨r, 0, none⟩)) (aZf 1 cl) wx
         rw [aZ1] at hfc
         rw [hf, aZ1]
         clear HTT
         go_wp2_with fail
         refine (hfc _ E5.out).mono ?_
         rintro e w6 ⟨rfl, hg6⟩
         have R6 := aQ0 (R5.out.grew hg6)
         clear hfc hg6
         go_wp2_with fail
         refine (hfail _).mono ?_
         rintro e w7 ⟨he, rfl⟩
         unfold aQr at he
         subst he
         go_wp2
         exact ⟨rfl, R6.out.fell _⟩
       · have hR : R = (atZ st p, .error (aZf 2 cl)) := by rw [← HRR.out]; unfold aXt; rw [if_neg hpe, HT.out, if_neg (by omega), hf]
         subst hR
         have hfc := fun Wx hx => aQx Wx 2 cl (by decide) (by decide) hx
         have hfail := fun wx => aX3 (.pointer (some ⟨r, 0, none⟩)) (aZf 2 cl) wx
         rw [aZp] at hfc
         rw [hf, aZp]
         clear HTT
         go_wp2_with fail
         refine (hfc _ E5.out).mono ?_
         rintro e w6 ⟨rfl, hg6⟩
         have R6 := aQ0 (R5.out.grew hg6)
         clear hfc hg6
         go_wp2_with fail
         refine (hfail _).mono ?_
         rintro e w7 ⟨he, rfl⟩
         unfold aQr at he
         subst he
         go_wp2
         exact ⟨rfl, R6.out.fell _⟩
       · have hR : R = (atZ st p, .error (aZf 3 cl)) := by rw [← HRR.out]; unfold aXt; rw [if_neg hpe, HT.out, if_neg (by omega), hf]
         subst hR
         have hfc := fun Wx hx => aQx Wx 3 cl (by decide) (by decide) hx
         have hfail := fun wx => aX3 (.pointer (some ⟨r, 0, none⟩)) (aZf 3 cl) wx
         rw [bW8] at hfc
         rw [hf, bW8]
         clear HTT
         go_wp2_with fail
         refine (hfc _ E5.out).mono ?_
         rintro e w6 ⟨rfl, hg6⟩
         have R6 := aQ0 (R5.out.grew hg6)
         clear hfc hg6
         go_wp2_with fail
         refine (hfail _).mono ?_
         rintro e w7 ⟨he, rfl⟩
         unfold aQr at he
         subst he
         go_wp2
         exact ⟨rfl, R6.out.fell _⟩
     · obtain ⟨W5, hW5⟩ : ∃ W5, (((w3.setCell ⟨W2.heap.size, 0, none⟩ (.int .i64 kd)).setCell ⟨W2.heap.size, 1, none⟩ (.string nm)).setCell ⟨W2.heap.size, 2, none⟩ (.string tx')).setCell ⟨W2.heap.size, 3, none⟩ (.slice ao an ac) = W5 := ⟨_, rfl⟩
       rw [hW5]
       have R3 := aQ0 (R2.out.off G3.out (aXo S2.out) bZj hg0)
       have Z3 : Hid (aQt w3 W.heap.size 0 ⟨#[]⟩ ⟨#[]⟩ (.slice none 0 0)) := aQ0 ((G3.out.block _ (bX4 Z2.out) (fun e => hgz (Option.some.inj e).symm)).trans Z2.out)
       have F3 := aQ0 (F2.out.trans (Fr.grown (g := some g) G3.out (fun j hj => .inr (.inr (.inl hj.symm)))) (fun k hk => .inl hk))
       have G35 : w3.grownBy W5 (some W2.heap.size) := by rw [← hW5]; exact aQ3 (aQ3 (aQ3 (aQa _) (aQa _)) (aQa _)) (aQa _)
       have R5 := aQ0 (R3.out.off G35 hz3 aKa (by have := N2.out; omega))
       have S5 := aQ0 (S3.out.keep (G35.block g S3.out.lt (fun e => hg2 (Option.some.inj e))))
       have Z5 : Hid (aQt W5 W.heap.size 0 ⟨#[]⟩ ⟨#[]⟩ (.slice none 0 0)) := aQ0 ((G35.block _ (bX4 Z3.out) (fun e => by have := Option.some.inj e; have := N2.out; omega)).trans Z3.out)
       have B5 : Hid (aQt W5 W2.heap.size kd nm tx' (.slice ao an ac)) := aQ0 (by rw [← hW5]; unfold aQt; rw [aQ7 (aQ7 (aQ7 (aQ7 hz3 _) _) _) _]; rfl)
       have F5 := aQ0 (F3.out.trans (Fr.grown (g := some W2.heap.size) G35 (fun j hj => .inr (.inr (.inl hj.symm)))) (fun k hk => .inr (by have := Option.some.inj hk; have := N2.out; omega)))
       have O5 : Hid (w3.ownsRow W.heap.size 148 2 (.slice ao an ac) T.attrs.length (aQ8 T.attrs) → W5.ownsRow W.heap.size 148 2 (.slice ao an ac) T.attrs.length (aQ8 T.attrs)) := aQ0 (fun ho => aQj ho (fun k hk => G35.block k (by obtain ⟨cs, hcs, _⟩ := aQ4 ho hk; exact (gLt hcs)) (fun e => by obtain ⟨cs, hcs, _⟩ := aQ4 ho hk; rw [Option.some.inj e, hz3] at hcs; injection (Option.some.inj hcs) with _ hh _; exact absurd hh (by decide))))
       clear G35 hW5 s0 s1 s2 sf t0 t1 t2 tf hb3 hTT hg3 hq R2 S2 Z2 F2 N2 R3 Z3 F3 S3 G3 hz3 y0 y1 y2 y3 yf0 yf1 yf2 yf3
       have E5 := aQ0 (HC.out.et.below R5.out.bel)
       obtain ⟨x0, x1, x2, x3, xf0, xf1, xf2, xf3⟩ := aQ6 B5.out
       obtain ⟨z0, z1, z2, z3, zf0, zf1, zf2, zf3⟩ := aQ6 Z5.out
       obtain ⟨v0, v1, v2, vf⟩ := aZl S5.out
       have hcase : T.fl = 0 ∨ T.fl = 1 ∨ T.fl = 2 ∨ T.fl = 3 := by omega
       clear hfl htk
       rcases hcase with hf | hf | hf | hf
       · obtain ⟨e1, e2, e3, e4, hr⟩ := HTT.out hf
         have HO := aQ0 hr
         have hR : R = (atZ st p, .ok T) := by rw [← HRR.out]; unfold aXt; rw [if_neg hpe, HT.out, if_pos hf]
         subst hR
         rw [hf, aXq]
         subst e1 e2 e3 e4
         clear hr HTT
         go_wp2
         refine bodyPost_ret (v := .agg #[.int .i64 T.kind, .string T.name, .string T.text, .slice ao an ac]) (by simp [results, Tryz.results17, go_sem, z0, z1, z2, z3]) rfl ?_
         obtain ⟨a1, a2, a3, a4⟩ := bVp (n := 0) R5.out S5.out F5.out Z5.out (Nat.le_refl _) hlt0 hgz (.int .i64 T.kind) (.string T.name) (.string T.text) (.slice ao an ac)
         exact ⟨_, rfl, a1, a2, a3, aQj (O5.out HO.out) (fun k hk => a4.block k (by obtain ⟨cs, hcs, _⟩ := aQ4 (O5.out HO.out) hk; exact (gLt hcs)) (fun e => by obtain ⟨cs, hcs, _⟩ := aQ4 (O5.out HO.out) hk; rw [Option.some.inj e, Z5.out] at hcs; injection (Option.some.inj hcs) with _ hh _; exact absurd hh (by decide)))⟩
       · have hR : R = (atZ st p, .error (aZf 1 cl)) := by rw [← HRR.out]; unfold aXt; rw [if_neg hpe, HT.out, if_neg (by omega), hf]
         subst hR
         have hfc := fun Wx hx => aQx Wx 1 cl (by decide) (by decide) hx
         have hfail := fun wx => aX3 (.pointer (some ⟨r, 0, none⟩)) (aZf 1 cl) wx
         rw [aZ1] at hfc
         rw [hf, aZ1]
         clear HTT
         go_wp2_with fail
         refine (hfc _ E5.out).mono ?_
         rintro e w6 ⟨rfl, hg6⟩
         have R6 := aQ0 (R5.out.grew hg6)
         clear hfc hg6
         go_wp2_with fail
         refine (hfail _).mono ?_
         rintro e w7 ⟨he, rfl⟩
         unfold aQr at he
         subst he
         go_wp2
         exact ⟨rfl, R6.out.fell _⟩
       · have hR : R = (atZ st p, .error (aZf 2 cl)) := by rw [← HRR.out]; unfold aXt; rw [if_neg hpe, HT.out, if_neg (by omega), hf]
         subst hR
         have hfc := fun Wx hx => aQx Wx 2 cl (by decide) (by decide) hx
         have hfail := fun wx => aX3 (.pointer (some ⟨r, 0, none⟩)) (aZf 2 cl) wx
         rw [aZp] at hfc
         rw [hf, aZp]
         clear HTT
         go_wp2_with fail
         refine (hfc _ E5.out).mono ?_
         rintro e w6 ⟨rfl, hg6⟩
         have R6 := aQ0 (R5.out.grew hg6)
         clear hfc hg6
         go_wp2_with fail
         refine (hfail _).mono ?_
         rintro e w7 ⟨he, rfl⟩
         unfold aQr at he
         subst he
         go_wp2
         exact ⟨rfl, R6.out.fell _⟩
       · have hR : R = (atZ st p, .error (aZf 3 cl)) := by rw [← HRR.out]; unfold aXt; rw [if_neg hpe, HT.out, if_neg (by omega), hf]
         subst hR
         have hfc := fun Wx hx => aQx Wx 3 cl (by decide) (by decide) hx
         have hfail := fun wx => aX3 (.pointer (some ⟨r, 0, none⟩)) (aZf 3 cl) wx
         rw [bW8] at hfc
         rw [hf, bW8]
         clear HTT
         go_wp2_with fail
         refine (hfc _ E5.out).mono ?_
         rintro e w6 ⟨rfl, hg6⟩
         have R6 := aQ0 (R5.out.grew hg6)
         clear hfc hg6
         go_wp2_with fail
         refine (hfail _).mono ?_
         rintro e w7 ⟨he, rfl⟩
         unfold aQr at he
         subst he
         go_wp2
         exact ⟨rfl, R6.out.fell _⟩
 · have hn : ((st.wi.length : Int) == 0) = false := by
    cases hl : st.wi with
    | nil => exact absurd hl hw
    | cons a l => simp; omega
   have HAT := aQ0 (show atZ st p = st by unfold atZ; rw [if_neg hw])
   clear hw
   go_enter Tryz.func17, Tryz.ntmps17
   go_wp2_with fail
   rw [HW0.out]
   obtain ⟨W1, hW1⟩ : ∃ W1, W0 = W1 := ⟨_, rfl⟩
   rw [hW1]
   have HW1 := aQ0 hW1
   clear hW1 hn hlen c4 c6 s0 s1 s2 f4
   have R1 : Hid (Rm w0 W1 r mb (atZ st p) de da ev tx) := by rw [← HW1.out, HAT.out]; exact aQ0 HR0.out
   have S1 : Hid (aQd W1 g s p cl) := by rw [← HW1.out]; exact aQ0 HS0.out
   have Z1 : Hid (aQt W1 W.heap.size 0 ⟨#[]⟩ ⟨#[]⟩ (.slice none 0 0)) := by rw [← HW1.out]; exact aQ0 HZ0.out
   have F1 : Hid (Fr W W1 r mb (some g)) := by rw [← HW1.out]; exact aQ0 (Fr.below HB0.out)
   have N1 : Hid (W1.heap.size = W.heap.size + 1) := by rw [← HW1.out]; exact aQ0 HSZ.out
   clear HW1 HW0 HB0 HR0 HS0 HZ0 HSZ HAT
   obtain ⟨s0, s1, s2, sf⟩ := aZl S1.out
   obtain ⟨z0, z1, z2, z3, zf0, zf1, zf2, zf3⟩ := aQ6 Z1.out
   by_cases hpe : p = s.size
   · have hpb : ((p : Int) == (s.size : Int)) = true := by rw [hpe]; simp
     cases cl with
     | true =>
      have hR : R = (atZ st p, .ok ⟨0, 0, ⟨#[]⟩, ⟨#[]⟩, [], p⟩) := by rw [← HRR.out]; unfold aXt; rw [if_pos hpe, if_pos rfl]
      subst hR
      go_quiet (fail)
      go_wp2
      refine bodyPost_ret (v := .agg #[.int .i64 0, .string ⟨#[]⟩, .string ⟨#[]⟩, .slice none 0 0]) (by simp [results, Tryz.results17, go_sem, z0, z1, z2, z3]) rfl ?_
      obtain ⟨a1, a2, a3, a4⟩ := bVp (n := nq) R1.out S1.out F1.out Z1.out (Nat.le_refl _) hlt0 hgz (.int .i64 0) (.string ⟨#[]⟩) (.string ⟨#[]⟩) (.slice none 0 0)
      exact ⟨_, rfl, a1, a2, a3, World.ownsRow_nil _ _ _ _⟩
     | false =>
      have hR : R = (atZ st p, .error 4) := by rw [← HRR.out]; unfold aXt; rw [if_pos hpe]; rfl
      subst hR
      have hfl := fun wx => aX3 (.pointer (some ⟨r, 0, none⟩)) 4 wx
      go_quiet (fail)
      go_wp2_with fail
      refine (hfl _).mono ?_
      rintro e w2 ⟨he, rfl⟩
      unfold aQr at he
      subst he
      go_wp2
      exact ⟨rfl, (R1.out.grew (aQb W1 nq none)).fell 4⟩
   · have hpb : ((p : Int) == (s.size : Int)) = false := by simp; omega
     have hpl : p < s.size := by omega
     obtain ⟨T, hT⟩ : ∃ T, tokZ s p cl = T := ⟨_, rfl⟩
     have hfl : T.fl ≤ 3 := by rw [← hT]; unfold tokZ; split; exact markZ_le _ _; exact textZ_le _ _ _
     have HT := aQ0 hT
     clear hT
     go_quiet (fail)
     go_wp2_with fail
     obtain ⟨W2, hW2⟩ : ∃ W2, W1.drewN nq = W2 := ⟨_, rfl⟩
     rw [hW2]
     have hg12 : W1.grownBy W2 none := by rw [← hW2]; exact aQb W1 nq none
     have R2 := aQ0 (R1.out.grew hg12)
     have S2 : Hid (aQd W2 g s p cl) := aQ0 (S1.out.keep (hg12.block g S1.out.lt (by simp)))
     have Z2 : Hid (aQt W2 W.heap.size 0 ⟨#[]⟩ ⟨#[]⟩ (.slice none 0 0)) := aQ0 ((hg12.block _ (bX4 Z1.out) (by simp)).trans Z1.out)
     have F2 : Hid (Fr W W2 r mb (some g)) := aQ0 (F1.out.trans (Fr.grown (g := none) hg12 (fun j hj => by cases hj)) (fun k hk => by cases hk))
     have N2 : Hid (W2.heap.size = W.heap.size + 1) := aQ0 (by rw [← hW2]; exact N1.out)
     have htk : ∀ Wx, Below W2.heap.size W2 Wx → Calls Tryz.prog 32 #[.pointer (some ⟨g, 0, none⟩), .bool cl] Wx fun e w' => @aKw (srcE cl) Wx g s T e w' := fun Wx hb => by
      have := @bJb (srcE cl) Wx g s p m cl (S2.out.keep (hb.block g S2.out.lt)) (HC.out.env.below (R2.out.below hb).bel).env (HC.out.env.farG hg0).1 HV.out h4 hp
      rw [show (if aQ5 s p [60] = true then aJa s p else aWe s p cl) = T from HT.out] at this
      exact this
     clear R1 S1 Z1 F1 N1 hg12 hW2 s0 s1 s2 sf z0 z1 z2 z3 zf0 zf1 zf2 zf3
     obtain ⟨s0, s1, s2, sf⟩ := aZl S2.out
     have hg2 : g ≠ W2.heap.size := by have := S2.out.lt; omega
     go_region_held3 (fun W => W.cell? ⟨g, 2, none⟩ = some (.bool cl)) (first | go_keep | exact s2 | exact aYr hg2 t2) (first | (go_at_call 32; refine (htk _ (by first | exact (Below.refl _ _) | exact (Below.refl _ _).drew | exact ((Below.refl _ _).drew).alloc (by simp) _)).mono ?_; rintro e w3 ⟨kd, nm, tx', ao, an, ac, q, rfl, hb3, hq, hTT, hg3⟩; have S3 : Hid (aQd w3 g s q cl) := aQ0 hb3; obtain ⟨t0, t1, t2, tf⟩ := aZl S3.out; have G3 : Hid (W2.grownBy w3 (some g)) := aQ0 (by first | exact aQ3 (bXr W2 _) hg3 | exact aQ3 (aQ3 (bXr W2 _) (aZg _ _ _)) hg3); have HTT : Hid (T.fl = 0 → kd = T.kind ∧ nm = T.name ∧ tx' = T.text ∧ q = T.pos ∧ w3.ownsRow W.heap.size 148 2 (.slice ao an ac) T.attrs.length (aQ8 T.attrs)) := aQ0 (fun h0 => by obtain ⟨e1, e2, e3, e4, hr⟩ := hTT h0; exact ⟨e1, e2, e3, e4, row_mono hr (by first | (have := N2.out; simp; omega) | (have := N2.out; omega))⟩); first | (have hz3 : aQt w3 W2.heap.size 0 ⟨#[]⟩ ⟨#[]⟩ (.slice none 0 0) := (hg3.block W2.heap.size (by simp) (fun e => hg2 (Option.some.inj e).symm)).trans (heap_alloc_new W2.drew zTok); obtain ⟨y0, y1, y2, y3, yf0, yf1, yf2, yf3⟩ := aQ6 hz3) | skip))
     · obtain ⟨W5, hW5⟩ : ∃ W5, w3.alloc (.cells #[.int .i64 kd, .string nm, .string tx', .slice ao an ac] 73) = W5 := ⟨_, rfl⟩
       rw [hW5]
       have R3 := aQ0 (R2.out.off G3.out (aXo S2.out) bZj hg0)
       have Z3 : Hid (aQt w3 W.heap.size 0 ⟨#[]⟩ ⟨#[]⟩ (.slice none 0 0)) := aQ0 ((G3.out.block _ (bX4 Z2.out) (fun e => hgz (Option.some.inj e).symm)).trans Z2.out)
       have F3 := aQ0 (F2.out.trans (Fr.grown (g := some g) G3.out (fun j hj => .inr (.inr (.inl hj.symm)))) (fun k hk => .inl hk))
       have B35 : Below w3.heap.size w3 W5 := by rw [← hW5]; exact bAl
       have R5 := aQ0 (R3.out.below B35)
       have S5 := aQ0 (S3.out.keep (B35.block g S3.out.lt))
       have Z5 : Hid (aQt W5 W.heap.size 0 ⟨#[]⟩ ⟨#[]⟩ (.slice none 0 0)) := aQ0 ((B35.block _ (bX4 Z3.out)).trans Z3.out)
       have B5 : Hid (aQt W5 w3.heap.size kd nm tx' (.slice ao an ac)) := aQ0 (by rw [← hW5]; exact tk_new _ _ _ _ _)
       have F5 := aQ0 (F3.out.trans (Fr.below (g := none) B35) (fun k hk => by cases hk))
       have O5 : Hid (w3.ownsRow W.heap.size 148 2 (.slice ao an ac) T.attrs.length (aQ8 T.attrs) → W5.ownsRow W.heap.size 148 2 (.slice ao an ac) T.attrs.length (aQ8 T.attrs)) := aQ0 (fun ho => by rw [← hW5]; exact ho.alloc _)
       clear B35 hW5 s0 s1 s2 sf t0 t1 t2 tf hb3 hTT hg3 hq R2 S2 Z2 F2 N2 R3 Z3 F3 S3 G3
       have E5 := aQ0 (HC.out.et.below R5.out.bel)
       obtain ⟨x0, x1, x2, x3, xf0, xf1, xf2, xf3⟩ := aQ6 B5.out
       obtain ⟨z0, z1, z2, z3, zf0, zf1, zf2, zf3⟩ := aQ6 Z5.out
       obtain ⟨v0, v1, v2, vf⟩ := aZl S5.out
       have hcase : T.fl = 0 ∨ T.fl = 1 ∨ T.fl = 2 ∨ T.fl = 3 := by omega
       clear hfl htk
       rcases hcase with hf | hf | hf | hf
       · obtain ⟨e1, e2, e3, e4, hr⟩ := HTT.out hf
         have HO := aQ0 hr
         have hR : R = (atZ st p, .ok T) := by rw [← HRR.out]; unfold aXt; rw [if_neg hpe, HT.out, if_pos hf]
         subst hR
         rw [hf, aXq]
         subst e1 e2 e3 e4
         clear hr HTT
         go_wp2
         refine bodyPost_ret (v := .agg #[.int .i64 T.kind, .string T.name, .string T.text, .slice ao an ac]) (by simp [results, Tryz.results17, go_sem, z0, z1, z2, z3]) rfl ?_
         obtain ⟨a1, a2, a3, a4⟩ := bVp (n := 0) R5.out S5.out F5.out Z5.out (Nat.le_refl _) hlt0 hgz (.int .i64 T.kind) (.string T.name) (.string T.text) (.slice ao an ac)
         exact ⟨_, rfl, a1, a2, a3, aQj (O5.out HO.out) (fun k hk => a4.block k (by obtain ⟨cs, hcs, _⟩ := aQ4 (O5.out HO.out) hk; exact (gLt hcs)) (fun e => by obtain ⟨cs, hcs, _⟩ := aQ4 (O5.out HO.out) hk; rw [Option.some.inj e, Z5.out] at hcs; injection (Option.some.inj hcs) with _ hh _; exact absurd hh (by decide)))⟩
       · have hR : R = (atZ st p, .error (aZf 1 cl)) := by rw [← HRR.out]; unfold aXt; rw [if_neg hpe, HT.out, if_neg (by omega), hf]
         subst hR
         have hfc := fun Wx hx => aQx Wx 1 cl (by decide) (by decide) hx
         have hfail := fun wx => aX3 (.pointer (some ⟨r, 0, none⟩)) (aZf 1 cl) wx
         rw [aZ1] at hfc
         rw [hf, aZ1]
         clear HTT
         go_wp2_with fail
         refine (hfc _ E5.out).mono ?_
         rintro e w6 ⟨rfl, hg6⟩
         have R6 := aQ0 (R5.out.grew hg6)
         clear hfc hg6
         go_wp2_with fail
         refine (hfail _).mono ?_
         rintro e w7 ⟨he, rfl⟩
         unfold aQr at he
         subst he
         go_wp2
         exact ⟨rfl, R6.out.fell _⟩
       · have hR : R = (atZ st p, .error (aZf 2 cl)) := by rw [← HRR.out]; unfold aXt; rw [if_neg hpe, HT.out, if_neg (by omega), hf]
         subst hR
         have hfc := fun Wx hx => aQx Wx 2 cl (by decide) (by decide) hx
         have hfail := fun wx => aX3 (.pointer (some ⟨r, 0, none⟩)) (aZf 2 cl) wx
         rw [aZp] at hfc
         rw [hf, aZp]
         clear HTT
         go_wp2_with fail
         refine (hfc _ E5.out).mono ?_
         rintro e w6 ⟨rfl, hg6⟩
         have R6 := aQ0 (R5.out.grew hg6)
         clear hfc hg6
         go_wp2_with fail
         refine (hfail _).mono ?_
         rintro e w7 ⟨he, rfl⟩
         unfold aQr at he
         subst he
         go_wp2
         exact ⟨rfl, R6.out.fell _⟩
       · have hR : R = (atZ st p, .error (aZf 3 cl)) := by rw [← HRR.out]; unfold aXt; rw [if_neg hpe, HT.out, if_neg (by omega), hf]
         subst hR
         have hfc := fun Wx hx => aQx Wx 3 cl (by decide) (by decide) hx
         have hfail := fun wx => aX3 (.pointer (some ⟨r, 0, none⟩)) (aZf 3 cl) wx
         rw [bW8] at hfc
         rw [hf, bW8]
         clear HTT
         go_wp2_with fail
         refine (hfc _ E5.out).mono ?_
         rintro e w6 ⟨rfl, hg6⟩
         have R6 := aQ0 (R5.out.grew hg6)
         clear hfc hg6
         go_wp2_with fail
         refine (hfail _).mono ?_
         rintro e w7 ⟨he, rfl⟩
         unfold aQr at he
         subst he
         go_wp2
         exact ⟨rfl, R6.out.fell _⟩
     · obtain ⟨W5, hW5⟩ : ∃ W5, (((w3.setCell ⟨W2.heap.size, 0, none⟩ (.int .i64 kd)).setCell ⟨W2.heap.size, 1, none⟩ (.string nm)).setCell ⟨W2.heap.size, 2, none⟩ (.string tx')).setCell ⟨W2.heap.size, 3, none⟩ (.slice ao an ac) = W5 := ⟨_, rfl⟩
       rw [hW5]
       have R3 := aQ0 (R2.out.off G3.out (aXo S2.out) bZj hg0)
       have Z3 : Hid (aQt w3 W.heap.size 0 ⟨#[]⟩ ⟨#[]⟩ (.slice none 0 0)) := aQ0 ((G3.out.block _ (bX4 Z2.out) (fun e => hgz (Option.some.inj e).symm)).trans Z2.out)
       have F3 := aQ0 (F2.out.trans (Fr.grown (g := some g) G3.out (fun j hj => .inr (.inr (.inl hj.symm)))) (fun k hk => .inl hk))
       have G35 : w3.grownBy W5 (some W2.heap.size) := by rw [← hW5]; exact aQ3 (aQ3 (aQ3 (aQa _) (aQa _)) (aQa _)) (aQa _)
       have R5 := aQ0 (R3.out.off G35 hz3 aKa (by have := N2.out; omega))
       have S5 := aQ0 (S3.out.keep (G35.block g S3.out.lt (fun e => hg2 (Option.some.inj e))))
       have Z5 : Hid (aQt W5 W.heap.size 0 ⟨#[]⟩ ⟨#[]⟩ (.slice none 0 0)) := aQ0 ((G35.block _ (bX4 Z3.out) (fun e => by have := Option.some.inj e; have := N2.out; omega)).trans Z3.out)
       have B5 : Hid (aQt W5 W2.heap.size kd nm tx' (.slice ao an ac)) := aQ0 (by rw [← hW5]; unfold aQt; rw [aQ7 (aQ7 (aQ7 (aQ7 hz3 _) _) _) _]; rfl)
       have F5 := aQ0 (F3.out.trans (Fr.grown (g := some W2.heap.size) G35 (fun j hj => .inr (.inr (.inl hj.symm)))) (fun k hk => .inr (by have := Option.some.inj hk; have := N2.out; omega)))
       have O5 : Hid (w3.ownsRow W.heap.size 148 2 (.slice ao an ac) T.attrs.length (aQ8 T.attrs) → W5.ownsRow W.heap.size 148 2 (.slice ao an ac) T.attrs.length (aQ8 T.attrs)) := aQ0 (fun ho => aQj ho (fun k hk => G35.block k (by obtain ⟨cs, hcs, _⟩ := aQ4 ho hk; exact (gLt hcs)) (fun e => by obtain ⟨cs, hcs, _⟩ := aQ4 ho hk; rw [Option.some.inj e, hz3] at hcs; injection (Option.some.inj hcs) with _ hh _; exact absurd hh (by decide))))
       clear G35 hW5 s0 s1 s2 sf t0 t1 t2 tf hb3 hTT hg3 hq R2 S2 Z2 F2 N2 R3 Z3 F3 S3 G3 hz3 y0 y1 y2 y3 yf0 yf1 yf2 yf3
       have E5 := aQ0 (HC.out.et.below R5.out.bel)
       obtain ⟨x0, x1, x2, x3, xf0, xf1, xf2, xf3⟩ := aQ6 B5.out
       obtain ⟨z0, z1, z2, z3, zf0, zf1, zf2, zf3⟩ := aQ6 Z5.out
       obtain ⟨v0, v1, v2, vf⟩ := aZl S5.out
       have hcase : T.fl = 0 ∨ T.fl = 1 ∨ T.fl = 2 ∨ T.fl = 3 := by omega
       clear hfl htk
       rcases hcase with hf | hf | hf | hf
       · obtain ⟨e1, e2, e3, e4, hr⟩ := HTT.out hf
         have HO := aQ0 hr
         have hR : R = (atZ st p, .ok T) := by rw [← HRR.out]; unfold aXt; rw [if_neg hpe, HT.out, if_pos hf]
         subst hR
         rw [hf, aXq]
         subst e1 e2 e3 e4
         clear hr HTT
         go_wp2
         refine bodyPost_ret (v := .agg #[.int .i64 T.kind, .string T.name, .string T.text, .slice ao an ac]) (by simp [results, Tryz.results17, go_sem, z0, z1, z2, z3]) rfl ?_
         obtain ⟨a1, a2, a3, a4⟩ := bVp (n := 0) R5.out S5.out F5.out Z5.out (Nat.le_refl _) hlt0 hgz (.int .i64 T.kind) (.string T.name) (.string T.text) (.slice ao an ac)
         exact ⟨_, rfl, a1, a2, a3, aQj (O5.out HO.out) (fun k hk => a4.block k (by obtain ⟨cs, hcs, _⟩ := aQ4 (O5.out HO.out) hk; exact (gLt hcs)) (fun e => by obtain ⟨cs, hcs, _⟩ := aQ4 (O5.out HO.out) hk; rw [Option.some.inj e, Z5.out] at hcs; injection (Option.some.inj hcs) with _ hh _; exact absurd hh (by decide)))⟩
       · have hR : R = (atZ st p, .error (aZf 1 cl)) := by rw [← HRR.out]; unfold aXt; rw [if_neg hpe, HT.out, if_neg (by omega), hf]
         subst hR
         have hfc := fun Wx hx => aQx Wx 1 cl (by decide) (by decide) hx
         have hfail := fun wx => aX3 (.pointer (some ⟨r, 0, none⟩)) (aZf 1 cl) wx
         rw [aZ1] at hfc
         rw [hf, aZ1]
         clear HTT
         go_wp2_with fail
         refine (hfc _ E5.out).mono ?_
         rintro e w6 ⟨rfl, hg6⟩
         have R6 := aQ0 (R5.out.grew hg6)
         clear hfc hg6
         go_wp2_with fail
         refine (hfail _).mono ?_
         rintro e w7 ⟨he, rfl⟩
         unfold aQr at he
         subst he
         go_wp2
         exact ⟨rfl, R6.out.fell _⟩
       · have hR : R = (atZ st p, .error (aZf 2 cl)) := by rw [← HRR.out]; unfold aXt; rw [if_neg hpe, HT.out, if_neg (by omega), hf]
         subst hR
         have hfc := fun Wx hx => aQx Wx 2 cl (by decide) (by decide) hx
         have hfail := fun wx => aX3 (.pointer (some ⟨r, 0, none⟩)) (aZf 2 cl) wx
         rw [aZp] at hfc
         rw [hf, aZp]
         clear HTT
         go_wp2_with fail
         refine (hfc _ E5.out).mono ?_
         rintro e w6 ⟨rfl, hg6⟩
         have R6 := aQ0 (R5.out.grew hg6)
         clear hfc hg6
         go_wp2_with fail
         refine (hfail _).mono ?_
         rintro e w7 ⟨he, rfl⟩
         unfold aQr at he
         subst he
         go_wp2
         exact ⟨rfl, R6.out.fell _⟩
       · have hR : R = (atZ st p, .error (aZf 3 cl)) := by rw [← HRR.out]; unfold aXt; rw [if_neg hpe, HT.out, if_neg (by omega), hf]
         subst hR
         have hfc := fun Wx hx => aQx Wx 3 cl (by decide) (by decide) hx
         have hfail := fun wx => aX3 (.pointer (some ⟨r, 0, none⟩)) (aZf 3 cl) wx
         rw [bW8] at hfc
         rw [hf, bW8]
         clear HTT
         go_wp2_with fail
         refine (hfc _ E5.out).mono ?_
         rintro e w6 ⟨rfl, hg6⟩
         have R6 := aQ0 (R5.out.grew hg6)
         clear hfc hg6
         go_wp2_with fail
         refine (hfail _).mono ?_
         rintro e w7 ⟨he, rfl⟩
         unfold aQr at he
         subst he
         go_wp2
         exact ⟨rfl, R6.out.fell _⟩
open Go.RowKit Plain7 Plain23 PlainR Go.Lib Ents
open Go.Maps
theorem Rm.re {w0 W W' : World} {r mb : Nat} {st st' : Rs} {de da ev tx ev' tx' : Value} (h : Rm w0 W r mb st de da ev tx) (hbox : W'.heap[r]? = some (.cells #[de, da, ev', tx', .int .i64 (st'.pos : Int), .int .i64 (st'.deep : Int), .map (some mb), .int .i64 (st'.spent : Int)] 51))
 (hk : ∀ (k : Nat) (cs : Array Value) (t : TypeId), W.heap[k]? = some (Obj.cells cs t) → t = 195 ∨ t = 150 → W'.heap[k]? = W.heap[k]?) (hm : W'.heap[mb]? = W.heap[mb]?) (hb : Below w0.heap.size w0 W') (he : aVp W' w0.heap.size ev' st'.evs) (ht : W'.ownsRow w0.heap.size 5 1 tx' st'.txt.length ((numsOf st'.txt).map (Value.int .u8))) (hd : st'.dt = st.dt) (hw : st'.wi = st.wi) : Rm w0 W' r mb st' de da ev' tx' := by
 refine ⟨hbox, ?_, ?_, he, ht, by rw [hw]; exact h.map.keep hm, hb, h.r0, h.m0⟩
 · rw [hd]; exact aQj h.ents fun k hk' => by obtain ⟨cs, hc, _⟩ := aQ4 h.ents hk'; exact hk k cs _ hc (.inl rfl)
 · rw [hd]; exact aQj h.atts fun k hk' => by obtain ⟨cs, hc, _⟩ := aQ4 h.atts hk'; exact hk k cs _ hc (.inr rfl)
theorem aQe {W : World} {k k' : Nat} {cs cs' : Array Value} {t t' : TypeId} (h : W.heap[k]? = some (.cells cs t)) (h' : W.heap[k']? = some (.cells cs' t')) (hne : t ≠ t') : k ≠ k' := fun e => by
 rw [e, h'] at h
 injection (Option.some.inj h) with _ h2 _
 exact hne h2.symm
theorem aJb {W : World} {k mb : Nat} {cs : Array Value} {t : TypeId} {wi : List ByteArray} (h : W.heap[k]? = some (.cells cs t)) (hm : aWc W mb wi) : k ≠ mb := fun e => by
 obtain ⟨es, clock, h2⟩ := hm.there
 rw [e, h2] at h
 cases h
theorem Rm.turn {w0 W Wa : World} {r mb : Nat} {st : Rs} {de da ev tx : Value} (h : Rm w0 W r mb st de da ev tx) {e : TypeId} {size n : Nat} {v : Value} {xs : List Value} (hr : W.ownsRow w0.heap.size e size v n xs) (hg : W.grownBy Wa v.ownBlock) (he : e ≠ 51) (j : Nat) (u : Value) :
 (Wa.setCell ⟨r, j, none⟩ u).heap[r]? = some (.cells (#[de, da, ev, tx, .int .i64 (st.pos : Int), .int .i64 (st.deep : Int), .map (some mb), .int .i64 (st.spent : Int)].setIfInBounds j u) 51) ∧
 (∀ (k : Nat) (cs : Array Value) (t : TypeId), W.heap[k]? = some (Obj.cells cs t) → t ≠ e → t ≠ 51 → (Wa.setCell ⟨r, j, none⟩ u).heap[k]? = W.heap[k]?) ∧ (Wa.setCell ⟨r, j, none⟩ u).heap[mb]? = W.heap[mb]? ∧ Below w0.heap.size w0 (Wa.setCell ⟨r, j, none⟩ u) ∧ (∀ k, k ≠ r → (Wa.setCell ⟨r, j, none⟩ u).heap[k]? = Wa.heap[k]?) := by
 have hva : ∀ {k : Nat} {cs : Array Value} {t : TypeId}, W.heap[k]? = some (Obj.cells cs t) → t ≠ e → Wa.heap[k]? = W.heap[k]? := fun hc ht => hg.block _ (gLt hc) (fun ek => by
  obtain ⟨cs', hc', _⟩ := aQ4 hr ek.symm
  exact aQe hc hc' ht rfl)
 refine ⟨aQ7 ((hva h.box (fun e' => he e'.symm)).trans h.box) u, fun k cs t hc ht htr => ?_, ?_, ?_, fun k hk => Below.heap_setCell Wa ⟨r, j, none⟩ u k hk⟩
 · rw [Below.heap_setCell Wa ⟨r, j, none⟩ u k (aQe hc h.box htr)]; exact hva hc ht
 · rw [Below.heap_setCell Wa ⟨r, j, none⟩ u mb h.mne]
   exact hg.block _ h.map.lt (fun ek => by
    obtain ⟨cs', hc', _⟩ := aQ4 hr ek.symm
    exact aJb hc' h.map rfl)
 · have hb := h.bel.grown hg h.bel.size (fun k hk => (aQ4 hr hk).choose_spec.2)
   have := h.r0
   exact ⟨hb.os, hb.tape, hb.output, by have := hb.size; simpa using this, fun i hi => by rw [Below.heap_setCell Wa ⟨r, j, none⟩ u i (by simp only; omega)]; exact hb.block i hi⟩
theorem row_is {W : World} {B : Nat} {size n : Nat} {v : Value} {xs : List Value} {e : TypeId} (h : W.ownsRow B e size v n xs) (he : e = 66 ∨ e = 5) {k : Nat} (hk : v.ownBlock = some k) : RowB W k := by
 obtain ⟨cs, hc, _⟩ := aQ4 h hk
 rcases he with rfl | rfl
 · exact ⟨cs, _, .inl hc⟩
 · exact ⟨cs, _, .inr hc⟩
theorem Fr.turn {W Wa : World} {r mb B : Nat} {e : TypeId} {size n : Nat} {v : Value} {xs : List Value} (hr : W.ownsRow B e size v n xs) (hg : W.grownBy Wa v.ownBlock) (he : e = 66 ∨ e = 5) (j : Nat) (u : Value) (g : Option Nat) : Fr W (Wa.setCell ⟨r, j, none⟩ u) r mb g :=
 ⟨by have := hg.size; simpa using this, fun k hk a b c d => by
  rw [Below.heap_setCell Wa ⟨r, j, none⟩ u k a]
  exact hg.block k hk (fun ek => d (row_is hr he ek.symm))⟩
theorem zip_snoc {evs : List Ev} {vs : List Value} (hl : vs.length = evs.length) (E : Ev) (av : Value) : (evs ++ [E]).zip (vs ++ [av]) = evs.zip vs ++ [(E, av)] := by
 rw [List.zip_append hl.symm]; rfl
theorem Rm.addEv {w0 W Wa : World} {r mb : Nat} {st : Rs} {de da ev tx : Value} (h : Rm w0 W r mb st de da ev tx) {vs : List Value} (hl : vs.length = st.evs.length) (hr : W.ownsRow w0.heap.size 66 4 ev st.evs.length (aXx (st.evs.zip vs))) (ha : ∀ x ∈ st.evs.zip vs, W.ownsRow w0.heap.size 148 2 x.2 x.1.attrs.length (aQ8 x.1.attrs))
 (hg : W.grownBy Wa ev.ownBlock) {E : Ev} {av v' : Value} (ho : Wa.ownsRow w0.heap.size 66 4 v' (st.evs.length + 1) (aXx (st.evs.zip vs) ++ [.int .i64 E.kind, .string E.name, .string E.text, av])) (hav : W.ownsRow w0.heap.size 148 2 av E.attrs.length (aQ8 E.attrs)) :
 Rm w0 (Wa.setCell ⟨r, 2, none⟩ v') r mb { st with evs := st.evs ++ [E] } de da v' tx ∧ Fr W (Wa.setCell ⟨r, 2, none⟩ v') r mb none := by
 obtain ⟨t1, t2, t3, t4, t5⟩ := h.turn hr hg (by decide) 2 v'
 have hat : ∀ {k : Nat} {cs : Array Value}, W.heap[k]? = some (Obj.cells cs 148) → (Wa.setCell ⟨r, 2, none⟩ v').heap[k]? = W.heap[k]? := fun hc => t2 _ _ _ hc (by decide) (by decide)
 refine ⟨h.re t1 (fun k cs t hc ht => t2 k cs t hc (by rcases ht with rfl | rfl <;> decide) (by rcases ht with rfl | rfl <;> decide)) t3 t4 ⟨vs ++ [av], by simp [hl], ?_, ?_⟩ ?_ rfl rfl, Fr.turn hr hg (.inl rfl) 2 v' none⟩
 · rw [zip_snoc hl, evCells_app, List.length_append]
   exact aQj ho fun k hk => t5 k (fun e => by
    obtain ⟨cs, hc, _⟩ := aQ4 ho hk
    have hb : Wa.heap[r]? = some (.cells #[de, da, ev, tx, .int .i64 (st.pos : Int), .int .i64 (st.deep : Int), .map (some mb), .int .i64 (st.spent : Int)] 51) := by
     rw [hg.block r h.lt (fun er => by obtain ⟨cs', hc', _⟩ := aQ4 hr er.symm; exact aQe h.box hc' (by decide) rfl)]; exact h.box
    exact aQe hc hb (by decide) e)
 · intro x hx
   rw [zip_snoc hl] at hx
   rcases List.mem_append.1 hx with hx | hx
   · exact aQj (ha x hx) fun k hk => by obtain ⟨cs, hc, _⟩ := aQ4 (ha x hx) hk; exact hat hc
   · have : x = (E, av) := by simpa using hx
     subst this
     exact aQj hav fun k hk => by obtain ⟨cs, hc, _⟩ := aQ4 hav hk; exact hat hc
 · exact aQj h.txt fun k hk => by obtain ⟨cs, hc, _⟩ := aQ4 h.txt hk; exact t2 k cs _ hc (by decide) (by decide)
theorem Rm.noTxt {w0 W : World} {r mb : Nat} {st : Rs} {de da ev tx : Value} (h : Rm w0 W r mb st de da ev tx) : Rm w0 (W.setCell ⟨r, 3, none⟩ (.slice none 0 0)) r mb { st with txt := [] } de da ev (.slice none 0 0) ∧ Fr W (W.setCell ⟨r, 3, none⟩ (.slice none 0 0)) r mb none := by
 have hg : W.grownBy W (Value.slice none 0 0).ownBlock := ⟨rfl, rfl, rfl, Nat.le_refl _, fun _ _ _ => rfl⟩
 have hr : W.ownsRow w0.heap.size 5 1 (.slice none 0 0) 0 [] := World.ownsRow_nil _ _ _ _
 obtain ⟨t1, t2, t3, t4, t5⟩ := h.turn hr hg (by decide) 3 (.slice none 0 0)
 have hne : ∀ {k : Nat} {cs : Array Value} {t : TypeId}, W.heap[k]? = some (Obj.cells cs t) → t ≠ 51 → (W.setCell ⟨r, 3, none⟩ (.slice none 0 0)).heap[k]? = W.heap[k]? := fun hc ht => t5 _ (aQe hc h.box ht)
 exact ⟨h.re t1 (fun k cs t hc ht => hne hc (by rcases ht with rfl | rfl <;> decide)) t3 t4 (h.evs.keep (fun k cs hc _ => hne hc (by decide)) (fun k cs _ hc => hne hc (by decide))) (World.ownsRow_nil _ _ _ _) rfl rfl, Fr.turn hr hg (.inr rfl) 3 _ none⟩
theorem Rm.addTx {w0 W Wa : World} {r mb : Nat} {st : Rs} {de da ev tx : Value} (h : Rm w0 W r mb st de da ev tx) (hg : W.grownBy Wa tx.ownBlock) {v' : Value} {l : List UInt8} (ho : Wa.ownsRow w0.heap.size 5 1 v' (st.txt ++ l).length ((numsOf (st.txt ++ l)).map (Value.int .u8))) :
 Rm w0 (Wa.setCell ⟨r, 3, none⟩ v') r mb { st with txt := st.txt ++ l } de da ev v' ∧ Fr W (Wa.setCell ⟨r, 3, none⟩ v') r mb none := by
 obtain ⟨t1, t2, t3, t4, t5⟩ := h.turn h.txt hg (by decide) 3 v'
 refine ⟨h.re t1 (fun k cs t hc ht => t2 k cs t hc (by rcases ht with rfl | rfl <;> decide) (by rcases ht with rfl | rfl <;> decide)) t3 t4 (h.evs.keep (fun k cs hc _ => t2 k cs _ hc (by decide) (by decide)) (fun k cs _ hc => t2 k cs _ hc (by decide) (by decide))) ?_ rfl rfl, Fr.turn h.txt hg (.inr rfl) 3 v' none⟩
 exact aQj ho fun k hk => t5 k (fun e => by
  obtain ⟨cs, hc, _⟩ := aQ4 ho hk
  have hb : Wa.heap[r]? = some (.cells #[de, da, ev, tx, .int .i64 (st.pos : Int), .int .i64 (st.deep : Int), .map (some mb), .int .i64 (st.spent : Int)] 51) := by
   rw [hg.block r h.lt (fun er => by obtain ⟨cs', hc', _⟩ := aQ4 h.txt er.symm; exact aQe h.box hc' (by decide) rfl)]; exact h.box
  exact aQe hc hb (by decide) e)
open Go.RowKit Lists Bytes Plain7 Plain23 PlainR Go.Lib Ents
open Go.Maps
theorem infoEv : (Tryz.prog.info? 66).map (fun i => (i.zero, i.size, i.bytes)) = some (some (.agg #[.int .i64 0, .string ⟨#[]⟩, .string ⟨#[]⟩, .slice none 0 0]), 4, 64) := by kernel_rfl
theorem aWt (w : World) (a b c e : Value) (t : TypeId) (n : Nat) (hn : n = w.heap.size) : ∀ j u, [a, b, c, e][j]? = some u → (w.alloc (.cells #[a, b, c, e] t)).cell? ((⟨n, 0, none⟩ : Addr).add j) = some u := by
 subst hn
 intro j u hj
 match j, hj with
 | 0, hj => simp at hj; subst hj; simp [Addr.add]
 | 1, hj => simp at hj; subst hj; simp [Addr.add]
 | 2, hj => simp at hj; subst hj; simp [Addr.add]
 | 3, hj => simp at hj; subst hj; simp [Addr.add]
 | (j + 4), hj => simp at hj
theorem Rm.cellsOf {w0 W Wa : World} {r mb : Nat} {st : Rs} {de da ev tx : Value} (h : Rm w0 W r mb st de da ev tx) {e : TypeId} {size n : Nat} {v : Value} {xs : List Value} (hr : W.ownsRow w0.heap.size e size v n xs) (hg : W.grownBy Wa v.ownBlock) (he : e ≠ 51) :
 Wa.cell? ⟨r, 2, none⟩ = some ev ∧ Wa.cell? ⟨r, 3, none⟩ = some tx ∧ Wa.frozen? ⟨r, 2, none⟩ = false ∧ Wa.frozen? ⟨r, 3, none⟩ = false := by
 have hb : Wa.heap[r]? = some (.cells #[de, da, ev, tx, .int .i64 (st.pos : Int), .int .i64 (st.deep : Int), .map (some mb), .int .i64 (st.spent : Int)] 51) := by
  rw [hg.block r h.lt (fun er => by obtain ⟨cs', hc', _⟩ := aQ4 hr er.symm; exact aQe h.box hc' (fun e' => he e'.symm) rfl)]; exact h.box
 simp [World.cell?, World.frozen?, hb]
theorem bK7 {w : World} {B n : Nat} {l : List UInt8} {v : Value} (h : w.ownsRow B 5 1 v n ((numsOf l).map (Value.int .u8))) : (convert 22 9 v).run Tryz.prog w = .ok (.string ⟨l.toArray⟩) w := by
 rw [bZb (P := Tryz.prog) (src := 22) (dst := 9) Tryz.underlying22 Tryz.underlying5 Tryz.underlying9 h, strOf_nums]
def Goes (w0 W : World) (r mb : Nat) (g : Option Nat) (st : Rs) (de da : Value) (W' : World) : Prop :=
 ∃ ev tx, Rm w0 W' r mb st de da ev tx ∧ Fr W W' r mb g
theorem bZ2 {w0 W : World} {r mb : Nat} {st : Rs} {de da ev tx av : Value} {E : Ev} (h : Rm w0 W r mb st de da ev tx) (hav : W.ownsRow w0.heap.size 148 2 av E.attrs.length (aQ8 E.attrs)) (hel : st.evs.length ≤ 1048576) (htl : st.txt.length ≤ 1048576) :
 Calls Tryz.prog 33 #[.pointer (some ⟨r, 0, none⟩), .agg #[.int .i64 E.kind, .string E.name, .string E.text, av]] W fun e W' => e = .returned (.tuple #[]) ∧ Goes w0 W r mb none (bX6 st E) de da W' := by
 obtain ⟨i0, hi, hz0, hz1, hz2⟩ := info_parts infoEv
 obtain ⟨W0, hW0⟩ : ∃ W0, W.alloc (.cells #[.int .i64 E.kind, .string E.name, .string E.text, av] 66) = W0 := ⟨_, rfl⟩
 have HW0 := aQ0 hW0
 have hB0 : Below W.heap.size W W0 := by rw [← hW0]; exact bAl
 have R0 := aQ0 (h.below hB0)
 have A0 := aQ0 (aQj hav (fun k hk => hB0.block k (by obtain ⟨cs, hc, _⟩ := aQ4 hav hk; exact (gLt hc))))
 have E0 : Hid (W0.heap[W.heap.size]? = some (.cells #[.int .i64 E.kind, .string E.name, .string E.text, av] 66)) := aQ0 (by rw [← hW0]; exact heap_alloc_new _ _)
 have F0 := aQ0 (Fr.below (r := r) (mb := mb) (g := none) hB0)
 have hrz : r ≠ W.heap.size := by have := h.lt; omega
 have hmz : mb ≠ W.heap.size := by have := h.map.lt; omega
 have hb0 := h.bel.size
 obtain ⟨ao, cv, hev⟩ := aQh (h.evs.choose_spec.2.1)
 obtain ⟨at', ct, htx⟩ := aQh h.txt
 have EVL : Hid (∀ k, ev.ownBlock = some k → k < W.heap.size) := aQ0 (fun k hk => by obtain ⟨vs, hl, hr, _⟩ := h.evs; obtain ⟨cs, hc, _⟩ := aQ4 hr hk; exact (gLt hc))
 subst hev htx
 obtain ⟨aa, ac, hav2⟩ := aQh A0.out
 obtain ⟨an, han⟩ : ∃ an, E.attrs.length = an := ⟨_, rfl⟩
 rw [han] at hav2
 subst hav2
 have HAN := aQ0 han
 clear han
 obtain ⟨⟨c0, c1, c2, c3, c4, c5, c6, c7⟩, f0, f1, f2, f3, f4, f5, f7⟩ := R0.out.cells
 rw [← HW0.out] at c2 c3 f2 f3
 have hz0' : W0.heap.size = W.heap.size + 1 := by rw [← hW0]; simp
 have HZ := aQ0 hz0'
 clear hB0 hW0 h hav hz0' c0 c1 c4 c5 c6 c7 f0 f1 f4 f5 f7
 by_cases ht : st.txt = []
 · have htb : ¬ (st.txt.length : Int) > 0 := by rw [ht]; simp
   have HTE := aQ0 (show bX6 st E = { st with evs := st.evs ++ [E] } by unfold bX6; rw [if_pos ht]; cases st; simp_all)
   go_enter Tryz.func33, Tryz.ntmps33
   go_wp2_with fail
   rw [HW0.out]
   clear HW0 c2 c3 f2 f3
   obtain ⟨vs, hvl, hvr, hva⟩ := R0.out.evs
   have HVA : Hid (∀ x ∈ (st).evs.zip vs, (W0.drew.alloc (.cells #[.int .i64 E.kind, .string E.name, .string E.text, .slice aa an ac] 66)).ownsRow w0.heap.size 148 2 x.2 x.1.attrs.length (aQ8 x.1.attrs)) := aQ0 (fun x hx => (hva x hx).drew.alloc _)
   have ROW : Hid ((W0.drew.alloc (.cells #[.int .i64 E.kind, .string E.name, .string E.text, .slice aa an ac] 66)).ownsRow w0.heap.size 66 4 (.slice ao st.evs.length cv) (st).evs.length (aXx ((st).evs.zip vs))) := aQ0 (hvr.drew.alloc _)
   have RD := aQ0 (R0.out.below (((Below.refl _ _).drew).alloc (Nat.le_refl _) (.cells #[.int .i64 E.kind, .string E.name, .string E.text, .slice aa an ac] 66)))
   have hbs := R0.out.bel.size
   clear hvr hva
   obtain ⟨⟨c0, c1, c2, c3, c4, c5, c6, c7⟩, f0, f1, f2, f3, f4, f5, f7⟩ := R0.out.cells
   have c2a : (W0.alloc (.cells #[.int .i64 E.kind, .string E.name, .string E.text, .slice aa an ac] 66)).cell? ⟨r, 2, none⟩ = some (.slice ao st.evs.length cv) := (World.cell?_of_block (a := ⟨r, 2, none⟩) (heap_alloc_old _ _ R0.out.lt)).trans c2
   have c3a : (W0.alloc (.cells #[.int .i64 E.kind, .string E.name, .string E.text, .slice aa an ac] 66)).cell? ⟨r, 3, none⟩ = W0.cell? ⟨r, 3, none⟩ := World.cell?_of_block (a := ⟨r, 3, none⟩) (heap_alloc_old _ _ R0.out.lt)
   rw [c3] at c3a
   clear c0 c1 c4 c5 c6 c7 f0 f1 f3 f4 f5 f7
   have b0 : W0.cell? ⟨W.heap.size, 0, none⟩ = some (.int .i64 E.kind) ∧ W0.cell? ⟨W.heap.size, 1, none⟩ = some (.string E.name) ∧ W0.cell? ⟨W.heap.size, 2, none⟩ = some (.string E.text) ∧ W0.cell? ⟨W.heap.size, 3, none⟩ = some (.slice aa an ac) := by simp [World.cell?, E0.out]
   obtain ⟨b0, b1, b2, b3⟩ := b0
   go_region_law (refine aXu rfl (.tmp 32) (.tmp 34) 25 rfl w0.heap.size 66 i0 (.agg #[.int .i64 0, .string ⟨#[]⟩, .string ⟨#[]⟩, .slice none 0 0]) 4 64 Tryz.underlying25 hi hz0 hz1 hz2 rfl (by decide) (.slice ao st.evs.length cv) (st).evs.length (aXx ((st).evs.zip vs)) (by simp [Act.eval]) ROW.out ⟨W0.heap.size, 0, none⟩ 1 1 [.int .i64 E.kind, .string E.name, .string E.text, .slice aa an ac] (by simp [Act.eval]) rfl (aWt W0.drew _ _ _ _ _ W0.heap.size rfl) (by intro u hu; simp at hu; rcases hu with rfl | rfl | rfl | rfl <;> rfl) (by unfold maxLen; omega) (by omega) (by simp; omega) ?_; intro v' wa hoa hga; obtain ⟨ao', cv', hv'⟩ := aQh hoa; subst hv'; obtain ⟨d2, d3, e2, e3⟩ := RD.out.cellsOf ROW.out hga (by decide); replace hoa := aQ0 hoa; replace hga := aQ0 hga)
   all_goals
    go_end0
    obtain ⟨a1, a2⟩ := RD.out.addEv hvl ROW.out HVA.out hga.out (E := E) hoa.out (A0.out.drew.alloc _)
    rw [HTE.out]
    exact ⟨rfl, _, _, a1, (F0.out.trans (Fr.below (g := none) (((Below.refl _ _).drew).alloc (Nat.le_refl _) (.cells #[.int .i64 E.kind, .string E.name, .string E.text, .slice aa an ac] 66))) (fun k hk => by cases hk)).trans a2 (fun k hk => by cases hk)⟩
 · have htb : (st.txt.length : Int) > 0 := by
    have : st.txt.length ≠ 0 := fun e => ht (List.eq_nil_of_length_eq_zero e)
    omega
   have HTE := aQ0 (show bX6 st E = { st with evs := (st.evs ++ [⟨3, ⟨#[]⟩, ⟨st.txt.toArray⟩, []⟩]) ++ [E], txt := [] } by unfold bX6; rw [if_neg ht])
   have hcv1 := bK7 R0.out.txt
   have hcv2 := bK7 R0.out.txt.drew
   obtain ⟨X, hX⟩ : ∃ X : ByteArray, (⟨st.txt.toArray⟩ : ByteArray) = X := ⟨_, rfl⟩
   rw [hX] at hcv1 hcv2 HTE
   have HCV1 := aQ0 hcv1
   have HCV2 := aQ0 hcv2
   clear hX
   go_enter Tryz.func33, Tryz.ntmps33
   go_wp2_with fail
   rw [HW0.out]
   clear HW0 c2 c3 f2 f3
   obtain ⟨vs, hvl, hvr, hva⟩ := R0.out.evs
   have HVA : Hid (∀ x ∈ (st).evs.zip vs, (W0.drew.alloc (.cells #[.int .i64 3, .string ⟨#[]⟩, .string X, .slice none 0 0] 66)).ownsRow w0.heap.size 148 2 x.2 x.1.attrs.length (aQ8 x.1.attrs)) := aQ0 (fun x hx => (hva x hx).drew.alloc _)
   have ROW : Hid ((W0.drew.alloc (.cells #[.int .i64 3, .string ⟨#[]⟩, .string X, .slice none 0 0] 66)).ownsRow w0.heap.size 66 4 (.slice ao st.evs.length cv) (st).evs.length (aXx ((st).evs.zip vs))) := aQ0 (hvr.drew.alloc _)
   have RD := aQ0 (R0.out.below (((Below.refl _ _).drew).alloc (Nat.le_refl _) (.cells #[.int .i64 3, .string ⟨#[]⟩, .string X, .slice none 0 0] 66)))
   have hbs := R0.out.bel.size
   clear hvr hva
   obtain ⟨⟨c0, c1, c2, c3, c4, c5, c6, c7⟩, f0, f1, f2, f3, f4, f5, f7⟩ := R0.out.cells
   have c2a : (W0.alloc (.cells #[.int .i64 3, .string ⟨#[]⟩, .string X, .slice none 0 0] 66)).cell? ⟨r, 2, none⟩ = some (.slice ao st.evs.length cv) := (World.cell?_of_block (a := ⟨r, 2, none⟩) (heap_alloc_old _ _ R0.out.lt)).trans c2
   have c3a : (W0.alloc (.cells #[.int .i64 3, .string ⟨#[]⟩, .string X, .slice none 0 0] 66)).cell? ⟨r, 3, none⟩ = W0.cell? ⟨r, 3, none⟩ := World.cell?_of_block (a := ⟨r, 3, none⟩) (heap_alloc_old _ _ R0.out.lt)
   rw [c3] at c3a
   clear c0 c1 c4 c5 c6 c7 f0 f1 f3 f4 f5 f7
   skip
   go_region_law (refine aXu rfl (.tmp 14) (.tmp 21) 25 rfl w0.heap.size 66 i0 (.agg #[.int .i64 0, .string ⟨#[]⟩, .string ⟨#[]⟩, .slice none 0 0]) 4 64 Tryz.underlying25 hi hz0 hz1 hz2 rfl (by decide) (.slice ao st.evs.length cv) (st).evs.length (aXx ((st).evs.zip vs)) (by simp [Act.eval]) ROW.out ⟨W0.heap.size, 0, none⟩ 1 1 [.int .i64 3, .string ⟨#[]⟩, .string X, .slice none 0 0] (by simp [Act.eval]) rfl (aWt W0.drew _ _ _ _ _ W0.heap.size rfl) (by intro u hu; simp at hu; rcases hu with rfl | rfl | rfl | rfl <;> rfl) (by unfold maxLen; omega) (by omega) (by simp; omega) ?_; intro v' wa hoa hga; obtain ⟨ao2, cv2, hv'⟩ := aQh hoa; subst hv'; obtain ⟨d2, d3, e2, e3⟩ := RD.out.cellsOf ROW.out hga (by decide); replace hoa := aQ0 hoa; replace hga := aQ0 hga)
   all_goals
    simp only [Exit.then]
    rename_i aK
    refine aK _ _ ?_
    obtain ⟨a1, a2⟩ := RD.out.addEv hvl ROW.out HVA.out hga.out (E := ⟨3, ⟨#[]⟩, X, []⟩) hoa.out (World.ownsRow_nil _ _ _ _)
    obtain ⟨a3, a4⟩ := a1.noTxt
    have hf3 : (wa.setCell ⟨r, 2, none⟩ (.slice ao2 (st.evs.length + 1) cv2)).frozen? ⟨r, 3, none⟩ = false := a1.cells.2.2.2.2.1
    have hc3 : (wa.setCell ⟨r, 2, none⟩ (.slice ao2 (st.evs.length + 1) cv2)).cell? ⟨r, 3, none⟩ = some (.slice at' st.txt.length ct) := a1.cells.1.2.2.2.1
    have E1' : wa.heap[W.heap.size]? = some (.cells #[.int .i64 E.kind, .string E.name, .string E.text, .slice aa an ac] 66) := by
     exact (hga.out.block W.heap.size (by have := HZ.out; simp; omega) (fun e => absurd (EVL.out _ e.symm) (Nat.lt_irrefl _))).trans ((heap_alloc_old W0.drew _ (show W.heap.size < W0.heap.size by have := HZ.out; omega)).trans E0.out)
    go_wp2_with fail
    obtain ⟨W1, hW1⟩ : ∃ W1, (wa.setCell ⟨r, 2, none⟩ (.slice ao2 (st.evs.length + 1) cv2)).setCell ⟨r, 3, none⟩ (.slice none 0 0) = W1 := ⟨_, rfl⟩
    rw [hW1]
    rw [hW1] at a3 a4
    obtain ⟨S1, hS1⟩ : ∃ S1 : Rs, ({ st with evs := st.evs ++ [⟨3, ⟨#[]⟩, X, []⟩], txt := [] } : Rs) = S1 := ⟨_, rfl⟩
    have hL1 : S1.evs.length = st.evs.length + 1 := by rw [← hS1]; simp
    have HTE1 := aQ0 (show bX6 st E = { S1 with evs := S1.evs ++ [E] } by rw [HTE.out, ← hS1])
    have a3 : Rm w0 W1 r mb S1 de da (.slice ao2 (st.evs.length + 1) cv2) (.slice none 0 0) := by rw [← hS1]; exact a3
    have hlS : S1.evs.length ≤ 1048577 := by omega
    clear hL1 hS1
    have R1 := aQ0 a3
    have F1 := aQ0 (((F0.out.trans (Fr.below (g := none) (((Below.refl _ _).drew).alloc (Nat.le_refl _) (.cells #[.int .i64 3, .string ⟨#[]⟩, .string X, .slice none 0 0] 66))) (fun k hk => by cases hk)).trans a2 (fun k hk => by cases hk)).trans a4 (fun k hk => by cases hk))
    have E1 : Hid (W1.heap[W.heap.size]? = some (.cells #[.int .i64 E.kind, .string E.name, .string E.text, .slice aa an ac] 66)) := aQ0 (by rw [← hW1, Below.heap_setCell _ ⟨r, 3, none⟩ _ W.heap.size hrz.symm, Below.heap_setCell _ ⟨r, 2, none⟩ _ W.heap.size hrz.symm]; exact E1')
    have A1 : Hid (W1.ownsRow w0.heap.size 148 2 (.slice aa an ac) E.attrs.length (aQ8 E.attrs)) := aQ0 (aQj A0.out (fun k hk => by
     obtain ⟨cs, hc, _⟩ := aQ4 A0.out hk
     have hlt := (gLt hc)
     have hkr : k ≠ r := aQe hc R0.out.box (by decide)
     rw [← hW1, Below.heap_setCell _ ⟨r, 3, none⟩ _ k hkr, Below.heap_setCell _ ⟨r, 2, none⟩ _ k hkr, hga.out.block k (by simp; omega) (fun e => by
      obtain ⟨cs', hc', _⟩ := aQ4 ROW.out e.symm
      exact aQe hc ((heap_alloc_old W0.drew _ hlt).symm.trans hc') (by decide) rfl)]
     exact heap_alloc_old W0.drew _ hlt))
    clear HTE a1 a2 a3 a4 hW1 hf3 hc3 E1' hoa hga RD ROW HVA hvl c2 c3 c2a c3a f2 d2 d3 e2 e3 hbs HCV1 HCV2
    clear vs
    obtain ⟨vs, hvl, hvr, hva⟩ := R1.out.evs
    have HVA : Hid (∀ x ∈ (S1).evs.zip vs, (W1.drew.alloc (.cells #[.int .i64 E.kind, .string E.name, .string E.text, .slice aa an ac] 66)).ownsRow w0.heap.size 148 2 x.2 x.1.attrs.length (aQ8 x.1.attrs)) := aQ0 (fun x hx => (hva x hx).drew.alloc _)
    have ROW : Hid ((W1.drew.alloc (.cells #[.int .i64 E.kind, .string E.name, .string E.text, .slice aa an ac] 66)).ownsRow w0.heap.size 66 4 (.slice ao2 (st.evs.length + 1) cv2) (S1).evs.length (aXx ((S1).evs.zip vs))) := aQ0 (hvr.drew.alloc _)
    have RD := aQ0 (R1.out.below (((Below.refl _ _).drew).alloc (Nat.le_refl _) (.cells #[.int .i64 E.kind, .string E.name, .string E.text, .slice aa an ac] 66)))
    have hbs := R1.out.bel.size
    clear hvr hva
    obtain ⟨⟨c0, c1, c2, c3, c4, c5, c6, c7⟩, f0, f1, f2, f3, f4, f5, f7⟩ := R1.out.cells
    have c2a : (W1.alloc (.cells #[.int .i64 E.kind, .string E.name, .string E.text, .slice aa an ac] 66)).cell? ⟨r, 2, none⟩ = some (.slice ao2 (st.evs.length + 1) cv2) := (World.cell?_of_block (a := ⟨r, 2, none⟩) (heap_alloc_old _ _ R1.out.lt)).trans c2
    have c3a : (W1.alloc (.cells #[.int .i64 E.kind, .string E.name, .string E.text, .slice aa an ac] 66)).cell? ⟨r, 3, none⟩ = W1.cell? ⟨r, 3, none⟩ := World.cell?_of_block (a := ⟨r, 3, none⟩) (heap_alloc_old _ _ R1.out.lt)
    rw [c3] at c3a
    clear c0 c1 c4 c5 c6 c7 f0 f1 f3 f4 f5 f7
    have b0 : W1.cell? ⟨W.heap.size, 0, none⟩ = some (.int .i64 E.kind) ∧ W1.cell? ⟨W.heap.size, 1, none⟩ = some (.string E.name) ∧ W1.cell? ⟨W.heap.size, 2, none⟩ = some (.string E.text) ∧ W1.cell? ⟨W.heap.size, 3, none⟩ = some (.slice aa an ac) := by simp [World.cell?, E1.out]
    obtain ⟨b0, b1, b2, b3⟩ := b0
    go_region_law (refine aXu rfl (.tmp 32) (.tmp 34) 25 rfl w0.heap.size 66 i0 (.agg #[.int .i64 0, .string ⟨#[]⟩, .string ⟨#[]⟩, .slice none 0 0]) 4 64 Tryz.underlying25 hi hz0 hz1 hz2 rfl (by decide) (.slice ao2 (st.evs.length + 1) cv2) (S1).evs.length (aXx ((S1).evs.zip vs)) (by simp [Act.eval]) ROW.out ⟨W1.heap.size, 0, none⟩ 1 1 [.int .i64 E.kind, .string E.name, .string E.text, .slice aa an ac] (by simp [Act.eval]) rfl (aWt W1.drew _ _ _ _ _ W1.heap.size rfl) (by intro u hu; simp at hu; rcases hu with rfl | rfl | rfl | rfl <;> rfl) (by unfold maxLen; omega) (by omega) (by simp; omega) ?_; intro v' wa hoa hga; obtain ⟨ao', cv', hv'⟩ := aQh hoa; subst hv'; obtain ⟨d2, d3, e2, e3⟩ := RD.out.cellsOf ROW.out hga (by decide); replace hoa := aQ0 hoa; replace hga := aQ0 hga)
    all_goals
     go_end0
     obtain ⟨a1, a2⟩ := RD.out.addEv hvl ROW.out HVA.out hga.out (E := E) hoa.out (A1.out.drew.alloc _)
     rw [HTE1.out]
     exact ⟨rfl, _, _, a1, (F1.out.trans (Fr.below (g := none) (((Below.refl _ _).drew).alloc (Nat.le_refl _) (.cells #[.int .i64 E.kind, .string E.name, .string E.text, .slice aa an ac] 66))) (fun k hk => by cases hk)).trans a2 (fun k hk => by cases hk)⟩
open Go.RowKit Plain1 Plain10 Plain23 PlainR Go.Lib Ents
theorem bQq (kd : Int) (nm t : ByteArray) (v : Value) (w : World) : Calls Tryz.prog 22 #[.agg #[.int .i64 kd, .string nm, .string t, v]] w fun e w' => e = .returned (.bool (decide (kd = 1 ∨ kd = 3))) ∧ Below w.heap.size w w' := by
 by_cases h1 : kd = 1
 · subst h1
   go_enter Tryz.func22, Tryz.ntmps22
   go_wp2
   go_ret
   exact ⟨rfl, bAl⟩
 by_cases h3 : kd = 3
 · subst h3
   go_enter Tryz.func22, Tryz.ntmps22
   go_wp2
   go_ret
   exact ⟨rfl, bAl⟩
 rw [decide_eq_false (by omega)]
 have e1 : (kd == 1) = false := by simpa using h1
 have e3 : (kd == 3) = false := by simpa using h3
 go_enter Tryz.func22, Tryz.ntmps22
 go_wp2
 go_ret
 exact ⟨rfl, bAl⟩
theorem aKi (kd : Int) (nm t : ByteArray) (v : Value) (w : World) : Calls Tryz.prog 18 #[.agg #[.int .i64 kd, .string nm, .string t, v]] w fun e w' => e = .returned (.bool (decide (kd = 6 ∨ kd = 7))) ∧ Below w.heap.size w w' := by
 by_cases h1 : kd = 6
 · subst h1
   go_enter Tryz.func18, Tryz.ntmps18
   go_wp2
   go_ret
   exact ⟨rfl, bAl⟩
 by_cases h3 : kd = 7
 · subst h3
   go_enter Tryz.func18, Tryz.ntmps18
   go_wp2
   go_ret
   exact ⟨rfl, bAl⟩
 rw [decide_eq_false (by omega)]
 have e1 : (kd == 6) = false := by simpa using h1
 have e3 : (kd == 7) = false := by simpa using h3
 go_enter Tryz.func18, Tryz.ntmps18
 go_wp2
 go_ret
 exact ⟨rfl, bAl⟩
theorem bytes_eq {a : ByteArray} {l : List UInt8} (h : (a.toList == l) = true) : a = ⟨l.toArray⟩ := by
 have := eq_of_beq h
 rw [ByteArray.toList_eq] at this
 cases a with
 | mk d => simp at this; rw [← this]
def aWw (nm : ByteArray) : ByteArray := match aW8 nm with | some b => ⟨#[b]⟩ | none => ⟨#[]⟩
theorem signOf_name (nm : ByteArray) (ch : Int) (hn : (nm.toList == []) = false) (w : World) : Calls Tryz.prog 111 #[.agg #[.string nm, .int .i64 ch]] w fun e w' => e = .returned (.string (aWw nm)) ∧ Below w.heap.size w w' := by
 obtain ⟨G, hG⟩ : ∃ G, aWw nm = G := ⟨_, rfl⟩
 rw [hG]
 cases h1 : (nm.toList == [108, 116]) with
 | true =>
  have hg : G = ⟨#[60]⟩ := by rw [← hG]; unfold aWw aW8; rw [h1]; rfl
  subst hg
  clear hG
  go_enter Tryz.func111, Tryz.ntmps111
  go_wp2
  go_ret
  exact ⟨rfl, bAl⟩
 | false =>
  cases h2 : (nm.toList == [103, 116]) with
  | true =>
   have hg : G = ⟨#[62]⟩ := by rw [← hG]; unfold aWw aW8; rw [h1, h2]; rfl
   subst hg
   clear hG
   go_enter Tryz.func111, Tryz.ntmps111
   go_wp2
   go_ret
   exact ⟨rfl, bAl⟩
  | false =>
   cases h3 : (nm.toList == [97, 109, 112]) with
   | true =>
    have hg : G = ⟨#[38]⟩ := by rw [← hG]; unfold aWw aW8; rw [h1, h2, h3]; rfl
    subst hg
    clear hG
    go_enter Tryz.func111, Tryz.ntmps111
    go_wp2
    go_ret
    exact ⟨rfl, bAl⟩
   | false =>
    cases h4 : (nm.toList == [97, 112, 111, 115]) with
    | true =>
     have hg : G = ⟨#[39]⟩ := by rw [← hG]; unfold aWw aW8; rw [h1, h2, h3, h4]; rfl
     subst hg
     clear hG
     go_enter Tryz.func111, Tryz.ntmps111
     go_wp2
     go_ret
     exact ⟨rfl, bAl⟩
    | false =>
     cases h5 : (nm.toList == [113, 117, 111, 116]) with
     | true =>
      have hg : G = ⟨#[34]⟩ := by rw [← hG]; unfold aWw aW8; rw [h1, h2, h3, h4, h5]; rfl
      subst hg
      clear hG
      go_enter Tryz.func111, Tryz.ntmps111
      go_wp2
      go_ret
      exact ⟨rfl, bAl⟩
     | false =>
      have hg : G = ⟨#[]⟩ := by rw [← hG]; unfold aWw aW8; rw [h1, h2, h3, h4, h5]; rfl
      subst hg
      clear hG
      go_enter Tryz.func111, Tryz.ntmps111
      go_wp2
      go_ret
      exact ⟨rfl, bAl⟩
theorem signOf_char (ch : Int) (hc : aZq ch = true) (w : World) : Calls Tryz.prog 111 #[.agg #[.string ⟨#[]⟩, .int .i64 ch]] w fun e w' => e = .returned (.string ⟨(encB ch).toArray⟩) ∧ Below w.heap.size w w' := by
 have hb := (aJi ch).1 hc
 have hw : wrap32 ch = ch := IntWalk.wrap32_in ch (by omega)
 have he : (⟨(encB ch).toArray⟩ : ByteArray) = Utf8.encode ch := by unfold encB; simp
 rw [he]
 go_enter Tryz.func111, Tryz.ntmps111
 go_wp2
 go_ret
 exact ⟨rfl, bAl⟩
end Go.Proofs.YtdblemolaojebaaGreatDoor
