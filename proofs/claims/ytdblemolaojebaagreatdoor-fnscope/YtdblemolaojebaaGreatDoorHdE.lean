import Derived.Test.YtdblemolaojebaaGreatDoorHdD
import Derived.DeepKeys4
set_option maxRecDepth 100000
namespace Go.Proofs.YtdblemolaojebaaGreatDoor
open Go.RowKit Plain25 Go.Lib
open Go.Maps
theorem laidOutH : laidOutB Tryz.prog = true := by kernel_rfl
theorem rowK : (191 : TypeId) < Tryz.prog.types.size := of_decide_eq_true (by kernel_rfl)
theorem wideK : (match Tryz.prog.underlying 191 with | some (.array _ _) | some (.struct _) => true | _ => false) = true := by kernel_rfl
theorem lawK : Keyed Tryz.prog 191 := Keyed.of_law (deep_law_laid laidOutH (m := 2) (by omega) rowK (by kernel_rfl) wideK)
theorem keyTypeK : Tryz.prog.keyType 191 = true := by kernel_rfl
theorem cellsK : Tryz.prog.cellsOf 191 = 2 := by kernel_rfl
theorem cellsS : Tryz.prog.cellsOf 9 = 1 := by kernel_rfl
theorem typesN : Tryz.prog.types.size = 424 - 100 := by kernel_rfl
def keyV (x : ByteArray × ByteArray) : Value := .agg #[.string x.1, .string x.2]
def aVk (P : Program) (x : ByteArray × ByteArray) : Lit := (keyOf P 191 (keyV x)).getD (.bool false)
theorem bJ9 {s : ByteArray} (n : Nat) (h : s.size ≤ maxLen) : Tryz.prog.keyLits (n + 1) 9 [.string s] = some [.string s.data.toList] := by
 unfold Program.keyLits
 rw [Tryz.underlying9]
 simp only [h, if_true]
theorem lits_key {x : ByteArray × ByteArray} (n : Nat) (h1 : x.1.size ≤ maxLen) (h2 : x.2.size ≤ maxLen) : ∃ l, Tryz.prog.keyLits (n + 2) 191 [.string x.1, .string x.2] = some l := by
 have e1 := bJ9 n h1
 have e2 := bJ9 n h2
 refine ⟨[.string x.1.data.toList, .string x.2.data.toList], ?_⟩
 conv => lhs; unfold Program.keyLits
 rw [Tryz.underlying191]
 simp only [cellsK]
 simp [List.mapM_cons, cellsS, e1, e2]
theorem aYi {x : ByteArray × ByteArray} (h1 : x.1.size ≤ maxLen) (h2 : x.2.size ≤ maxLen) : keyOf Tryz.prog 191 (keyV x) = some (aVk Tryz.prog x) := by
 have : ∃ l, keyOf Tryz.prog 191 (keyV x) = some l := by
  obtain ⟨l, hl⟩ := lits_key (x := x) (424 - 101) h1 h2
  refine ⟨.string (keyBytes l), ?_⟩
  unfold keyOf
  rw [Tryz.underlying191]
  have hf : (keyV x).formed Tryz.prog 191 = true := by
   unfold keyV
   simp [Value.formed, Tryz.underlying191, cellsK]
  have hN : Tryz.prog.types.size + 1 = (424 - 101) + 2 := by rw [typesN]
  have hc : (keyV x).cells.toList = [.string x.1, .string x.2] := rfl
  rw [keyTypeK, hf, hN, hc, hl]
  rfl
 obtain ⟨l, hl⟩ := this
 unfold aVk
 rw [hl]; rfl
theorem key_inj {x y : ByteArray × ByteArray} (h1 : x.1.size ≤ maxLen) (h2 : x.2.size ≤ maxLen) (h3 : y.1.size ≤ maxLen) (h4 : y.2.size ≤ maxLen) (h : aVk Tryz.prog x = aVk Tryz.prog y) : x = y := by
 have hx := aYi h1 h2
 rw [h] at hx
 have := lawK.inj hx (aYi h3 h4)
 unfold keyV at this
 simp at this
 exact Prod.ext this.1 this.2
theorem key_lit {x : ByteArray × ByteArray} (h1 : x.1.size ≤ maxLen) (h2 : x.2.size ≤ maxLen) : WideAt.IsKeyLit (aVk Tryz.prog x) := lawK.key (aYi h1 h2)
open Go.RowKit Lists Plain9 Plain23 Plain30 Go.Lib Ents
open Go.Maps
def bV7 (v : Value) : Option (DataW Value × List MemPlace) := some (.held v, [])
def aVw (L : List Df) : List Value := L.flatMap fun x => [.string (aX2 x).1, .string (aX2 x).2]
structure Hm (W : World) (hb mb B : Nat) (ov : Value) (L : List Df) : Prop where
 box : W.heap[hb]? = some (.cells #[.map (some mb), ov, .int .i64 ((dtOf L).ents.length : Int), .int .i64 ((dtOf L).atts.length : Int)] 140)
 map : W.ownsMap Tryz.prog 191 bV7 mb L.length (mapD (aVk Tryz.prog) dfV L)
 ord : W.ownsRow B 191 2 ov L.length (aVw L)
 ok : Okay L
 lh : hb < B
 lm : mb < B
 ne : hb ≠ mb
theorem Hm.cells {W : World} {hb mb B : Nat} {ov : Value} {L : List Df} (h : Hm W hb mb B ov L) :
 (W.cell? ⟨hb, 0, none⟩ = some (.map (some mb)) ∧ W.cell? ⟨hb, 1, none⟩ = some ov ∧ W.cell? ⟨hb, 2, none⟩ = some (.int .i64 ((dtOf L).ents.length : Int)) ∧ W.cell? ⟨hb, 3, none⟩ = some (.int .i64 ((dtOf L).atts.length : Int))) ∧
 W.frozen? ⟨hb, 1, none⟩ = false ∧ W.frozen? ⟨hb, 2, none⟩ = false ∧ W.frozen? ⟨hb, 3, none⟩ = false := by
 simp [World.cell?, World.frozen?, h.box]
theorem mthE (n t : ByteArray) (w : World) : (Go.method 424 197 (.agg #[.string n, .string t]) "loop.example/g00352/impl.key").run Tryz.prog w = .ok (197, .agg #[.string n, .string t]) w := by kernel_rfl
theorem mthA (o n : ByteArray) (x y : Bool) (v : ByteArray) (w : World) : (Go.method 424 199 (.agg #[.string o, .string n, .bool x, .bool y, .string v]) "loop.example/g00352/impl.key").run Tryz.prog w = .ok (198, .agg #[.string o, .string n, .bool x, .bool y, .string v]) w := by kernel_rfl
theorem taEE (v : Value) (w : World) : (Instr.typeAssert (.iface 197 v) 189 197 true).run Tryz.prog w = .ok (.tuple #[v, .bool true]) w := by kernel_rfl
theorem taEA (v : Value) (w : World) : (Instr.typeAssert (.iface 197 v) 189 199 true).run Tryz.prog w = .ok (.tuple #[.agg #[.string ⟨#[]⟩, .string ⟨#[]⟩, .bool false, .bool false, .string ⟨#[]⟩], .bool false]) w := by kernel_rfl
theorem taAE (v : Value) (w : World) : (Instr.typeAssert (.iface 199 v) 189 197 true).run Tryz.prog w = .ok (.tuple #[.agg #[.string ⟨#[]⟩, .string ⟨#[]⟩], .bool false]) w := by kernel_rfl
theorem taAA (v : Value) (w : World) : (Instr.typeAssert (.iface 199 v) 189 199 true).run Tryz.prog w = .ok (.tuple #[v, .bool true]) w := by kernel_rfl
theorem entKey_any (n t : ByteArray) (w : World) : Calls Tryz.prog 197 #[.agg #[.string n, .string t]] w fun e w' => e = .returned (.agg #[.string ⟨#[]⟩, .string n]) ∧ Below w.heap.size w w' := by
 go_enter Tryz.func197, Tryz.ntmps197
 go_wp2
 refine bodyPost_ret (v := .agg #[.string ⟨#[]⟩, .string n]) (by simp [results, Tryz.results197, go_sem]) rfl ⟨rfl, ?_⟩
 exact (bAl).alloc (by simp) _
theorem attKey_any (a : At5) (w : World) : Calls Tryz.prog 198 #[.agg #[.string a.of, .string a.nm, .bool a.words, .bool a.has, .string a.val]] w fun e w' => e = .returned (.agg #[.string a.of, .string a.nm]) ∧ Below w.heap.size w w' := by
 go_enter Tryz.func198, Tryz.ntmps198
 go_wp2
 refine bodyPost_ret (v := .agg #[.string a.of, .string a.nm]) (by simp [results, Tryz.results198, go_sem]) rfl ⟨rfl, ?_⟩
 exact (bAl).alloc (by simp) _
theorem Hm.keep {W W' : World} {hb mb B : Nat} {ov : Value} {L : List Df} {r : Option Nat} (h : Hm W hb mb B ov L) (hg : W.grownBy W' r) (h1 : some hb ≠ r) (h2 : some mb ≠ r) (h3 : ∀ b, r = some b → ov.ownBlock ≠ some b) : Hm W' hb mb B ov L :=
 ⟨by rw [hg.block _ (gLt h.box) h1]; exact h.box, h.map.kept hg h2, h.ord.kept hg (by
  cases hv : ov.ownBlock with
  | none => exact .inl rfl
  | some b => exact .inr (fun e => h3 b e.symm hv)), h.ok, h.lh, h.lm, h.ne⟩
theorem Hm.below {W W' : World} {hb mb B : Nat} {ov : Value} {L : List Df} (h : Hm W hb mb B ov L) (hb' : Below W.heap.size W W') : Hm W' hb mb B ov L :=
 h.keep (r := none) ⟨hb'.os, hb'.tape, hb'.output, hb'.size, fun i hi _ => hb'.block i hi⟩ (by simp) (by simp) (fun _ h => by cases h)
structure As (w W : World) (hb mb B lb : Nat) (ov : Value) (L : List Df) : Prop where
 hm : Hm W hb mb B ov L
 lk : W.heap[lb]? = w.heap[lb]?
 ll : lb < W.heap.size
 kept : ∀ i, i < B → i ≠ hb → i ≠ mb → W.heap[i]? = w.heap[i]?
 rest : W.os = w.os ∧ W.tape = w.tape ∧ W.output = w.output ∧ w.heap.size ≤ W.heap.size ∧ B ≤ W.heap.size
theorem As.below {w W W' : World} {hb mb B lb : Nat} {ov : Value} {L : List Df} (h : As w W hb mb B lb ov L) (hb' : Below W.heap.size W W') : As w W' hb mb B lb ov L := by
 obtain ⟨r1, r2, r3, r4, r5⟩ := h.rest
 exact ⟨h.hm.below hb', (hb'.block _ h.ll).trans h.lk, Nat.lt_of_lt_of_le h.ll hb'.size, fun i hi h1 h2 => (hb'.block i (by omega)).trans (h.kept i hi h1 h2), hb'.os.trans r1, hb'.tape.trans r2, hb'.output.trans r3, Nat.le_trans r4 hb'.size, Nat.le_trans r5 hb'.size⟩
def bQ8 (L l : List Df) : List Df := l.foldl addL L
theorem fold_on {L l : List Df} {k : Nat} (hk : k < l.length) : bQ8 L (l.take (k + 1)) = addL (bQ8 L (l.take k)) (l[k]'hk) := by
 unfold bQ8
 rw [List.take_succ_eq_append_getElem hk, List.foldl_append]; rfl
theorem add_len (L : List Df) (x : Df) : (addL L x).length ≤ L.length + 1 := by unfold addL; split <;> simp
theorem bW4 : ∀ (l L : List Df), (bQ8 L l).length ≤ L.length + l.length
 | [], L => by simp [bQ8]
 | x :: l, L => by
  have h1 := bW4 l (addL L x)
  have h2 := add_len L x
  have h3 : bQ8 L (x :: l) = bQ8 (addL L x) l := rfl
  rw [h3]
  simp
  omega
theorem own_ne {W : World} {B n lb : Nat} {v : Value} {xs : List Value} {cs : Array Value} {fr : Nat × Nat} (h : W.ownsRow B 191 2 v n xs) (hl : W.heap[lb]? = some (.cells cs 189 fr)) : v.ownBlock ≠ some lb := by
 rcases h.2 with ⟨rfl, _⟩ | ⟨g, cap, cur, rfl, _, hh, _⟩
 · intro e; cases e
 · intro e
   have : g = lb := Option.some.inj e
   subst this
   rw [hh] at hl
   have := Option.some.inj hl
   injection this with _ h2 _
   exact absurd h2 (by decide)
theorem zeroDef (w : World) : (zeroValue 189).run Tryz.prog w = .ok .nilIface w := by kernel_rfl
def lookV (D : DataW Value) (k : Lit) : Value := match D.atKey k (.held .nilIface) with | .held v => v | _ => .nilIface
theorem look_run {W : World} {hb mb B : Nat} {ov : Value} {L : List Df} (h : Hm W hb mb B ov L) {k : ByteArray × ByteArray} (h1 : k.1.size ≤ maxLen) (h2 : k.2.size ≤ maxLen) :
 (Instr.lookup 137 (.map (some mb)) (.agg #[.string k.1, .string k.2]) true).run Tryz.prog W = .ok (.tuple #[lookV (mapD (aVk Tryz.prog) dfV L) (aVk Tryz.prog k), .bool (hasK L k)]) W := by
 obtain ⟨v, ps, hrun, hR⟩ := h.map.look_ok lawK Tryz.underlying137 (zeroDef W) (zd := .held .nilIface) (zp := []) rfl (aYi h1 h2)
 rw [map_has key_inj key_lit h1 h2 L.length L rfl h.ok.small] at hrun
 have hv : lookV (mapD (aVk Tryz.prog) dfV L) (aVk Tryz.prog k) = v := by
  unfold lookV
  unfold bV7 at hR
  have hf : DataW.held v = (mapD (aVk Tryz.prog) dfV L).atKey (aVk Tryz.prog k) (.held .nilIface) := congrArg Prod.fst (Option.some.inj hR)
  rw [← hf]
 rw [hv]
 exact hrun
theorem store_run {W : World} {hb mb B : Nat} {ov : Value} {L : List Df} (h : Hm W hb mb B ov L) (x : Df) (hs : aWz x) (hL : L.length < maxLen) :
 ∃ w', (Instr.mapUpdate 137 (.map (some mb)) (.agg #[.string (aX2 x).1, .string (aX2 x).2]) (dfV x)).run Tryz.prog W = .ok () w' ∧ w'.ownsMap Tryz.prog 191 bV7 mb (L.length + 1) (mapD (aVk Tryz.prog) dfV (L ++ [x])) ∧ W.grownBy w' (some mb) := by
 obtain ⟨w', hrun, hown, hturn⟩ := h.map.store lawK Tryz.underlying137 hL (aYi hs.1 hs.2) (d := .held (dfV x)) (ps := []) (val := dfV x) rfl
 refine ⟨w', hrun, ?_, hturn.grown⟩
 rw [bKs]
 exact hown
theorem Hm.drew {W : World} {hb mb B : Nat} {ov : Value} {L : List Df} (h : Hm W hb mb B ov L) : Hm W.drew hb mb B ov L := h.below ⟨rfl, rfl, rfl, Nat.le_refl _, fun _ _ => rfl⟩
theorem bJa (L : List Df) (x : Df) : aVw (L ++ [x]) = aVw L ++ [.string (aX2 x).1, .string (aX2 x).2] := by unfold aVw; rw [List.flatMap_append]; rfl
theorem aQ7 {W : World} {hb j : Nat} {cs : Array Value} {T : TypeId} (h : W.heap[hb]? = some (.cells cs T)) (u : Value) : (W.setCell ⟨hb, j, none⟩ u).heap[hb]? = some (.cells (cs.setIfInBounds j u) T) := by
 have hlt : hb < W.heap.size := (gLt h)
 have hv := (Array.getElem?_eq_some_iff.1 h).2
 unfold World.setCell
 rw [Array.getElem?_eq_getElem (by simpa using hlt)]
 simp [Array.getElem_modify, hv]
theorem As.drew {w W : World} {hb mb B lb : Nat} {ov : Value} {L : List Df} (h : As w W hb mb B lb ov L) : As w W.drew hb mb B lb ov L := h.below ⟨rfl, rfl, rfl, Nat.le_refl _, fun _ _ => rfl⟩
structure Ap (w W : World) (hb mb B lb kb : Nat) (ov : Value) (L : List Df) (x : Df) : Prop where
 box : W.heap[hb]? = some (.cells #[.map (some mb), ov, .int .i64 ((dtOf L).ents.length : Int), .int .i64 ((dtOf L).atts.length : Int)] 140)
 key : W.heap[kb]? = some (.cells #[.string (aX2 x).1, .string (aX2 x).2] 191)
 map : W.ownsMap Tryz.prog 191 bV7 mb (L.length + 1) (mapD (aVk Tryz.prog) dfV (L ++ [x]))
 ord : W.ownsRow B 191 2 ov L.length (aVw L)
 ok : Okay L
 lh : hb < B
 lm : mb < B
 ne : hb ≠ mb
 lk : W.heap[lb]? = w.heap[lb]?
 ll : lb < W.heap.size
 kept : ∀ i, i < B → i ≠ hb → i ≠ mb → W.heap[i]? = w.heap[i]?
 rest : W.os = w.os ∧ W.tape = w.tape ∧ W.output = w.output ∧ w.heap.size ≤ W.heap.size ∧ B ≤ W.heap.size
theorem Ap.cells {w W : World} {hb mb B lb kb : Nat} {ov : Value} {L : List Df} {x : Df} (h : Ap w W hb mb B lb kb ov L x) :
 (W.cell? ⟨hb, 0, none⟩ = some (.map (some mb)) ∧ W.cell? ⟨hb, 1, none⟩ = some ov ∧ W.cell? ⟨hb, 2, none⟩ = some (.int .i64 ((dtOf L).ents.length : Int)) ∧ W.cell? ⟨hb, 3, none⟩ = some (.int .i64 ((dtOf L).atts.length : Int))) ∧
 W.frozen? ⟨hb, 1, none⟩ = false ∧ W.frozen? ⟨hb, 2, none⟩ = false ∧ W.frozen? ⟨hb, 3, none⟩ = false := by
 simp [World.cell?, World.frozen?, h.box]
theorem Ap.keys {w W : World} {hb mb B lb kb : Nat} {ov : Value} {L : List Df} {x : Df} (h : Ap w W hb mb B lb kb ov L x) : W.cell? ⟨kb, 0, none⟩ = some (.string (aX2 x).1) ∧ W.cell? ⟨kb, 1, none⟩ = some (.string (aX2 x).2) := by
 simp [World.cell?, h.key]
theorem Ap.start {w W W' : World} {hb mb B lb kb : Nat} {ov : Value} {L : List Df} {x : Df} (h : As w W hb mb B lb ov L) (hm : W'.ownsMap Tryz.prog 191 bV7 mb (L.length + 1) (mapD (aVk Tryz.prog) dfV (L ++ [x]))) (hg : W.grownBy W' (some mb)) (hk : W.heap[kb]? = some (.cells #[.string (aX2 x).1, .string (aX2 x).2] 191)) {cs : Array Value} {fr : Nat × Nat} (hlb : w.heap[lb]? = some (.cells cs 189 fr)) : Ap w W' hb mb B lb kb ov L x := by
 obtain ⟨r1, r2, r3, r4, r5⟩ := h.rest
 have hlm := h.hm.lm
 obtain ⟨es, clock, hmb, _⟩ := h.hm.map
 have hkm : kb ≠ mb := fun e => by rw [e, hmb] at hk; cases hk
 have hlm2 : lb ≠ mb := fun e => by have := h.lk; rw [e, hmb, ← e, hlb] at this; cases this
 refine ⟨?_, ?_, hm, ?_, h.hm.ok, h.hm.lh, h.hm.lm, h.hm.ne, ?_, Nat.lt_of_lt_of_le h.ll hg.size, ?_, hg.os.trans r1, hg.tape.trans r2, hg.output.trans r3, Nat.le_trans r4 hg.size, Nat.le_trans r5 hg.size⟩
 · rw [hg.block _ (gLt h.hm.box) (fun e => h.hm.ne (Option.some.inj e))]; exact h.hm.box
 · rw [hg.block _ (gLt hk) (fun e => hkm (Option.some.inj e))]; exact hk
 · refine h.hm.ord.kept hg ?_
   cases hv : ov.ownBlock with
   | none => exact .inl rfl
   | some b => exact .inr (fun e => by have := (h.hm.ord.lt b hv).1; have := Option.some.inj e; omega)
 · rw [hg.block _ h.ll (fun e => hlm2 (Option.some.inj e))]; exact h.lk
 · intro i hi h1 h2
   rw [hg.block i (by omega) (fun e => h2 (Option.some.inj e))]
   exact h.kept i hi h1 h2
theorem Ap.boxOf {w W W' : World} {hb mb B lb kb : Nat} {ov : Value} {L : List Df} {x : Df} (h : Ap w W hb mb B lb kb ov L x) {o : Obj} (hg : (W.drew.alloc o).grownBy W' ov.ownBlock) : W'.heap[hb]? = some (.cells #[.map (some mb), ov, .int .i64 ((dtOf L).ents.length : Int), .int .i64 ((dtOf L).atts.length : Int)] 140) := by
 have hhb := (gLt h.box)
 have hlh := h.lh
 rw [hg.block hb (by simp; omega) (fun e => by have := (h.ord.lt hb e.symm).1; omega)]
 exact (heap_alloc_old W.drew o hhb).trans h.box
theorem Ap.cellsOf {w W W' : World} {hb mb B lb kb : Nat} {ov : Value} {L : List Df} {x : Df} (h : Ap w W hb mb B lb kb ov L x) {o : Obj} (hg : (W.drew.alloc o).grownBy W' ov.ownBlock) :
 (W'.cell? ⟨hb, 0, none⟩ = some (.map (some mb)) ∧ W'.cell? ⟨hb, 1, none⟩ = some ov ∧ W'.cell? ⟨hb, 2, none⟩ = some (.int .i64 ((dtOf L).ents.length : Int)) ∧ W'.cell? ⟨hb, 3, none⟩ = some (.int .i64 ((dtOf L).atts.length : Int))) ∧
 W'.frozen? ⟨hb, 1, none⟩ = false ∧ W'.frozen? ⟨hb, 2, none⟩ = false ∧ W'.frozen? ⟨hb, 3, none⟩ = false := by
 simp [World.cell?, World.frozen?, h.boxOf hg]
theorem Ap.grow {w W W' : World} {hb mb B lb kb : Nat} {ov v' : Value} {L : List Df} {x : Df} (h : Ap w W hb mb B lb kb ov L x) (o : Obj) (hg : (W.drew.alloc o).grownBy W' ov.ownBlock) {cs : Array Value} {fr : Nat × Nat} (hlb : w.heap[lb]? = some (.cells cs 189 fr))
 (ho : W'.ownsRow B 191 2 v' (L.length + 1) (aVw (L ++ [x]))) (hx1 : aWd x) (hx2 : aWz x) (hno : hasK L (aX2 x) = false) {W9 : World}
 (h9 : W9.heap[hb]? = some (.cells #[.map (some mb), v', .int .i64 ((dtOf (L ++ [x])).ents.length : Int), .int .i64 ((dtOf (L ++ [x])).atts.length : Int)] 140)) (h9g : W'.grownBy W9 (some hb)) : As w W9 hb mb B lb v' (L ++ [x]) := by
 obtain ⟨r1, r2, r3, r4, r5⟩ := h.rest
 have hown : ∀ b, ov.ownBlock = some b → B ≤ b := fun b hb => (h.ord.lt b hb).1
 have hownv : ∀ b, v'.ownBlock = some b → B ≤ b := fun b hb => (ho.lt b hb).1
 have hlm := h.lm
 have hlh := h.lh
 have hlbW : W.heap[lb]? = some (.cells cs 189 fr) := h.lk.trans hlb
 have hne := own_ne h.ord hlbW
 have blk : ∀ i, i < W.heap.size → (∀ b, ov.ownBlock = some b → i ≠ b) → W'.heap[i]? = W.heap[i]? := fun i hi hb => by
  rw [hg.block i (by simp; omega) (fun e => hb i e.symm rfl)]; exact heap_alloc_old W.drew o hi
 have sz : W.heap.size ≤ W'.heap.size := Nat.le_trans (by simp) hg.size
 have hmb := h.map.lt
 have hhb := (gLt h.box)
 have hlh2 : lb ≠ hb := fun e => by have := hlbW; rw [e, h.box] at this; injection (Option.some.inj this) with _ h2 _; exact absurd h2 (by decide)
 refine ⟨⟨h9, ?_, ?_, okay_snoc h.ok hx1 hx2 hno, h.lh, h.lm, h.ne⟩, ?_, ?_, ?_, ?_⟩
 · have m1 : W'.ownsMap Tryz.prog 191 bV7 mb (L.length + 1) (mapD (aVk Tryz.prog) dfV (L ++ [x])) := by
    obtain ⟨es, clock, e1, e2⟩ := h.map
    exact ⟨es, clock, (blk mb hmb (fun b hb => by have := hown b hb; omega)).trans e1, e2⟩
   have := m1.kept h9g (fun e => h.ne (Option.some.inj e).symm)
   rw [List.length_append]
   exact this
 · rw [List.length_append]
   refine ho.kept h9g ?_
   cases hv : v'.ownBlock with
   | none => exact .inl rfl
   | some b => exact .inr (fun e => by have := hownv b hv; have := Option.some.inj e; omega)
 · rw [h9g.block lb (Nat.lt_of_lt_of_le h.ll sz) (fun e => hlh2 (Option.some.inj e)), blk lb h.ll (fun b hb e => hne (by rw [hb, e]))]
   exact h.lk
 · exact Nat.lt_of_lt_of_le h.ll (Nat.le_trans sz h9g.size)
 · intro i hi h1 h2
   rw [h9g.block i (by omega) (fun e => h1 (Option.some.inj e)), blk i (by omega) (fun b hb => by have := hown b hb; omega)]
   exact h.kept i hi h1 h2
 · exact ⟨h9g.os.trans (hg.os.trans r1), h9g.tape.trans (hg.tape.trans r2), h9g.output.trans (hg.output.trans r3), Nat.le_trans r4 (Nat.le_trans sz h9g.size), Nat.le_trans r5 (Nat.le_trans sz h9g.size)⟩
end Go.Proofs.YtdblemolaojebaaGreatDoor
