/- The helpers of the law of heads: lwEnts, lwAtts; the draws for EntOf and AttOf. -/
/- The draw for AttOf. -/
import Derived.Test.YteebdfcegndaoaaGreatDoorTkD
import Derived.Test.YteebdfcegndaoaaGreatDoorHd15
import Derived.Test.YteebdfcegndaoaaGreatDoorDrawH
import Derived.Test.YteebdfcegndaoaaGreatDoorPlI
import Derived.Deep.RegionHeld3
namespace Go.Proofs.YteebdfcegndaoaaGreatDoor
open Go.RowKit Plain1 Strs Strs2 Lists Bytes Plain3 Plain5 Plain6 Plain9 Plain10 Plain11 Plain12 Plain23 Plain26 Plain32 Ents

theorem gnRH (w : World) (r : Option Nat) : w.grownBy w r := ⟨rfl, rfl, rfl, Nat.le_refl _, fun _ _ _ => rfl⟩
theorem gnAH (w : World) (o : Obj) : w.grownBy (w.alloc o) none := ⟨rfl, rfl, rfl, by simp, fun _ hk _ => heap_alloc_old w o hk⟩
theorem gnTH {a b c : World} (h : a.grownBy b none) (k : b.grownBy c none) : a.grownBy c none :=
  ⟨k.os.trans h.os, k.tape.trans h.tape, k.output.trans h.output, Nat.le_trans h.size k.size, fun i hi hr => (k.block i (Nat.lt_of_lt_of_le hi h.size) hr).trans (h.block i hi hr)⟩

set_option maxRecDepth 100000 in
set_option maxHeartbeats 2000000 in
theorem lwEnts_same (w : World) (a a' : Option Addr) (n c c' : Nat) (l : List (ByteArray × ByteArray)) (hn : n = l.length) (hl : l.length ≤ 1048576) (h : EntsAt w a l) (h' : EntsAt w a' l) :
    Calls Tryz.prog 13 #[.slice a n c, .slice a' n c'] w fun e w' => e = .returned (.bool true) ∧ w.grownBy w' none := by
  subst hn
  have HA := mkHidT h
  have HA' := mkHidT h'
  clear h h'
  go_enter Tryz.func13, Tryz.ntmps13
  go_wp2
  go_loopw [5] (fun i wr => ∃ (k : Nat), k ≤ l.length ∧ i = .int .i64 k ∧ w.grownBy wr none) (fun i _ => l.length - (intOf i).toNat)
  case atStart => exact ⟨0, Nat.zero_le _, rfl, gnRH _ _⟩
  case round =>
    obtain ⟨k, hk, rfl, hgr⟩ := hrel
    have HG := mkHidT hgr
    clear hgr
    by_cases hlt : k < l.length
    · obtain ⟨b, off, ha, hc⟩ := HA.out.grown HG.out
      obtain rfl := ha (by omega)
      obtain ⟨c1, c2⟩ := hc k hlt
      obtain ⟨b', off', ha', hc'⟩ := HA'.out.grown HG.out
      obtain rfl := ha' (by omega)
      obtain ⟨d1, d2⟩ := hc' k hlt
      obtain ⟨E, hE⟩ : ∃ E, l[k]'hlt = E := ⟨_, rfl⟩
      rw [hE] at c1 c2 d1 d2
      clear hc ha hE hc' ha' HA HA'
      go_wp2_with fail
      go_quiet (fail)
      go_wp2
      go_roundw
      case rel => exact ⟨k + 1, by omega, by go_num, gnTH HG.out (gdrew5 _ _ _)⟩
      case measure => simp [intOf]; omega
    · go_wp2
      go_ret
      exact ⟨rfl, HG.out⟩

set_option maxRecDepth 100000 in
set_option maxHeartbeats 4000000 in
theorem lwAtts_same (w : World) (a a' : Option Addr) (n c c' : Nat) (l : List At5) (hn : n = l.length) (hl : l.length ≤ 1048576) (h : AttsAt w a l) (h' : AttsAt w a' l) :
    Calls Tryz.prog 14 #[.slice a n c, .slice a' n c'] w fun e w' => e = .returned (.bool true) ∧ w.grownBy w' none := by
  subst hn
  have HA := mkHidT h
  have HA' := mkHidT h'
  clear h h'
  go_enter Tryz.func14, Tryz.ntmps14
  go_wp2
  go_loopw [5] (fun i wr => ∃ (k : Nat), k ≤ l.length ∧ i = .int .i64 k ∧ w.grownBy wr none) (fun i _ => l.length - (intOf i).toNat)
  case atStart => exact ⟨0, Nat.zero_le _, rfl, gnRH _ _⟩
  case round =>
    obtain ⟨k, hk, rfl, hgr⟩ := hrel
    have HG := mkHidT hgr
    clear hgr
    by_cases hlt : k < l.length
    · obtain ⟨b, off, ha, hc⟩ := HA.out.grown HG.out
      obtain rfl := ha (by omega)
      obtain ⟨c1, c2, c3, c4, c5⟩ := hc k hlt
      obtain ⟨b', off', ha', hc'⟩ := HA'.out.grown HG.out
      obtain rfl := ha' (by omega)
      obtain ⟨d1, d2, d3, d4, d5⟩ := hc' k hlt
      obtain ⟨E, hE⟩ : ∃ E, l[k]'hlt = E := ⟨_, rfl⟩
      rw [hE] at c1 c2 c3 c4 c5 d1 d2 d3 d4 d5
      clear hc ha hE hc' ha' HA HA'
      go_wp2_with fail
      go_quiet (fail)
      go_wp2
      go_roundw
      case rel => exact ⟨k + 1, by omega, by go_num, gnTH HG.out (gdrew5 _ _ _)⟩
      case measure => simp [intOf]; omega
    · go_wp2
      go_ret
      exact ⟨rfl, HG.out⟩

theorem spec_lens {t : ByteArray} (hs : t.size ≤ 320) : (specDtd t).dtd.ents.length ≤ 4000 ∧ (specDtd t).dtd.atts.length ≤ 4000 := by
  rw [dtd_same hs]; exact dtd_len t

theorem dr_lit {W0 w : World} {g : Nat} {a : Option Addr} {n cap : Nat} (h : Dr W0 w g a n cap) (o : Obj) : Dr W0 (w.alloc o).drew g a n cap := (h.alloc o).on ⟨rfl, rfl, rfl, Nat.le_refl _, fun _ _ => rfl⟩
theorem cell_lit {W W' : World} {o : Obj} {g p j : Nat} {v : Value} (hg : (W.alloc o).drew.grownBy W' (some g)) (h : W.cell? ⟨p, j, none⟩ = some v) (hp : g < p) : W'.cell? ⟨p, j, none⟩ = some v := by
  have hlt := block_lt h
  have h1 : W'.heap[p]? = W.heap[p]? := (hg.block p (by show p < (W.alloc o).heap.size; simp; omega) (fun e => by have := Option.some.inj e; omega)).trans (heap_alloc_old W o hlt)
  rw [World.cell?_of_block (a := ⟨p, j, none⟩) h1]; exact h
theorem texts_litD {w : World} {cs : Array Value} {t : TypeId} {S : Nat} (hall : cs.all (isShort S) = true) : Texts (w.alloc (.cells cs t)).drew w.heap.size cs.size S := texts_lit (t := t) hall
theorem res_lit {w W : World} (hb : Below (w.alloc (.cells #[.slice none 0 0, .slice none 0 0] 39)).heap.size (w.alloc (.cells #[.slice none 0 0, .slice none 0 0] 39)) W) :
    W.cell? ⟨w.heap.size, 0, none⟩ = some (.slice none 0 0) ∧ W.cell? ⟨w.heap.size, 1, none⟩ = some (.slice none 0 0) ∧ W.frozen? ⟨w.heap.size, 0, none⟩ = false ∧ W.frozen? ⟨w.heap.size, 1, none⟩ = false := by
  have h1 := (hb.block w.heap.size (by simp)).trans (heap_alloc_new w _)
  simp [World.cell?, World.frozen?, h1]
theorem set2_keep {W : World} {k p j : Nat} {x y v : Value} (hne : p ≠ k) (h : W.cell? ⟨p, j, none⟩ = some v) : ((W.setCell ⟨k, 0, none⟩ x).setCell ⟨k, 1, none⟩ y).cell? ⟨p, j, none⟩ = some v := by
  have h1 : ((W.setCell ⟨k, 0, none⟩ x).setCell ⟨k, 1, none⟩ y).heap[p]? = W.heap[p]? := (Below.heap_setCell _ ⟨k, 1, none⟩ y p hne).trans (Below.heap_setCell W ⟨k, 0, none⟩ x p hne)
  rw [World.cell?_of_block (a := ⟨p, j, none⟩) h1]; exact h
theorem own_lit {W : World} {B : Nat} {e : TypeId} {size : Nat} {v : Value} {n : Nat} {xs : List Value} (h : W.ownsRow B e size v n xs) (o : Obj) : (W.alloc o).drew.ownsRow B e size v n xs := h.alloc o
theorem own_far {W : World} {B g : Nat} {e : TypeId} {size : Nat} {v : Value} {n : Nat} {xs : List Value} (h : W.ownsRow B e size v n xs) (hg : g < B) : v.ownBlock ≠ some g := fun hc => by have := (h.lt g hc).1; omega
theorem drw {W W' : World} {r : Option Nat} (h : W.grownBy W' r) : W.drew.grownBy W' r := ⟨h.os, h.tape, h.output, h.size, h.block⟩
theorem dr_ne {W0 w : World} {g : Nat} {a : Option Addr} {n cap : Nat} (h : Dr W0 w g a n cap) : w.heap.size ≠ g := by have := h.lt; omega
theorem fldD0 (a a' : Option Addr) (n c n' c' : Nat) (x y : Int) (w : World) : (Instr.field 41 (.agg #[.slice a n c, .slice a' n' c', .int .i64 x, .int .i64 y]) 0).run Tryz.prog w = .ok (.agg #[.slice a n c, .slice a' n' c']) w := by kernel_rfl
def zD2 : Obj := .cells #[.slice none 0 0, .slice none 0 0] 39
theorem fed_up {W W' : World} {a : Option Addr} {n : Nat} (h : Fed W a n) (hb : Below W.heap.size W W') : Fed W' a n := by
  obtain ⟨zs, h1, h2, h3, h4⟩ := h
  exact ⟨zs, h1, h2, h3.below hb (Nat.le_refl _), h4⟩
set_option maxRecDepth 100000 in
set_option maxHeartbeats 800000 in
theorem drawEnt_any (a : Option Addr) (n cap : Nat) (w : World) (hS : Fed w a n) :
    Calls Tryz.prog 15 #[.slice a n cap] w fun e w' => ∃ (d : Dt) (ae aa : Option Addr) (ce ca : Nat) (nm : ByteArray), e = .returned (.tuple #[.agg #[.slice ae d.ents.length ce, .slice aa d.atts.length ca], .string nm]) ∧ EntsAt w' ae d.ents ∧ LitD d ∧ d.ents.length ≤ 4000 ∧ Below w.heap.size w w' := by
  have B0 := mkHidD (show Below w.heap.size w (w.alloc zD2) from (Below.refl _ _).alloc (Nat.le_refl _) _)
  have Z0 := mkHidD (heap_alloc_new w zD2)
  have hsz : (w.alloc zD2).heap.size = w.heap.size + 1 := by simp
  have hS' := fed_up hS B0.out
  have HS := mkHidD hS'
  have HC := mkHidD (source_any a n cap _ hS')
  clear hS hS'
  go_enter Tryz.func15, Tryz.ntmps15
  go_wp2_with fail
  refine HC.out.mono ?_
  rintro e w1 ⟨rfl, hd⟩
  rw [hsz] at hd ⊢
  have HD1 := mkHidD hd
  clear hd HC
  go_wp2_with fail
  refine (l03Head_any HS.out HD1.out).mono ?_
  rintro e w2 ⟨t, rfl, hts, hd, -⟩
  have HD2 := mkHidD hd
  clear hd HD1
  go_wp2_with fail
  refine (specDtd_any t w2).mono ?_
  rintro e w3 ⟨ae, ce, aa, ca, rfl, ho1, ho2, hb3⟩
  have HD3 := mkHidD (HD2.out.on hb3)
  have hp2 : w.heap.size + 1 < w2.heap.size := HD2.out.lt
  have O1 := mkHidD ho1
  have LT := mkHidD (dtd_lit (s := t) (by omega))
  have LN := mkHidD (spec_lens (t := t) (by omega))
  clear ho1 ho2 hb3 HD2
  have hfd := fldD0
  obtain ⟨d, hd⟩ : ∃ d, (specDtd t).dtd = d := ⟨_, rfl⟩
  rw [hd] at O1 LT LN
  have hp3 : w.heap.size + 1 < w3.heap.size := HD3.out.lt
  have HD4 := mkHidD (HD3.out.alloc (.cells #[.slice ae d.ents.length ce, .slice aa d.atts.length ca] 39))
  have DB := mkHidD (heap_alloc_new w3 (.cells #[.slice ae d.ents.length ce, .slice aa d.atts.length ca] 39))
  have O4 := mkHidD (O1.out.alloc (.cells #[.slice ae d.ents.length ce, .slice aa d.atts.length ca] 39))
  rw [hd]
  go_wp2_with fail
  generalize hW4 : w3.alloc (.cells #[.slice ae d.ents.length ce, .slice aa d.atts.length ca] 39) = W4 at HD4 DB O4 ⊢
  generalize w3.heap.size = p at DB hp3 ⊢
  clear hW4 O1 HD3
  have c0 : W4.cell? ⟨p, 0, none⟩ = some (.slice ae d.ents.length ce) := by simp [World.cell?, DB.out]
  have c1 : W4.cell? ⟨p, 1, none⟩ = some (.slice aa d.atts.length ca) := by simp [World.cell?, DB.out]
  have hpw : p ≠ w.heap.size := by omega
  go_region_held3 (fun W => W.cell? ⟨p, 0, none⟩ = some (.slice ae d.ents.length ce) ∧ W.cell? ⟨p, 1, none⟩ = some (.slice aa d.atts.length ca)) (first | go_keep | ((try dsimp only); (repeat' apply And.intro) <;> (first | go_keep | exact set2_keep hpw (by assumption))))
    (first
      | (go_at_call 22; refine (pick_any HS.out (dr_lit HD4.out _) _ 4 4 1 (texts_litD (S := 1) (by simp [isShort])) (by have := HD4.out.lt; omega) (by omega) (by omega)).mono ?_; rintro e w5 ⟨nm, rfl, hnm, hd5, hg5⟩; have c0 := cell_lit hg5 c0 hp3; have c1 := cell_lit hg5 c1 hp3; obtain ⟨r0, r1, s0, s1⟩ := res_lit hd5.below))
  have O5 := mkHidD (own_some (own_lit O4.out _) hg5 (own_far O4.out hp2))
  have BW := mkHidD (B0.out.trans (hd5.below.mono (by rw [hsz]; omega)))
  clear hd5 hg5 O4 HD4 DB HS B0 Z0
  go_wp2
  refine bodyPost_ret (v := .tuple #[.agg #[.slice ae d.ents.length ce, .slice aa d.atts.length ca], .string nm]) (by simp [results, Tryz.results15, go_sem, r0, r1]) rfl ?_
  obtain ⟨a2, c2, he2, hE⟩ := ents_of_row (own_set (own_set O5.out (k := w.heap.size) (by omega) 0 (.slice ae d.ents.length ce)) (k := w.heap.size) (by omega) 1 (.slice aa d.atts.length ca))
  injection he2 with h1 _ _
  subst h1
  exact ⟨d, ae, aa, ce, ca, nm, rfl, hE, LT.out, LN.out.1, below_set (below_set BW.out (Nat.le_refl _) _ _) (Nat.le_refl _) _ _⟩

end Go.Proofs.YteebdfcegndaoaaGreatDoor

namespace Go.Proofs.YteebdfcegndaoaaGreatDoor
open Go.RowKit Plain1 Strs Strs2 Lists Bytes Plain3 Plain5 Plain6 Plain9 Plain10 Plain11 Plain12 Plain23 Plain26 Plain32 Ents

theorem grT {a b c : World} {r : Option Nat} (h : a.grownBy b r) (k : b.grownBy c r) : a.grownBy c r := grown_trans' h k
theorem gr0 {W W' : World} {r : Option Nat} (h : W.drew.grownBy W' r) : W.grownBy W' r := ⟨h.os, h.tape, h.output, h.size, h.block⟩
theorem gr1 {W W' : World} {o : Obj} {r : Option Nat} (h : (W.alloc o).grownBy W' r) : W.grownBy W' r := grown_of_alloc h
theorem gr1d {W W' : World} {o : Obj} {r : Option Nat} (h : (W.alloc o).drew.grownBy W' r) : W.grownBy W' r := grown_of_alloc (gr0 h)
theorem gr2d {W W' : World} {o o' : Obj} {r : Option Nat} (h : ((W.alloc o).alloc o').drew.grownBy W' r) : W.grownBy W' r := grown_of_alloc (grown_of_alloc (gr0 h))
theorem cell_gr {W W' : World} {g p j : Nat} {v : Value} (hg : W.grownBy W' (some g)) (h : W.cell? ⟨p, j, none⟩ = some v) (hp : g < p) : W'.cell? ⟨p, j, none⟩ = some v := by
  have h1 : W'.heap[p]? = W.heap[p]? := hg.block p (block_lt h) (fun e => by have := Option.some.inj e; omega)
  rw [World.cell?_of_block (a := ⟨p, j, none⟩) h1]; exact h
theorem dr_drew {W0 w : World} {g : Nat} {a : Option Addr} {n cap : Nat} (h : Dr W0 w g a n cap) : Dr W0 w.drew g a n cap := h.on ⟨rfl, rfl, rfl, Nat.le_refl _, fun _ _ => rfl⟩
theorem dr_lit2 {W0 w : World} {g : Nat} {a : Option Addr} {n cap : Nat} (h : Dr W0 w g a n cap) (o o' : Obj) : Dr W0 ((w.alloc o).alloc o').drew g a n cap := dr_drew ((h.alloc o).alloc o')
theorem texts_up {w : World} {b n S : Nat} {o : Obj} (h : Texts w b n S) (hb : b < w.heap.size) : Texts (w.alloc o) b n S := fun k hk => by
  obtain ⟨t, h1, h2⟩ := h k hk
  exact ⟨t, by rw [World.cell?_of_block (a := ⟨b, k, none⟩) (heap_alloc_old w o hb)]; exact h1, h2⟩
theorem texts_a2 {w : World} {cs : Array Value} {t : TypeId} {S : Nat} {o : Obj} (hall : cs.all (isShort S) = true) : Texts ((w.alloc (.cells cs t)).alloc o).drew w.heap.size cs.size S := texts_up (texts_lit (t := t) hall) (by simp)
theorem texts_b2 {w : World} {cs : Array Value} {t : TypeId} {S : Nat} {o : Obj} (hall : cs.all (isShort S) = true) : Texts ((w.alloc o).alloc (.cells cs t)).drew (w.heap.size + 1) cs.size S := by
  have h1 := texts_lit (w := w.alloc o) (t := t) hall
  have h2 : (w.alloc o).heap.size = w.heap.size + 1 := by simp
  rw [h2] at h1
  exact h1
theorem tx_b {W w5 : World} {cs : Array Value} {t : TypeId} {S g : Nat} {o : Obj} (hg : ((W.alloc (.cells cs t)).alloc o).drew.grownBy w5 (some g)) (hall : cs.all (isShort S) = true) (hlt : g < W.heap.size) : Texts w5 W.heap.size cs.size S :=
  Texts.grown (texts_up (texts_lit (w := W) (t := t) hall) (by simp)) (gr0 hg) (by omega)
theorem dr_ne1 {W0 w : World} {g : Nat} {a : Option Addr} {n cap : Nat} (h : Dr W0 w g a n cap) : w.heap.size + 1 ≠ g := by have := h.lt; omega
theorem tx_a {W w5 : World} {cs : Array Value} {t : TypeId} {S g : Nat} {o : Obj} (hg : ((W.alloc o).alloc (.cells cs t)).drew.grownBy w5 (some g)) (hall : cs.all (isShort S) = true) (hlt : g < W.heap.size) : Texts w5 (W.heap.size + 1) cs.size S := by
  have h1 := texts_lit (w := W.alloc o) (t := t) hall
  have h2 : (W.alloc o).heap.size = W.heap.size + 1 := by simp
  rw [h2] at h1
  exact h1.grown (gr0 hg) (by omega)

set_option maxRecDepth 100000 in
set_option maxHeartbeats 800000 in
theorem drawAtt_any (a : Option Addr) (n cap : Nat) (w : World) (hS : Fed w a n) :
    Calls Tryz.prog 16 #[.slice a n cap] w fun e w' => ∃ (d : Dt) (ae aa : Option Addr) (ce ca : Nat) (o nm : ByteArray), e = .returned (.tuple #[.agg #[.slice ae d.ents.length ce, .slice aa d.atts.length ca], .string o, .string nm]) ∧ AttsAt w' aa d.atts ∧ LitD d ∧ d.atts.length ≤ 4000 ∧ Below w.heap.size w w' := by
  have B0 := mkHidD (show Below w.heap.size w (w.alloc zD2) from (Below.refl _ _).alloc (Nat.le_refl _) _)
  have Z0 := mkHidD (heap_alloc_new w zD2)
  have hsz : (w.alloc zD2).heap.size = w.heap.size + 1 := by simp
  have hS' := fed_up hS B0.out
  have HS := mkHidD hS'
  have HC := mkHidD (source_any a n cap _ hS')
  clear hS hS'
  go_enter Tryz.func16, Tryz.ntmps16
  go_wp2_with fail
  refine HC.out.mono ?_
  rintro e w1 ⟨rfl, hd⟩
  rw [hsz] at hd ⊢
  have HD1 := mkHidD hd
  clear hd HC
  go_wp2_with fail
  refine (l03Head_any HS.out HD1.out).mono ?_
  rintro e w2 ⟨t, rfl, hts, hd, -⟩
  have HD2 := mkHidD hd
  clear hd HD1
  go_wp2_with fail
  refine (specDtd_any t w2).mono ?_
  rintro e w3 ⟨ae, ce, aa, ca, rfl, ho1, ho2, hb3⟩
  have HD3 := mkHidD (HD2.out.on hb3)
  have hp2 : w.heap.size + 1 < w2.heap.size := HD2.out.lt
  have O1 := mkHidD ho2
  have LT := mkHidD (dtd_lit (s := t) (by omega))
  have LN := mkHidD (spec_lens (t := t) (by omega))
  clear ho1 ho2 hb3 HD2
  have hfd := fldD0
  obtain ⟨d, hd⟩ : ∃ d, (specDtd t).dtd = d := ⟨_, rfl⟩
  rw [hd] at O1 LT LN
  have hp3 : w.heap.size + 1 < w3.heap.size := HD3.out.lt
  have HD4 := mkHidD (HD3.out.alloc (.cells #[.slice ae d.ents.length ce, .slice aa d.atts.length ca] 39))
  have DB := mkHidD (heap_alloc_new w3 (.cells #[.slice ae d.ents.length ce, .slice aa d.atts.length ca] 39))
  have O4 := mkHidD (O1.out.alloc (.cells #[.slice ae d.ents.length ce, .slice aa d.atts.length ca] 39))
  rw [hd]
  go_wp2_with fail
  generalize hW4 : w3.alloc (.cells #[.slice ae d.ents.length ce, .slice aa d.atts.length ca] 39) = W4 at HD4 DB O4 ⊢
  generalize w3.heap.size = p at DB hp3 ⊢
  clear hW4 O1 HD3
  have c0 : W4.cell? ⟨p, 0, none⟩ = some (.slice ae d.ents.length ce) := by simp [World.cell?, DB.out]
  have c1 : W4.cell? ⟨p, 1, none⟩ = some (.slice aa d.atts.length ca) := by simp [World.cell?, DB.out]
  have hpw : p ≠ w.heap.size := by omega
  have hw4 := HD4.out.lt
  have C0 := mkHidD c0
  have C1 := mkHidD c1
  have hs2 : (#[.string ⟨#[97]⟩, .string ⟨#[98]⟩] : Array Value).all (isShort 1) = true := by simp [isShort]
  have hs3 : (#[.string ⟨#[107]⟩, .string ⟨#[109]⟩, .string ⟨#[110]⟩] : Array Value).all (isShort 1) = true := by simp [isShort]
  go_region_held3 (fun W => W.cell? ⟨p, 0, none⟩ = some (.slice ae d.ents.length ce) ∧ W.cell? ⟨p, 1, none⟩ = some (.slice aa d.atts.length ca)) (first | go_keep | ((try dsimp only); (repeat' apply And.intro) <;> (first | go_keep | exact set2_keep hpw c0 | exact set2_keep hpw c1)))
    (first
      | (have hq5 := hd5; go_at_call 22; refine Calls.mono (pick_any HS.out (by first | exact hq5.alloc _ | exact hq5) _ _ _ 1 (by first | exact texts_lit (S := 1) hs3 | exact tx5) (by first | exact dr_ne hq5 | exact ne5 | exact dr_ne HD4.out) (by decide) (by decide)) ?_; rintro e w6 ⟨nm, rfl, hnm6, hd6, hg6'⟩; have hg6 : W4.grownBy w6 (some (w.heap.size + 1)) := (by first | exact grT hg5 (gr1 hg6') | exact grT hg5 hg6'); clear hg6'; have c0 := cell_gr hg6 C0.out hp3; have c1 := cell_gr hg6 C1.out hp3; obtain ⟨r0, r1, s0, s1⟩ := res_lit hd6.below)
      | (go_at_call 22; refine Calls.mono (pick_any HS.out (by first | exact dr_lit2 HD4.out _ _ | exact dr_lit HD4.out _) _ _ _ 1 (by first | exact texts_a2 (S := 1) hs2 | exact texts_b2 (S := 1) hs2 | exact texts_litD (S := 1) hs2) (by first | exact dr_ne HD4.out | exact dr_ne1 HD4.out) (by decide) (by decide)) ?_; rintro e w5 ⟨o, rfl, hnm, hd5, hg5'⟩; (try have tx5 := tx_a hg5' hs3 hw4); (try have tx5 := tx_b hg5' hs3 hw4); have hg5 : W4.grownBy w5 (some (w.heap.size + 1)) := (by first | exact gr2d hg5' | exact gr1d hg5'); clear hg5'; have ne5 : W4.heap.size + 1 ≠ w.heap.size + 1 := Nat.ne_of_gt (Nat.lt_succ_of_lt hw4); have c0 := cell_gr hg5 C0.out hp3; have c1 := cell_gr hg5 C1.out hp3; obtain ⟨r0, r1, s0, s1⟩ := res_lit hd5.below))
  all_goals
    have O5 := mkHidD (own_some O4.out hg6 (own_far O4.out hp2))
    have BW := mkHidD (B0.out.trans (hd6.below.mono (by rw [hsz]; omega)))
    clear hg5 hd6 hg6 O4 HD4 DB HS B0 Z0
    go_wp2
    refine bodyPost_ret (v := .tuple #[.agg #[.slice ae d.ents.length ce, .slice aa d.atts.length ca], .string o, .string nm]) (by simp [results, Tryz.results16, go_sem, r0, r1]) rfl ?_
    obtain ⟨a2, c2, he2, hE⟩ := atts_of_row (own_set (own_set O5.out (k := w.heap.size) (by omega) 0 (.slice ae d.ents.length ce)) (k := w.heap.size) (by omega) 1 (.slice aa d.atts.length ca))
    injection he2 with h1 _ _
    subst h1
    exact ⟨d, ae, aa, ce, ca, o, nm, rfl, hE, LT.out, LN.out.2, below_set (below_set BW.out (Nat.le_refl _) _ _) (Nat.le_refl _) _ _⟩

end Go.Proofs.YteebdfcegndaoaaGreatDoor
