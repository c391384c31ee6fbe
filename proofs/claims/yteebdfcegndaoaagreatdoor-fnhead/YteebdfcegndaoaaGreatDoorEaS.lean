/- The contract of the model's l01Put: a character's bytes go in behind a row of bytes that the call owns. -/
/- What the texts on the two EntOf have in common. -/
/- The contract of the model's EntOf. -/
/- What the texts on the two AttOf have in common. -/
/- The contract of the model's AttOf. -/
import Derived.Test.YteebdfcegndaoaaGreatDoorProg
import Derived.Test.YteebdfcegndaoaaGreatDoorPlA
import Derived.WalkKit
import Derived.Test.YteebdfcegndaoaaGreatDoorImA
import Derived.WalkSmall
import Derived.Deep.QuietTactic
import Derived.BigQuiet
namespace Go.Proofs.YteebdfcegndaoaaGreatDoor
open Go.RowKit Plain1 Lists Bytes Go.Lib

theorem info8p : (Tryz.prog.info? 5).map (fun i => (i.zero, i.size, i.bytes)) = some (some (.int .u8 0), 1, 1) := by kernel_rfl

set_option maxHeartbeats 1000000 in
set_option maxRecDepth 100000 in
theorem put1 (B : Nat) (v : Value) (n : Nat) (xs : List Value) (c : Int) (hp : 0 ≤ c) (h1 : c ≤ 127) (w : World) (hown : w.ownsRow B 5 1 v n xs) (hlen : n + 4 ≤ 140737488355328) (hBw : B ≤ w.heap.size) :
    Calls Tryz.prog 147 #[v, .int .i64 c] w fun e w' => ∃ v', e = .returned v' ∧ w'.ownsRow B 5 1 v' (n + 1) (xs ++ [.int .u8 c]) ∧ ∃ o, (w.alloc o).grownBy w' v.ownBlock := by
  obtain ⟨i0, hi, hz0, hz1, hz2⟩ := info_parts info8p
  go_enter Tryz.func147, Tryz.ntmps147
  go_wp2_with (at_builtin; refine wpList_append_own _ rfl _ _ 22 rfl B 5 i0 (.int .u8 0) 1 1 Tryz.underlying22 hi hz0 hz1 hz2 rfl (by decide) _ _ _ rfl (hown.alloc _) ⟨w.heap.size, 0, none⟩ 1 1 [.int .u8 c] rfl rfl ?c1 ?c2 ?c3 ?c4 ?c5 ?_)
  case c1 =>
    intro j u hj
    match j, hj with
    | 0, hj => simp at hj; subst hj; simp [Addr.add]
    | (j + 1), hj => simp at hj
  case c2 => intro u hu; simp at hu; subst hu; rfl
  case c3 => unfold maxLen; omega
  case c4 => omega
  case c5 => simp; omega
  intro v' w2 hown' hgrow _
  go_wp2
  go_ret
  exact ⟨_, rfl, hown', _, hgrow⟩

set_option maxHeartbeats 1000000 in
set_option maxRecDepth 100000 in
theorem put2 (B : Nat) (v : Value) (n : Nat) (xs : List Value) (c : Int) (h0 : 128 ≤ c) (h1 : c ≤ 2047) (w : World) (hown : w.ownsRow B 5 1 v n xs) (hlen : n + 4 ≤ 140737488355328) (hBw : B ≤ w.heap.size) :
    Calls Tryz.prog 147 #[v, .int .i64 c] w fun e w' => ∃ v', e = .returned v' ∧ w'.ownsRow B 5 1 v' (n + 2) (xs ++ [.int .u8 (192 + c / 64), .int .u8 (128 + c % 64)]) ∧ ∃ o, (w.alloc o).grownBy w' v.ownBlock := by
  obtain ⟨i0, hi, hz0, hz1, hz2⟩ := info_parts info8p
  go_enter Tryz.func147, Tryz.ntmps147
  go_wp2_with (at_builtin; refine wpList_append_own _ rfl _ _ 22 rfl B 5 i0 (.int .u8 0) 1 1 Tryz.underlying22 hi hz0 hz1 hz2 rfl (by decide) _ _ _ rfl (hown.alloc _) ⟨w.heap.size, 0, none⟩ 2 2 [.int .u8 (192 + c / 64), .int .u8 (128 + c % 64)] rfl rfl ?c1 ?c2 ?c3 ?c4 ?c5 ?_)
  case c1 =>
    intro j u hj
    match j, hj with
    | 0, hj => simp at hj; subst hj; simp [Addr.add]
    | 1, hj => simp at hj; subst hj; simp [Addr.add]
    | (j + 2), hj => simp at hj
  case c2 => intro u hu; simp at hu; rcases hu with rfl | rfl <;> rfl
  case c3 => unfold maxLen; omega
  case c4 => omega
  case c5 => simp; omega
  intro v' w2 hown' hgrow _
  go_wp2
  go_ret
  exact ⟨_, rfl, hown', _, hgrow⟩

set_option maxHeartbeats 1000000 in
set_option maxRecDepth 100000 in
theorem put3 (B : Nat) (v : Value) (n : Nat) (xs : List Value) (c : Int) (h0 : 2048 ≤ c) (h1 : c ≤ 65535) (w : World) (hown : w.ownsRow B 5 1 v n xs) (hlen : n + 4 ≤ 140737488355328) (hBw : B ≤ w.heap.size) :
    Calls Tryz.prog 147 #[v, .int .i64 c] w fun e w' => ∃ v', e = .returned v' ∧ w'.ownsRow B 5 1 v' (n + 3) (xs ++ [.int .u8 (224 + c / 4096), .int .u8 (128 + c / 64 % 64), .int .u8 (128 + c % 64)]) ∧ ∃ o, (w.alloc o).grownBy w' v.ownBlock := by
  obtain ⟨i0, hi, hz0, hz1, hz2⟩ := info_parts info8p
  go_enter Tryz.func147, Tryz.ntmps147
  go_wp2_with (at_builtin; refine wpList_append_own _ rfl _ _ 22 rfl B 5 i0 (.int .u8 0) 1 1 Tryz.underlying22 hi hz0 hz1 hz2 rfl (by decide) _ _ _ rfl (hown.alloc _) ⟨w.heap.size, 0, none⟩ 3 3 [.int .u8 (224 + c / 4096), .int .u8 (128 + c / 64 % 64), .int .u8 (128 + c % 64)] rfl rfl ?c1 ?c2 ?c3 ?c4 ?c5 ?_)
  case c1 =>
    intro j u hj
    match j, hj with
    | 0, hj => simp at hj; subst hj; simp [Addr.add]
    | 1, hj => simp at hj; subst hj; simp [Addr.add]
    | 2, hj => simp at hj; subst hj; simp [Addr.add]
    | (j + 3), hj => simp at hj
  case c2 => intro u hu; simp at hu; rcases hu with rfl | rfl | rfl <;> rfl
  case c3 => unfold maxLen; omega
  case c4 => omega
  case c5 => simp; omega
  intro v' w2 hown' hgrow _
  go_wp2
  go_ret
  exact ⟨_, rfl, hown', _, hgrow⟩

set_option maxHeartbeats 1000000 in
set_option maxRecDepth 100000 in
theorem put4 (B : Nat) (v : Value) (n : Nat) (xs : List Value) (c : Int) (h0 : 65536 ≤ c) (h1 : c ≤ 1114111) (w : World) (hown : w.ownsRow B 5 1 v n xs) (hlen : n + 4 ≤ 140737488355328) (hBw : B ≤ w.heap.size) :
    Calls Tryz.prog 147 #[v, .int .i64 c] w fun e w' => ∃ v', e = .returned v' ∧ w'.ownsRow B 5 1 v' (n + 4) (xs ++ [.int .u8 (240 + c / 262144), .int .u8 (128 + c / 4096 % 64), .int .u8 (128 + c / 64 % 64), .int .u8 (128 + c % 64)]) ∧ ∃ o, (w.alloc o).grownBy w' v.ownBlock := by
  obtain ⟨i0, hi, hz0, hz1, hz2⟩ := info_parts info8p
  go_enter Tryz.func147, Tryz.ntmps147
  go_wp2_with (at_builtin; refine wpList_append_own _ rfl _ _ 22 rfl B 5 i0 (.int .u8 0) 1 1 Tryz.underlying22 hi hz0 hz1 hz2 rfl (by decide) _ _ _ rfl (hown.alloc _) ⟨w.heap.size, 0, none⟩ 4 4 [.int .u8 (240 + c / 262144), .int .u8 (128 + c / 4096 % 64), .int .u8 (128 + c / 64 % 64), .int .u8 (128 + c % 64)] rfl rfl ?c1 ?c2 ?c3 ?c4 ?c5 ?_)
  case c1 =>
    intro j u hj
    match j, hj with
    | 0, hj => simp at hj; subst hj; simp [Addr.add]
    | 1, hj => simp at hj; subst hj; simp [Addr.add]
    | 2, hj => simp at hj; subst hj; simp [Addr.add]
    | 3, hj => simp at hj; subst hj; simp [Addr.add]
    | (j + 4), hj => simp at hj
  case c2 => intro u hu; simp at hu; rcases hu with rfl | rfl | rfl | rfl <;> rfl
  case c3 => unfold maxLen; omega
  case c4 => omega
  case c5 => simp; omega
  intro v' w2 hown' hgrow _
  go_wp2
  go_ret
  exact ⟨_, rfl, hown', _, hgrow⟩

/-- The world behind: below B all is as it was. -/
theorem below_of_put {B : Nat} {w w' : World} {o : Obj} {v : Value} {e : TypeId} {n size : Nat} {xs : List Value} (hown : w.ownsRow B e size v n xs) (hBw : B ≤ w.heap.size) (hg : (w.alloc o).grownBy w' v.ownBlock) : Below B w w' :=
  ((Below.refl B w).alloc hBw o).grown hg (by simp; omega) (fun k hk => (hown.lt k hk).1)

theorem put_any (B : Nat) (v : Value) (n : Nat) (xs : List Value) (c : Int) (hc : charB c = true) (w : World) (hown : w.ownsRow B 5 1 v n xs) (hlen : n + 4 ≤ 140737488355328) (hBw : B ≤ w.heap.size) :
    Calls Tryz.prog 147 #[v, .int .i64 c] w fun e w' => ∃ v', e = .returned v' ∧ w'.ownsRow B 5 1 v' (n + (encodeRuneZ c).length) (xs ++ (encodeRuneZ c).map (Value.int .u8)) ∧ Below B w w' := by
  have hr := (charB_iff c).1 hc
  by_cases h1 : c ≤ 127
  · refine (put1 B v n xs c (by omega) h1 w hown hlen hBw).mono ?_
    rintro e w' ⟨v', he, ho, o, hg⟩
    rw [encodeRuneZ_one (by omega) h1]
    exact ⟨v', he, ho, below_of_put hown hBw hg⟩
  by_cases h2 : c ≤ 2047
  · refine (put2 B v n xs c (by omega) h2 w hown hlen hBw).mono ?_
    rintro e w' ⟨v', he, ho, o, hg⟩
    rw [encodeRuneZ_two (by omega) h2]
    exact ⟨v', he, ho, below_of_put hown hBw hg⟩
  by_cases h3 : c ≤ 65535
  · refine (put3 B v n xs c (by omega) h3 w hown hlen hBw).mono ?_
    rintro e w' ⟨v', he, ho, o, hg⟩
    rw [encodeRuneZ_three (by omega)]
    exact ⟨v', he, ho, below_of_put hown hBw hg⟩
  · refine (put4 B v n xs c (by omega) (by omega) w hown hlen hBw).mono ?_
    rintro e w' ⟨v', he, ho, o, hg⟩
    rw [encodeRuneZ_four (by omega) (by omega)]
    exact ⟨v', he, ho, below_of_put hown hBw hg⟩
end Go.Proofs.YteebdfcegndaoaaGreatDoor

namespace Go.Proofs.YteebdfcegndaoaaGreatDoor
open Go.RowKit Lists Ents

theorem mkHidEn {p : Prop} (h : p) : Hid p := h
/-- The head that came in and the answer's place, as a call keeps them. -/
structure DBox (w W : World) (a : Option Addr) (n c : Nat) (a' : Option Addr) (n' c' : Nat) (o : Obj) : Prop where
  head : W.heap[w.heap.size]? = some (.cells #[.slice a n c, .slice a' n' c'] 39)
  res : W.heap[w.heap.size + 1]? = some o
  grown : w.grownBy W none
theorem dbox_start (w : World) (a : Option Addr) (n c : Nat) (a' : Option Addr) (n' c' : Nat) (o : Obj) : DBox w ((w.alloc (.cells #[.slice a n c, .slice a' n' c'] 39)).alloc o) a n c a' n' c' o :=
  ⟨by rw [heap_alloc_old _ _ (by simp)]; exact heap_alloc_new _ _, by have := heap_alloc_new (w.alloc (.cells #[.slice a n c, .slice a' n' c'] 39)) o; simpa using this,
   ⟨rfl, rfl, rfl, by simp; omega, fun k hk _ => by rw [heap_alloc_old _ _ (by simp; omega), heap_alloc_old _ _ hk]⟩⟩
theorem DBox.cells {w W : World} {a a' : Option Addr} {n c n' c' : Nat} {o : Obj} (h : DBox w W a n c a' n' c' o) : W.cell? ⟨w.heap.size, 0, none⟩ = some (.slice a n c) ∧ W.cell? ⟨w.heap.size, 1, none⟩ = some (.slice a' n' c') := by
  simp [World.cell?, h.head]
theorem grown_new {w W : World} (h : w.grownBy W none) {k j : Nat} (hk : w.heap.size ≤ k) (u : Value) : w.grownBy (W.setCell ⟨k, j, none⟩ u) none :=
  ⟨h.os, h.tape, h.output, by have := h.size; simpa using this, fun i hi hr => by rw [Below.heap_setCell W ⟨k, j, none⟩ u i (by simp only; omega)]; exact h.block i hi hr⟩
end Go.Proofs.YteebdfcegndaoaaGreatDoor

namespace Go.Proofs.YteebdfcegndaoaaGreatDoor
open Go.RowKit Lists Ents

set_option maxHeartbeats 2000000 in
theorem specEntOf_any (w : World) (a a' : Option Addr) (n c n' c' : Nat) (l : List (ByteArray × ByteArray)) (nm : ByteArray) (hn : n = l.length) (hl : l.length ≤ 1048576) (h : EntsAt w a l) :
    Calls Tryz.prog 18 #[.agg #[.slice a n c, .slice a' n' c'], .string nm] w fun e w' => e = .returned (.agg #[.string (entR l nm).1, .string (entR l nm).2]) ∧ w.grownBy w' none := by
  subst hn
  obtain ⟨R, hR⟩ : ∃ R, entR l nm = R := ⟨_, rfl⟩
  rw [hR]
  have HR := mkHidEn hR
  clear hR
  have HA := mkHidEn h
  clear h
  have hb0 := dbox_start w a l.length c a' n' c' (.cells #[.string ⟨#[]⟩, .string ⟨#[]⟩] 50)
  have HB := mkHidEn hb0
  clear hb0
  by_cases hbig : 4000 < nm.size
  · have hR0 : R = (⟨#[]⟩, ⟨#[]⟩) := by rw [← HR.out]; exact ent_long hbig
    subst hR0
    go_enter Tryz.func18, Tryz.ntmps18
    go_wp2
    exact bodyPost_ret (v := .agg #[.string ⟨#[]⟩, .string ⟨#[]⟩]) (by simp [results, Tryz.results18, go_sem]) rfl ⟨rfl, HB.out.grown⟩
  go_enter Tryz.func18, Tryz.ntmps18
  go_wp2
  go_loopw [5] (fun i wr => ∃ k : Nat, k ≤ l.length ∧ i = .int .i64 k ∧ (l.take k).find? (isEnt nm) = none ∧ DBox w wr a l.length c a' n' c' (.cells #[.string ⟨#[]⟩, .string ⟨#[]⟩] 50)) (fun i _ => l.length - (intOf i).toNat)
  case atStart => exact ⟨0, Nat.zero_le _, rfl, rfl, HB.out⟩
  case round =>
    obtain ⟨k, hk, rfl, hno, hbx⟩ := hrel
    have HNO := mkHidEn hno
    have HX := mkHidEn hbx
    obtain ⟨d0, _⟩ := hbx.cells
    have hr0 : wr.cell? ⟨w.heap.size + 1, 0, none⟩ = some (.string ⟨#[]⟩) := by simp [World.cell?, hbx.res]
    have hr1 : wr.cell? ⟨w.heap.size + 1, 1, none⟩ = some (.string ⟨#[]⟩) := by simp [World.cell?, hbx.res]
    have hf0 : wr.frozen? ⟨w.heap.size + 1, 0, none⟩ = false := by simp [World.frozen?, hbx.res]
    have hf1 : wr.frozen? ⟨w.heap.size + 1, 1, none⟩ = false := by simp [World.frozen?, hbx.res]
    clear hno hbx HB
    by_cases hlt : k < l.length
    · obtain ⟨b, off, ha, hc⟩ := HA.out.grown HX.out.grown
      obtain rfl := ha (by omega)
      obtain ⟨c1, c2⟩ := hc k hlt
      obtain ⟨E, hE⟩ : ∃ E, l[k]'hlt = E := ⟨_, rfl⟩
      rw [hE] at c1 c2
      have HE := mkHidEn hE
      clear hc ha hE HA
      cases hst : (E.1.toList == nm.toList) with
      | true =>
        have hRE : R = E := by rw [← HR.out, ent_hit hbig hlt HNO.out (by rw [HE.out]; exact hst), HE.out]
        subst hRE
        go_wp2
        refine bodyPost_ret (v := .agg #[.string R.1, .string R.2]) (by simp [results, Tryz.results18, go_sem, hr0, hr1]) rfl ⟨rfl, ?_⟩
        exact grown_new (grown_new HX.out.grown (by omega) _) (by omega) _
      | false =>
        have hno2 := find_on hlt HNO.out (p := isEnt nm) (by rw [HE.out]; exact hst)
        have HN2 := mkHidEn hno2
        clear hno2
        go_wp2
        go_roundw
        case rel => exact ⟨k + 1, by omega, by go_num, HN2.out, HX.out⟩
        case measure => simp [intOf]; omega
    · have hR0 : R = (⟨#[]⟩, ⟨#[]⟩) := by rw [← HR.out]; exact ent_none hbig (by omega) HNO.out
      subst hR0
      clear HA
      go_wp2
      refine bodyPost_ret (v := .agg #[.string ⟨#[]⟩, .string ⟨#[]⟩]) (by simp [results, Tryz.results18, go_sem, hr0, hr1]) rfl ⟨rfl, ?_⟩
      exact grown_new (grown_new HX.out.grown (by omega) _) (by omega) _
end Go.Proofs.YteebdfcegndaoaaGreatDoor

namespace Go.Proofs.YteebdfcegndaoaaGreatDoor
open Go.RowKit Lists Ents

def zObj5 : Obj := .cells #[.string ⟨#[]⟩, .string ⟨#[]⟩, .bool false, .bool false, .string ⟨#[]⟩] 53
theorem att_no1 {o n : ByteArray} {e : At5} (h : (e.of.toList == o.toList) = false) : isAtt o n e = false := by unfold isAtt; rw [h]; rfl
theorem att_no2 {o n : ByteArray} {e : At5} (h : (e.nm.toList == n.toList) = false) : isAtt o n e = false := by unfold isAtt; rw [h, Bool.and_false]
theorem att_yes {o n : ByteArray} {e : At5} (h1 : (e.of.toList == o.toList) = true) (h2 : (e.nm.toList == n.toList) = true) : isAtt o n e = true := by unfold isAtt; rw [h1, h2]; rfl
theorem res5 {w W : World} {a a' : Option Addr} {n c n' c' : Nat} (h : DBox w W a n c a' n' c' zObj5) :
    W.cell? ⟨w.heap.size + 1, 0, none⟩ = some (.string ⟨#[]⟩) ∧ W.cell? ⟨w.heap.size + 1, 1, none⟩ = some (.string ⟨#[]⟩) ∧ W.cell? ⟨w.heap.size + 1, 2, none⟩ = some (.bool false) ∧ W.cell? ⟨w.heap.size + 1, 3, none⟩ = some (.bool false) ∧ W.cell? ⟨w.heap.size + 1, 4, none⟩ = some (.string ⟨#[]⟩) ∧
    W.frozen? ⟨w.heap.size + 1, 0, none⟩ = false ∧ W.frozen? ⟨w.heap.size + 1, 1, none⟩ = false ∧ W.frozen? ⟨w.heap.size + 1, 2, none⟩ = false ∧ W.frozen? ⟨w.heap.size + 1, 3, none⟩ = false ∧ W.frozen? ⟨w.heap.size + 1, 4, none⟩ = false := by
  have hr := h.res
  unfold zObj5 at hr
  simp [World.cell?, World.frozen?, hr]
theorem grown5 {w W : World} (h : w.grownBy W none) {k : Nat} (hk : w.heap.size ≤ k) (u0 u1 u2 u3 u4 : Value) :
    w.grownBy (((((W.setCell ⟨k, 0, none⟩ u0).setCell ⟨k, 1, none⟩ u1).setCell ⟨k, 2, none⟩ u2).setCell ⟨k, 3, none⟩ u3).setCell ⟨k, 4, none⟩ u4) none :=
  grown_new (grown_new (grown_new (grown_new (grown_new h hk _) hk _) hk _) hk _) hk _
end Go.Proofs.YteebdfcegndaoaaGreatDoor

namespace Go.Proofs.YteebdfcegndaoaaGreatDoor
open Go.RowKit Lists Ents

set_option maxHeartbeats 2000000 in
theorem specAttOf_any (w : World) (a a' : Option Addr) (n c n' c' : Nat) (l : List At5) (o nm : ByteArray) (hn : n' = l.length) (hl : l.length ≤ 1048576) (h : AttsAt w a' l) :
    Calls Tryz.prog 20 #[.agg #[.slice a n c, .slice a' n' c'], .string o, .string nm] w fun e w' =>
      e = .returned (.agg #[.string (attR l o nm).of, .string (attR l o nm).nm, .bool (attR l o nm).words, .bool (attR l o nm).has, .string (attR l o nm).val]) ∧ w.grownBy w' none := by
  subst hn
  obtain ⟨R, hR⟩ : ∃ R, attR l o nm = R := ⟨_, rfl⟩
  rw [hR]
  have HR := mkHidEn hR
  clear hR
  have HA := mkHidEn h
  clear h
  have HB := mkHidEn (dbox_start w a n c a' l.length c' zObj5)
  unfold zObj5 at HB
  by_cases hbig : 4000 < o.size ∨ 4000 < nm.size
  · have hR0 : R = zAtt := by rw [← HR.out]; exact att_long hbig
    subst hR0
    clear HR HA
    by_cases h1 : 4000 < o.size
    · clear hbig
      go_enter Tryz.func20, Tryz.ntmps20
      go_wp2
      exact bodyPost_ret (v := .agg #[.string ⟨#[]⟩, .string ⟨#[]⟩, .bool false, .bool false, .string ⟨#[]⟩]) (by simp [results, Tryz.results20, go_sem]) rfl ⟨rfl, HB.out.grown⟩
    · have h2 : 4000 < nm.size := by omega
      clear hbig
      go_enter Tryz.func20, Tryz.ntmps20
      go_wp2
      exact bodyPost_ret (v := .agg #[.string ⟨#[]⟩, .string ⟨#[]⟩, .bool false, .bool false, .string ⟨#[]⟩]) (by simp [results, Tryz.results20, go_sem]) rfl ⟨rfl, HB.out.grown⟩
  have h1 : ¬ 4000 < o.size := by omega
  have h2 : ¬ 4000 < nm.size := by omega
  have HBIG := mkHidEn hbig
  clear hbig
  go_enter Tryz.func20, Tryz.ntmps20
  go_wp2
  go_loopw [7] (fun i wr => ∃ k : Nat, k ≤ l.length ∧ i = .int .i64 k ∧ (l.take k).find? (isAtt o nm) = none ∧ DBox w wr a n c a' l.length c' zObj5) (fun i _ => l.length - (intOf i).toNat)
  case atStart => exact ⟨0, Nat.zero_le _, rfl, rfl, HB.out⟩
  case round =>
    obtain ⟨k, hk, rfl, hno, hbx⟩ := hrel
    have HNO := mkHidEn hno
    have HX := mkHidEn hbx
    obtain ⟨_, d0⟩ := hbx.cells
    obtain ⟨r0, r1, r2, r3, r4, f0, f1, f2, f3, f4⟩ := res5 hbx
    clear hno hbx HB
    by_cases hlt : k < l.length
    · obtain ⟨b, off, ha, hc⟩ := HA.out.grown HX.out.grown
      obtain rfl := ha (by omega)
      obtain ⟨c1, c2, c3, c4, c5⟩ := hc k hlt
      obtain ⟨E, hE⟩ : ∃ E, l[k]'hlt = E := ⟨_, rfl⟩
      rw [hE] at c1 c2 c3 c4 c5
      have HE := mkHidEn hE
      clear hc ha hE HA
      cases hst : (E.of.toList == o.toList) with
      | true =>
        cases hsu : (E.nm.toList == nm.toList) with
        | true =>
          have hRE : R = E := by rw [← HR.out, att_hit HBIG.out hlt HNO.out (by rw [HE.out]; exact att_yes hst hsu), HE.out]
          subst hRE
          go_wp2
          refine bodyPost_ret (v := .agg #[.string R.of, .string R.nm, .bool R.words, .bool R.has, .string R.val]) (by simp [results, Tryz.results20, go_sem, r0, r1, r2, r3, r4]) rfl ⟨rfl, ?_⟩
          exact grown5 HX.out.grown (by omega) _ _ _ _ _
        | false =>
          have hno2 := find_on hlt HNO.out (p := isAtt o nm) (by rw [HE.out]; exact att_no2 hsu)
          have HN2 := mkHidEn hno2
          clear hno2
          go_wp2
          go_roundw
          case rel => exact ⟨k + 1, by omega, by go_num, HN2.out, HX.out⟩
          case measure => simp [intOf]; omega
      | false =>
        have hno2 := find_on hlt HNO.out (p := isAtt o nm) (by rw [HE.out]; exact att_no1 hst)
        have HN2 := mkHidEn hno2
        clear hno2
        go_wp2
        go_roundw
        case rel => exact ⟨k + 1, by omega, by go_num, HN2.out, HX.out⟩
        case measure => simp [intOf]; omega
    · have hR0 : R = zAtt := by rw [← HR.out]; exact att_none HBIG.out (by omega) HNO.out
      subst hR0
      clear HA
      go_wp2
      refine bodyPost_ret (v := .agg #[.string ⟨#[]⟩, .string ⟨#[]⟩, .bool false, .bool false, .string ⟨#[]⟩]) (by simp [results, Tryz.results20, go_sem, r0, r1, r2, r3, r4]) rfl ⟨rfl, ?_⟩
      exact grown5 HX.out.grown (by omega) _ _ _ _ _
end Go.Proofs.YteebdfcegndaoaaGreatDoor
