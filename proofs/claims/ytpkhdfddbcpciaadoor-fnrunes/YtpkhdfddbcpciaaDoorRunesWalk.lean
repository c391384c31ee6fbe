/- The walk of the law FnRunes: it returns true, whatever is drawn. -/
import Derived.Test.YtpkhdfddbcpciaaDoorEndsModel
import Derived.Test.YtpkhdfddbcpciaaDoorDrawD
import Derived.Test.YtpkhdfddbcpciaaDoorUtfImpl
import Derived.Test.YtpkhdfddbcpciaaDoorRunesModel2
import Derived.Test.YtpkhdfddbcpciaaDoorRunesLoop
import Derived.Test.YtpkhdfddbcpciaaDoorEndsImpl
import Derived.Test.YtpkhdfddbcpciaaDoorEqNums
import Derived.Test.YtpkhdfddbcpciaaDoorPartsModel
import Derived.Test.YtpkhdfddbcpciaaDoorParts
import Derived.Test.YtpkhdfddbcpciaaDoorPlain8
namespace Go.Proofs.YtpkhdfddbcpciaaDoor
open Go.RowKit Plain1 Plain2 Lists Strs Bytes Plain3 Plain5 Plain7 Plain8

theorem Fed.on {W W' : World} {a : Option Addr} {n : Nat} (h : Fed W a n) (hb : Below W.heap.size W W') : Fed W' a n := by
  obtain ⟨zs, h1, h2, h3, h4⟩ := h
  exact ⟨zs, h1, h2, h3.below hb (Nat.le_refl _), h4⟩
theorem below_then {w a b : World} (h : Below w.heap.size w a) (k : Below a.heap.size a b) : Below w.heap.size w b := h.trans (k.mono h.size)

theorem field0 (a : Option Addr) (n c : Nat) (p q : Int) (w : World) : (Instr.field 28 (.agg #[.slice a n c, .int .i64 p, .int .i64 q]) 0).run Tryd.prog w = .ok (.slice a n c) w := by kernel_rfl
theorem field2 (a : Option Addr) (n c : Nat) (p q : Int) (w : World) : (Instr.field 28 (.agg #[.slice a n c, .int .i64 p, .int .i64 q]) 2).run Tryd.prog w = .ok (.int .i64 q) w := by kernel_rfl

/-- Characters' bytes are read as these characters. -/
theorem runes_utf (l : List Int) (hl : l.length ≤ 7) (hne : utfZ l ≠ []) : rList (strOfNums (utfZ l)) = l := by
  have hall : l.length ≤ 400 ∧ l.all charB = true := by
    by_cases h : l.length ≤ 400 ∧ l.all charB = true
    · exact h
    · exact absurd (by unfold utfZ; rw [if_neg h]) hne
  have e : utfZ l = encAll l := utfZ_good hall.1 hall.2
  have hs : (strOfNums (utfZ l)).size ≤ 28 := by rw [strOfNums_size]; have := utfZ_len l; omega
  unfold rList
  rw [if_neg (by omega), e, scanAll_enc l hall.2]

theorem enc_len_ge (l : List Int) : l.length ≤ (encAll l).length := by
  induction l with
  | nil => simp
  | cons c l ih =>
    have := (encodeRuneZ_len c).1
    simp [encAll] at ih ⊢
    omega

/-- What Runes answers of a short text: all characters, whose UTF-8 it is; or the place of the first byte that is none's, ahead of which all are. -/
theorem run_cases (u : ByteArray) (hu : u.size ≤ 40) : (rCode u = 0 ∧ strOfNums (utfZ (rList u)) = u) ∨ (rCode u = 3 ∧ ∃ p : Nat, rAt u = (p : Int) ∧ p < u.size ∧ rCode (u.extract 0 p) = 0) := by
  have hb := scan_back (s := u) (u.size + 1) 0 [] (Nat.zero_le _) rfl ⟨by simp [encAll], fun i hi => by simp [encAll] at hi⟩ rfl (by omega)
  have hc : ∀ x : ByteArray, x.size ≤ 40 → rCode x = (if 0 ≤ (scanAll x).2 then 3 else 0) ∧ rAt x = (if 0 ≤ (scanAll x).2 then (scanAll x).2 else 0) ∧ rList x = (scanAll x).1 := by
    intro x hx
    have hn : ¬ 4000 < x.size := by omega
    unfold rCode rAt rList
    rw [if_neg hn, if_neg hn, if_neg hn]
    exact ⟨rfl, rfl, rfl⟩
  obtain ⟨e1, e2, e3⟩ := hc u hu
  have hsc : scan u (u.size + 1) 0 [] = scanAll u := rfl
  rw [hsc] at hb
  rcases hb with ⟨l, e, h1, h2, h3⟩ | ⟨p, l, e, hp, h1, h2, h3⟩
  · left
    rw [e1, e3, e]
    have hlen : l.length ≤ 400 := by
      have := enc_len_ge l
      omega
    refine ⟨rfl, ?_⟩
    show strOfNums (utfZ l) = u
    rw [utfZ_good hlen h1]
    exact str_of_at h1 h2 h3
  · right
    have hpos : (0 : Int) ≤ (([] : List Int), (p : Int)).2 := by simp
    rw [e1, e2, e]
    refine ⟨if_pos hpos, p, if_pos hpos, hp, ?_⟩
    rw [pre_of_at h1 h2 h3 (by omega)]
    have hsz : (strOfNums (encAll l)).size = p := by rw [strOfNums_size, h3]
    rw [(hc _ (by omega)).1, scanAll_enc l h1]
    rfl

/-- What holds of a text with its ends made alike. -/
theorem ends_facts (t : ByteArray) : (⟨(endsOf t).toArray⟩ : ByteArray).size ≤ 4000 ∧ (∀ k, k < (⟨(endsOf t).toArray⟩ : ByteArray).size → byteAt ⟨(endsOf t).toArray⟩ k ≠ 13) ∧ (⟨(endsOf ⟨(endsOf t).toArray⟩).toArray⟩ : ByteArray) = ⟨(endsOf t).toArray⟩ := by
  have hno : ∀ c ∈ endsOf t, c ≠ 13 := by
    unfold endsOf
    split
    · simp
    · exact endsE_no13 _
  have hsz : (endsOf t).length ≤ 4000 := by
    unfold endsOf
    split
    · simp
    · have := endsE_len t.data.toList
      have e : t.data.toList.length = t.size := by simp
      omega
  generalize endsOf t = E at hno hsz ⊢
  refine ⟨by rw [size_mk]; exact hsz, fun k hk => ?_, ?_⟩
  · rw [size_mk] at hk
    unfold byteAt
    have hx : E.getD k 0 ≠ 13 := hno _ (by simp [List.getD, hk])
    intro h
    exact hx ((u8_toNat_eq _ 13).1 h)
  · have e : endsOf ⟨E.toArray⟩ = endsE E := by
      unfold endsOf
      rw [if_neg (by rw [size_mk]; omega)]
    rw [e, endsE_same hno]

theorem owns_on {B : Nat} {e : TypeId} {k : Nat} {v : Value} {n : Nat} {xs : List Value} {w w' : World} (h : w.ownsRow B e k v n xs) (hb : Below w.heap.size w w') : w'.ownsRow B e k v n xs :=
  h.kept (row := none) ⟨hb.os, hb.tape, hb.output, hb.size, fun i hi _ => hb.block i hi⟩ (by cases hv : v.ownBlock <;> simp)

/-- A box's cells, past another box and a callee. -/
theorem box_past {w6 w7 w8 : World} {a b c : Value} {o : Obj} (k0 : w7.cell? ⟨w6.heap.size, 0, none⟩ = some a) (k1 : w7.cell? ⟨w6.heap.size, 1, none⟩ = some b) (k2 : w7.cell? ⟨w6.heap.size, 2, none⟩ = some c) (hb : Below (w7.alloc o).heap.size (w7.alloc o) w8) :
    w8.cell? ⟨w6.heap.size, 0, none⟩ = some a ∧ w8.cell? ⟨w6.heap.size, 1, none⟩ = some b ∧ w8.cell? ⟨w6.heap.size, 2, none⟩ = some c := by
  have hz := block_lt k0
  have hx : Below w7.heap.size w7 w8 := ((Below.refl _ w7).alloc (Nat.le_refl _) o).trans (hb.mono (by simp))
  exact ⟨(hx.cell (p := ⟨w6.heap.size, 0, none⟩) hz).trans k0, (hx.cell (p := ⟨w6.heap.size, 1, none⟩) hz).trans k1, (hx.cell (p := ⟨w6.heap.size, 2, none⟩) hz).trans k2⟩

set_option maxRecDepth 100000 in
set_option maxHeartbeats 4000000 in
theorem walk1 (a0 a1 : Option Addr) (n0 n1 cap0 cap1 : Nat) (m : Int) (w : World) (hS0 : Fed w a0 n0) (hS1 : Fed w a1 n1) (h0 : n0 ≤ 1048576) (h1 : n1 ≤ 1048576)
    (t : TypeId) (fr : Nat × Nat) (hg : w.heap[0]? = some (.cells startCells t fr)) (tp : TypeId) (frp : Nat × Nat) (hgp : w.heap[1]? = some (.cells partCells tp frp)) (hm : w.cell? ⟨2, 0, none⟩ = some (.int .i64 m)) :
    Calls Tryd.prog 3 #[.slice a0 n0 cap0, .slice a1 n1 cap1] w fun e w' => e = .returned (.bool true) ∧ Below w.heap.size w w' := by
  have HG := mkHidD hg
  have HGP := mkHidD hgp
  have HM := mkHidD hm
  have F0 := mkHidD hS0
  have F1 := mkHidD hS1
  clear hg hgp hm hS0 hS1
  go_enter Tryd.func3, Tryd.ntmps3
  go_wp2_with fail
  refine (drawUtf_any a0 n0 cap0 w F0.out).mono ?_
  rintro e w1 ⟨v1, l, rfl, hl, ho1, hb1⟩
  obtain ⟨al, cl, rfl, hA1⟩ := ints_of_owns ho1
  have B1 := mkHidD hb1
  clear ho1
  go_wp2_with fail
  refine (implUtf_any al l.length cl l w1 rfl (by omega) hA1).mono ?_
  rintro e w2 ⟨rfl, hb2⟩
  have hA2 := hA1.below hb2 (Nat.le_refl _)
  have B2 := mkHidD (below_then B1.out hb2)
  clear hA1 hb1 hb2 B1
  go_wp2_with fail
  refine (specUtf_any al l.length cl l w2 rfl (by omega) hA2).mono ?_
  rintro e wx ⟨rfl, hb3⟩
  have A3 := mkHidD (hA2.below hb3 (Nat.le_refl _))
  have BX := mkHidD (below_then B2.out hb3)
  clear hA2 hb3 B2
  obtain ⟨T, hT⟩ : ∃ T, strOfNums (utfZ l) = T := ⟨_, rfl⟩
  rw [hT]
  have HT := mkHidD hT
  clear hT
  by_cases hem : T.toList.isEmpty = true
  rotate_left
  focus
    have hem' : T.toList.isEmpty = false := by simpa using hem
    clear hem
    have hne : utfZ l ≠ [] := by
      intro h
      have hT0 : T = ByteArray.empty := by rw [← HT.out, h]; rfl
      have hE : ByteArray.empty.toList.isEmpty = true := by rw [Lib.toList_data]; rfl
      rw [hT0, hE] at hem'
      cases hem'
    have hrl := runes_utf l hl hne
    rw [HT.out] at hrl
    have hr := implRunes_any T wx
    rw [hrl] at hr
    clear hrl hne
    go_wp2_with fail
    refine hr.mono ?_
    rintro e w4 ⟨v4, rfl, ho4, hb4⟩
    obtain ⟨a4, c4, rfl, hA4⟩ := ints_of_owns ho4
    have hq := nums_same a4 al l.length c4 cl l w4 rfl (by omega) hA4 (A3.out.below hb4 (Nat.le_refl _))
    have B4 := mkHidD (below_then BX.out hb4)
    have hf0 := field0 a4 l.length c4 (rAt T) (rCode T)
    clear hr ho4 hA4 hb4 BX
    go_wp2_with fail
    refine hq.mono ?_
    rintro e wx ⟨rfl, hb5⟩
    have BX := mkHidD (below_then B4.out hb5)
    clear hq B4 hb5 A3 HT hf0 hem'
    go_wp2_with fail
  rotate_left
  focus
    go_wp2_with fail
    clear A3 HT hem
  all_goals
    refine (drawRunes_any a1 n1 cap1 wx (F1.out.on BX.out)).mono ?_
    rintro e w5 ⟨u, rfl, hu, hb5⟩
    have B5 := mkHidD (below_then BX.out hb5)
    clear hb5 BX
    have hL4 := rList_len u
    have hi := implRunes_any u w5
    have hsp := fun wz => specRunes_any u wz (by omega)
    have hcs := run_cases u hu
    obtain ⟨L, hL⟩ : ∃ L, rList u = L := ⟨_, rfl⟩
    rw [hL] at hi hL4
    simp only [hL] at hsp hcs
    clear hL
    obtain ⟨at3, hat⟩ : ∃ L, rAt u = L := ⟨_, rfl⟩
    obtain ⟨co, hco⟩ : ∃ L, rCode u = L := ⟨_, rfl⟩
    simp only [hat, hco] at hi hsp hcs
    clear hat hco
    go_wp2_with fail
    refine hi.mono ?_
    rintro e w6 ⟨v6, rfl, ho6, hb6⟩
    obtain ⟨a6, c6, rfl, -⟩ := ints_of_owns ho6
    have O6 := mkHidD ho6
    have B6 := mkHidD (below_then B5.out hb6)
    clear hi ho6 hb6 B5
    go_wp2_with fail
    refine (hsp _).mono ?_
    rintro e w7 ⟨v7, rfl, ho7, hb7⟩
    obtain ⟨a7, c7, rfl, -⟩ := ints_of_owns ho7
    have O67 := mkHidD (owns_on (O6.out.alloc _) hb7)
    have O7 := mkHidD ho7
    obtain ⟨k0, k1, k2, f0, f1, f2, hz7, HB7⟩ := box3 hb7
    have B7 := mkHidD (below_then B6.out HB7.out)
    clear hsp ho7 hb7 B6 HB7 f0 f1 f2 O6
    go_wp2_with fail
    refine (nums_same a6 a7 L.length c6 c7 L _ rfl (by omega) (ints_at_owns (O67.out.alloc _)) (ints_at_owns (O7.out.alloc _))).mono ?_
    rintro e w8 ⟨rfl, hb8⟩
    obtain ⟨q0, q1, q2⟩ := box_past k0 k1 k2 hb8
    have O68 := mkHidD (owns_on (O67.out.alloc _) hb8)
    have B8 := mkHidD (below_then (B7.out.alloc B7.out.size _) hb8)
    clear k0 k1 k2 hb8 B7 O7 O67 hz7
    rcases hcs with ⟨hc, hrt⟩ | ⟨hc, p, hp, hpl, hpc⟩
    focus
      subst hc
      have hiu := implUtf_any a6 L.length c6 L w8 rfl (by omega) (ints_at_owns O68.out)
      rw [hrt] at hiu
      clear hrt O68
      go_wp2_with fail
      refine hiu.mono ?_
      rintro e wy ⟨rfl, hb9⟩
      have r0 := (hb9.cell (p := ⟨w6.heap.size, 0, none⟩) (block_lt q0)).trans q0
      have r1 := (hb9.cell (p := ⟨w6.heap.size, 1, none⟩) (block_lt q1)).trans q1
      have r2 := (hb9.cell (p := ⟨w6.heap.size, 2, none⟩) (block_lt q2)).trans q2
      have BY := mkHidD (below_then B8.out hb9)
      clear hiu hb9 B8 q0 q1 q2
      go_wp2_with fail
      clear r0 r1 r2
    rotate_left
    focus
      subst hc hp
      clear O68
      have hr9 := implRunes_any (u.extract 0 p) w8
      rw [hpc] at hr9
      go_wp2_with fail
      refine hr9.mono ?_
      rintro e wy ⟨v9, rfl, ho9, hb9⟩
      obtain ⟨a9, c9, rfl, -⟩ := ints_of_owns ho9
      have hf2 := field2 a9 (rList (u.extract 0 p)).length c9 (rAt (u.extract 0 p)) 0
      have BY := mkHidD (below_then B8.out hb9)
      clear hr9 ho9 hb9 B8 q0 q1 q2 hpc
      go_wp2_with fail
      clear hf2 hpl
    all_goals clear hL4 hu
  all_goals
    refine (drawEnds_any a1 n1 cap1 wy (F1.out.on BY.out)).mono ?_
    rintro e w10 ⟨t0, rfl, ht, hb10⟩
    have B10 := mkHidD (below_then BY.out hb10)
    have M10 := mkHidD ((B10.out.cell (p := ⟨2, 0, none⟩) (block_lt HM.out)).trans HM.out)
    have hie := implEnds_any t0 m w10 M10.out
    have hse := specEnds_any t0
    obtain ⟨hfs, hf13, hff⟩ := ends_facts t0
    obtain ⟨f, hf⟩ : ∃ f : ByteArray, ⟨(endsOf t0).toArray⟩ = f := ⟨_, rfl⟩
    rw [hf] at hie hfs hf13 hff
    simp only [hf] at hse
    clear hf hb10 BY M10
    go_wp2_with fail
    refine hie.mono ?_
    rintro e w11 ⟨rfl, hb11⟩
    have B11 := mkHidD (below_then B10.out hb11)
    clear hie hb11 B10
    have H13 := mkHidD hf13
    have HFF := mkHidD hff
    have HSE := mkHidD hse
    clear hf13 hff hse
    go_wp2_with fail
    go_loop [12] (fun i => ∃ (k : Nat), k ≤ f.size ∧ i = .int .i64 k) (fun i => f.size - (intOf i).toNat)
    case atStart => exact ⟨0, Nat.zero_le _, rfl⟩
    case round =>
      obtain ⟨k, hk, rfl⟩ := hrel
      by_cases hlt : k < f.size
      · obtain ⟨b, hb⟩ : ∃ b, byteAt f k = b := ⟨_, rfl⟩
        have hb13 : (b == 13) = false := by rw [← hb]; simpa using H13.out k hlt
        have HBB := mkHidD hb
        clear hb
        go_wp2_with (refine wpList_index_byte rfl 9 (.tmp 114) (.tmp 115) rfl f k _ b rfl rfl rfl hlt Tryd.underlying9 HBB.out ?_)
        go_round
        case rel => exact ⟨k + 1, by omega, by go_num⟩
        case measure => simp [intOf]; omega
      · go_wp2_with fail
        refine (drawStart_any a0 n0 cap0 w11 (F0.out.on B11.out)).mono ?_
        rintro e w12 ⟨x, rfl, hb12⟩
        have B12 := mkHidD (below_then B11.out hb12)
        clear hb12 B11
        go_wp2_with fail
        refine (HSE.out w12).mono ?_
        rintro e w13 ⟨rfl, hb13⟩
        have B13 := mkHidD (below_then B12.out hb13)
        have hi2 := implEnds_any f m w13 ((B13.out.cell (p := ⟨2, 0, none⟩) (block_lt HM.out)).trans HM.out)
        rw [HFF.out] at hi2
        clear hb13 B12
        go_wp2_with fail
        refine hi2.mono ?_
        rintro e w14 ⟨rfl, hb14⟩
        have B14 := mkHidD (below_then B13.out hb14)
        clear hi2 hb14 B13
        have QG : Hid (∀ wz : World, Below w.heap.size w wz → wz.heap[0]? = some (.cells startCells t fr)) := fun wz hz => (hz.block _ (Array.getElem?_eq_some_iff.1 HG.out).1).trans HG.out
        have QGP : Hid (∀ wz : World, Below w.heap.size w wz → wz.heap[1]? = some (.cells partCells tp frp)) := fun wz hz => (hz.block _ (Array.getElem?_eq_some_iff.1 HGP.out).1).trans HGP.out
        go_wp2_with (first | (go_at_call 20; refine (implChar_any _ _).mono ?_; rintro e w' ⟨rfl, rfl⟩) | (go_at_call 21; refine (specChar_any _ _).mono ?_; rintro e w' ⟨rfl, rfl⟩))
        refine (implStart_any x _ t fr (QG.out _ B14.out)).mono ?_
        rintro e w15 ⟨rfl, hb15⟩
        have B15 := mkHidD (below_then B14.out hb15)
        clear hb15 B14
        go_wp2_with fail
        refine (specStart_any x w15).mono ?_
        rintro e w16 ⟨rfl, hb16⟩
        have B16 := mkHidD (below_then B15.out hb16)
        clear hb16 B15
        go_wp2_with fail
        refine (implStart_any x w16 t fr (QG.out _ B16.out)).mono ?_
        rintro e w17 ⟨rfl, hb17⟩
        have B17 := mkHidD (below_then B16.out hb17)
        clear hb17 B16
        cases hst : startB x with
        | true =>
          have hpt : partB x = true := by unfold partB; rw [hst]; simp
          go_wp2_with fail
          refine (implPart_any x w17 tp frp (QGP.out _ B17.out) t fr (QG.out _ B17.out)).mono ?_
          rintro e w18 ⟨rfl, hb18⟩
          have B18 := mkHidD (below_then B17.out hb18)
          clear hb18 B17
          go_wp2_with fail
          refine (implPart_any x w18 tp frp (QGP.out _ B18.out) t fr (QG.out _ B18.out)).mono ?_
          rintro e w19 ⟨rfl, hb19⟩
          have B19 := mkHidD (below_then B18.out hb19)
          clear hb19 B18
          go_wp2_with fail
          refine (specPart_any x w19).mono ?_
          rintro e w20 ⟨rfl, hb20⟩
          have B20 := mkHidD (below_then B19.out hb20)
          clear hb20 B19
          go_wp2
          go_ret
          exact ⟨rfl, B20.out⟩
        | false =>
          go_wp2_with fail
          refine (implPart_any x w17 tp frp (QGP.out _ B17.out) t fr (QG.out _ B17.out)).mono ?_
          rintro e w19 ⟨rfl, hb19⟩
          have B19 := mkHidD (below_then B17.out hb19)
          clear hb19 B17
          go_wp2_with fail
          refine (specPart_any x w19).mono ?_
          rintro e w20 ⟨rfl, hb20⟩
          have B20 := mkHidD (below_then B19.out hb20)
          clear hb20 B19
          go_wp2
          go_ret
          exact ⟨rfl, B20.out⟩
end Go.Proofs.YtpkhdfddbcpciaaDoor
