import Derived.Test.YtdblemolaojebaaGreatDoorPlR
import Derived.Test.YtdblemolaojebaaGreatDoorImI
set_option maxHeartbeats 2000000
set_option maxRecDepth 100000
namespace Go.Proofs.YtdblemolaojebaaGreatDoor.PlainS
open Go.RowKit Strs Plain6 Plain9 Plain10 Plain11 Plain13
def bQ0 (s : ByteArray) : Nat → Nat → Int → Option Int
 | 0, _, k => some k
 | f + 1, i, k => if i < s.size then (if aQ2 s i = 58 then (if 0 ≤ k then none else bQ0 s f (i + 1) i) else bQ0 s f (i + 1) k) else some k
theorem spl_end {s : ByteArray} {f i : Nat} {k : Int} (h : ¬ i < s.size) : bQ0 s f i k = some k := by
 cases f with
 | zero => rfl
 | succ f => unfold bQ0; rw [if_neg h]
theorem spl_two {s : ByteArray} {f i : Nat} {k : Int} (h : i < s.size) (hb : aQ2 s i = 58) (hk : 0 ≤ k) : bQ0 s (f + 1) i k = none := by
 conv => lhs; unfold bQ0
 rw [if_pos h, if_pos hb, if_pos hk]
theorem spl_one {s : ByteArray} {f i : Nat} {k : Int} (h : i < s.size) (hb : aQ2 s i = 58) (hk : ¬ 0 ≤ k) : bQ0 s (f + 1) i k = bQ0 s f (i + 1) i := by
 conv => lhs; unfold bQ0
 rw [if_pos h, if_pos hb, if_neg hk]
theorem spl_on {s : ByteArray} {f i : Nat} {k : Int} (h : i < s.size) (hb : ¬ aQ2 s i = 58) : bQ0 s (f + 1) i k = bQ0 s f (i + 1) k := by
 conv => lhs; unfold bQ0
 rw [if_pos h, if_neg hb]
def colZ (s : ByteArray) : Option Int := bQ0 s (s.size + 1) 0 (-1)
def bXn (s : ByteArray) : ByteArray × ByteArray × Bool :=
 match colZ s with
 | none => (⟨#[]⟩, ⟨#[]⟩, false)
 | some k => if k < 0 then (⟨#[]⟩, s, aYn s) else (s.extract 0 k.toNat, s.extract (k.toNat + 1) s.size, aYn (s.extract 0 k.toNat) && aYn (s.extract (k.toNat + 1) s.size))
def aXf (s : ByteArray) : ByteArray × ByteArray × Int :=
 if 4000 < s.size then (⟨#[]⟩, ⟨#[]⟩, 2) else if (bXn s).2.2 = true then ((bXn s).1, (bXn s).2.1, 0) else (⟨#[]⟩, ⟨#[]⟩, 3)
theorem bWh {s : ByteArray} {i : Nat} (hi : i < s.size) : aQ5 s i [58] = decide (aQ2 s i = 58) := by
 unfold aQ5
 rw [aZw hi]
 unfold aQ2
 have e : (List.isPrefixOf [58] (s.data.toList.getD i 0 :: rest s (i + 1))) = decide (s.data.toList.getD i 0 = 58) := by
  simp [List.isPrefixOf, Bool.beq_eq_decide_eq, eq_comm]
 first
  | rw [e]
  | (simp only [List.isPrefixOf, Bool.and_true]; rw [Bool.beq_eq_decide_eq])
 apply decide_eq_decide.2
 constructor
 · intro h; rw [h]; rfl
 · intro h; exact UInt8.toNat_inj.1 (by have : ((58 : UInt8).toNat : Int) = 58 := rfl; omega)
theorem spl_fz1 {s : ByteArray} {k : Int} (hk : 0 ≤ k) : ∀ (f i : Nat), s.size < i + f → bQ0 s f i k = if fz s i [58] = -1 then some k else none
 | 0, i, h => by rw [fz_nil (by simp) (by simp; omega), if_pos rfl]; rfl
 | f + 1, i, h => by
  by_cases hi : i < s.size
  · by_cases hb : aQ2 s i = 58
    · rw [spl_two hi hb hk, fz_hit hi (by rw [bWh hi]; exact decide_eq_true hb), if_neg (by omega)]
    · rw [spl_on hi hb, bJh hi (by rw [bWh hi]; exact decide_eq_false hb)]
      exact spl_fz1 hk f (i + 1) (by omega)
  · rw [spl_end hi, fz_nil (by simp) (by simp; omega), if_pos rfl]
theorem spl_fz0 {s : ByteArray} : ∀ (f i : Nat), s.size < i + f → bQ0 s f i (-1) = if fz s i [58] = -1 then some (-1) else if fz s ((fz s i [58]).toNat + 1) [58] = -1 then some (fz s i [58]) else none
 | 0, i, h => by rw [fz_nil (by simp) (by simp; omega), if_pos rfl]; rfl
 | f + 1, i, h => by
  by_cases hi : i < s.size
  · by_cases hb : aQ2 s i = 58
    · rw [spl_one hi hb (by omega), fz_hit hi (by rw [bWh hi]; exact decide_eq_true hb), if_neg (by omega), Int.toNat_natCast]
      exact spl_fz1 (by omega) f (i + 1) (by omega)
    · rw [spl_on hi hb, bJh hi (by rw [bWh hi]; exact decide_eq_false hb)]
      exact spl_fz0 f (i + 1) (by omega)
  · rw [spl_end hi, fz_nil (by simp) (by simp; omega), if_pos rfl]
theorem split_no {s : ByteArray} (h : upF s 0 [58] ≠ 0) : bXn s = (⟨#[]⟩, s, aYn s) ∧ Lib.contains s.data.toList [58] = false := by
 have h0 : fz s 0 [58] = -1 := by unfold upF at h; by_cases h0 : fz s 0 [58] = -1 <;> simp_all
 refine ⟨?_, ?_⟩
 · unfold bXn colZ
   rw [spl_fz0 _ _ (by omega), if_pos h0]
   rfl
 · have := (aWo s 0 [58]).1 h0
   unfold rest at this
   rw [List.drop_zero] at this
   unfold Lib.contains
   rw [this]; rfl
theorem split_yes {s : ByteArray} (h : upF s 0 [58] = 0) : upP s 0 [58] ≤ s.size ∧ (upT s 0 [58]).size ≤ s.size ∧ (s.extract (upP s 0 [58]) s.size).size ≤ s.size ∧ (Lib.cut s.data.toList [58]).2.2 = true ∧ (⟨(Lib.cut s.data.toList [58]).1.toArray⟩ : ByteArray) = upT s 0 [58] ∧ (⟨(Lib.cut s.data.toList [58]).2.1.toArray⟩ : ByteArray) = s.extract (upP s 0 [58]) s.size ∧
 bXn s = if Lib.contains (s.extract (upP s 0 [58]) s.size).data.toList [58] = true then (⟨#[]⟩, ⟨#[]⟩, false) else (upT s 0 [58], s.extract (upP s 0 [58]) s.size, aYn (upT s 0 [58]) && aYn (s.extract (upP s 0 [58]) s.size)) := by
 have hr : rest s 0 = s.data.toList := by unfold rest; rw [List.drop_zero]
 have hc := bJt (s := s) (p := 0) (sg := [58]) (Nat.zero_le _) h
 have hz := upT_size (s := s) (p := 0) (sg := [58]) (Nat.zero_le _) h
 rw [hr] at hc
 rcases aJh s 0 [58] (Nat.zero_le _) with h0 | ⟨i, h0, h1, h2, h3, h4⟩
 · unfold upF at h; rw [if_pos h0] at h; cases h
 have hP : upP s 0 [58] = i + 1 := by unfold upP; rw [h0]; rfl
 have hT : upT s 0 [58] = s.extract 0 i := by unfold upT; rw [h0]; rfl
 simp only [List.length_cons, List.length_nil] at h2
 refine ⟨hz.2, hz.1, by rw [hP, aWx]; omega, hc.1, hc.2.1, ?_, ?_⟩
 · rw [hP]
   unfold Lib.cut
   rw [hr] at h4
   rw [h4, if_pos (by omega)]
   apply ByteArray.ext
   apply Array.toList_inj.1
   rw [aJl]
   unfold rest
   simp
 · unfold bXn colZ
   rw [spl_fz0 _ _ (by omega), h0, if_neg (by omega), Int.toNat_natCast, hP, hT]
   have hcon : Lib.contains (s.extract (i + 1) s.size).data.toList [58] = true ↔ ¬ fz s (i + 1) [58] = -1 := by
    rw [aWo, aJl]
    unfold Lib.contains
    have := Lib.index_ge (rest s (i + 1)) [58]
    rw [decide_eq_true_iff]
    omega
   by_cases hn : fz s (i + 1) [58] = -1
   · rw [if_pos hn, if_neg (by rw [hcon]; simpa using hn)]
     simp only
     rw [if_neg (by omega), Int.toNat_natCast]
   · rw [if_neg hn, if_pos (hcon.2 hn)]
end Go.Proofs.YtdblemolaojebaaGreatDoor.PlainS
namespace Go.Proofs.YtdblemolaojebaaGreatDoor.PlainN
open Go.RowKit Plain9 Plain10 PlainS PlainR Go.Lib
structure Nm where
 pre : ByteArray
 loc : ByteArray
 spc : ByteArray
 val : ByteArray
structure Nd where
 kind : Int
 name : Nm
 decls : List (ByteArray × ByteArray)
 attrs : List Nm
 text : ByteArray
def zNm : Nm := ⟨⟨#[]⟩, ⟨#[]⟩, ⟨#[]⟩, ⟨#[]⟩⟩
def zNd : Nd := ⟨0, zNm, [], [], ⟨#[]⟩⟩
def xmlB : ByteArray := ⟨#[120, 109, 108]⟩
def xmlnsB : ByteArray := ⟨#[120, 109, 108, 110, 115]⟩
def xmlS : ByteArray := ⟨#[104, 116, 116, 112, 58, 47, 47, 119, 119, 119, 46, 119, 51, 46, 111, 114, 103, 47, 88, 77, 76, 47, 49, 57, 57, 56, 47, 110, 97, 109, 101, 115, 112, 97, 99, 101]⟩
def xmlnsS : ByteArray := ⟨#[104, 116, 116, 112, 58, 47, 47, 119, 119, 119, 46, 119, 51, 46, 111, 114, 103, 47, 50, 48, 48, 48, 47, 120, 109, 108, 110, 115, 47]⟩
def aZr (a b : ByteArray) : Bool := a.toList == b.toList
def aJ0 : List Ev → List ByteArray → Nat → Bool
 | [], op, el => decide (el = 1) && decide (op.length = 0)
 | e :: l, op, el =>
  if e.kind = 1 then (if op.length = 30 ∨ 60 < e.attrs.length then false else aJ0 l (op ++ [e.name]) (if op.length = 0 then el + 1 else el))
  else if e.kind = 2 then (if op.length = 0 then false else if aZr (op.getD (op.length - 1) ⟨#[]⟩) e.name = true then aJ0 l (op.take (op.length - 1)) el else false)
  else if e.kind = 3 then (if op.length = 0 then false else aJ0 l op el)
  else if e.kind = 4 ∨ e.kind = 5 then aJ0 l op el
  else false
def bXz (a : ByteArray × ByteArray) : (ByteArray × ByteArray) ⊕ Nm :=
 if aZr (aXf a.1).1 xmlnsB = true then .inl ((aXf a.1).2.1, a.2)
 else if aZr a.1 xmlnsB = true then .inl (⟨#[]⟩, a.2)
 else .inr ⟨(aXf a.1).1, (aXf a.1).2.1, ⟨#[]⟩, a.2⟩
def aKm (l : List (ByteArray × ByteArray)) : List (ByteArray × ByteArray) := l.filterMap fun a => (bXz a).elim some fun _ => none
def aVs (l : List (ByteArray × ByteArray)) : List Nm := l.filterMap fun a => (bXz a).elim (fun _ => none) some
def wrongZ (e : Ev) : Bool := decide ((aXf e.name).2.2 ≠ 0) || e.attrs.any fun a => decide ((aXf a.1).2.2 ≠ 0)
def aYv (d : ByteArray × ByteArray) : Bool :=
 !(aZr d.1 xmlnsB || aZr d.2 xmlnsS) && (!(!aZr d.1 ⟨#[]⟩ && aZr d.2 ⟨#[]⟩) && !(aZr d.1 xmlB != aZr d.2 xmlS))
def bV3 (l : List (ByteArray × ByteArray)) (p : ByteArray) : Option ByteArray := (l.reverse.find? fun d => aZr d.1 p).map (·.2)
def bKa (sc : List (List (ByteArray × ByteArray))) (p : ByteArray) : Nat → Option ByteArray
 | 0 => if aZr p xmlB = true then some xmlS else if aZr p ⟨#[]⟩ = true then some ⟨#[]⟩ else none
 | k + 1 => match bV3 (sc.getD k []) p with
  | some v => some v
  | none => bKa sc p k
def aJv (sc : List (List (ByteArray × ByteArray))) (p : ByteArray) : Option ByteArray := bKa sc p sc.length
def aZ6 (sc : List (List (ByteArray × ByteArray))) : List Nm → Option (List Nm)
 | [] => some []
 | a :: l => if aZr a.pre ⟨#[]⟩ = true then (aZ6 sc l).map (a :: ·) else
  match aJv sc a.pre with
  | none => none
  | some v => (aZ6 sc l).map ({ a with spc := v } :: ·)
def twinB (a b : Nm) : Bool := aZr a.spc b.spc && aZr a.loc b.loc
def aV5 : List Nm → List Nm → Bool
 | _, [] => false
 | seen, a :: l => seen.any (fun b => twinB a b) || aV5 (seen ++ [a]) l
def aKc (sc : List (List (ByteArray × ByteArray))) (e : Ev) : Except Int Nd :=
 if wrongZ e = true ∨ aZr (aXf e.name).1 xmlnsB = true ∨ (aKm e.attrs).all aYv = false then .error 3
 else
  match aJv (sc ++ [aKm e.attrs]) (aXf e.name).1 with
  | none => .error 5
  | some v =>
   match aZ6 (sc ++ [aKm e.attrs]) (aVs e.attrs) with
   | none => .error 5
   | some l => if aV5 [] l = true then .error 6 else .ok ⟨e.kind, ⟨(aXf e.name).1, (aXf e.name).2.1, v, ⟨#[]⟩⟩, aKm e.attrs, l, ⟨#[]⟩⟩
abbrev Scp := Nm × List (ByteArray × ByteArray)
def hasCol (t : ByteArray) : Bool := decide (fz t 0 [58] ≠ -1)
def bQ3 (st : List Scp) (e : Ev) : List Scp × Except Int Nd :=
 if e.kind = 1 then
  match aKc (st.map (·.2)) e with
  | .error c => (st, .error c)
  | .ok n => (st ++ [(n.name, n.decls)], .ok n)
 else if e.kind = 2 then (st.take (st.length - 1), .ok ⟨e.kind, (st.getD (st.length - 1) (zNm, [])).1, [], [], e.text⟩)
 else if e.kind = 5 then (if hasCol e.name = true then (st, .error 3) else (st, .ok ⟨e.kind, { zNm with loc := e.name }, [], [], e.text⟩))
 else (st, .ok ⟨e.kind, zNm, [], [], e.text⟩)
structure NOut where
 nodes : List Nd
 at1 : Int
 code : Int
def bK9 : List Ev → Nat → List Scp → List Nd → NOut
 | [], _, _, acc => ⟨acc, 0, 0⟩
 | e :: l, i, st, acc =>
  match bQ3 st e with
  | (_, .error c) => ⟨[], i, c⟩
  | (st', .ok n) => bK9 l (i + 1) st' (acc ++ [n])
def aVr (l : List Ev) : NOut :=
 if 400 < l.length then ⟨[], 0, 2⟩
 else if aJ0 l [] 0 = false then ⟨[], 0, 1⟩
 else bK9 l 0 [] []
end Go.Proofs.YtdblemolaojebaaGreatDoor.PlainN
namespace Go.Proofs.YtdblemolaojebaaGreatDoor
open Go.RowKit Plain1 Plain2 Plain5 Plain6 Lists
theorem mkHidI {p : Prop} (h : p) : Hid p := h
theorem bJy {w w1 : World} {v : Value} {n : Nat} {c0 : Int} {cs : List Int} {e : TypeId} {A C : Array Value} {t tp : TypeId} {fr frp : Nat × Nat} {ga gp : Nat} (hg : w.heap[ga]? = some (.cells A t fr)) (hgp : w.heap[gp]? = some (.cells C tp frp)) (hz : ga < w.heap.size) (hzp : gp < w.heap.size)
 (ho : w1.ownsRow w.heap.size e 1 v (n + 1) ((c0 :: cs).map (Value.int .i64))) (hb : Below w.heap.size w w1) :
 ∃ g cap, v = .slice (some ⟨g, 0, none⟩) (n + 1) cap ∧ (n + 1 ≤ cap ∧ cap ≤ maxLen) ∧ g < w1.heap.size ∧ w1.cell? ⟨g, 0, none⟩ = some (.int .i64 c0) ∧ Hid (∀ o, (w1.alloc o).heap[ga]? = some (.cells A t fr)) ∧ Hid (∀ o, (w1.alloc o).heap[gp]? = some (.cells C tp frp)) ∧ Hid (Below w.heap.size w w1) ∧ Hid (w1.ownsRow w.heap.size e 1 (.slice (some ⟨g, 0, none⟩) (n + 1) cap) (n + 1) ((c0 :: cs).map (Value.int .i64))) := by
 rcases aZm ho with ⟨_, h⟩ | ⟨g, cap, rfl⟩
 · omega
 · have hcap : n + 1 ≤ cap ∧ cap ≤ maxLen := by
    rcases ho.2 with ⟨h, _⟩ | ⟨g', cap', cur, h, _, _, h1, h2, _⟩
    · cases h
    · cases h; exact ⟨h1, h2⟩
   refine ⟨g, cap, rfl, hcap, (ho.lt g rfl).2, ?_, ?_, ?_, hb, ho⟩
   · rw [ho.cellAt 0 (by omega)]; rfl
   · intro o; exact ((hb.alloc hb.size o).block ga hz).trans hg
   · intro o; exact ((hb.alloc hb.size o).block gp hzp).trans hgp
theorem box_there {w w1 w2 : World} {a b c : Value} {t : TypeId} (hb1 : Below w.heap.size w w1) (hb : Below (w1.alloc (.cells #[a, b, c] t)).heap.size (w1.alloc (.cells #[a, b, c] t)) w2) :
 w2.cell? ⟨w1.heap.size, 0, none⟩ = some a ∧ Hid (Below w.heap.size w w2) :=
 ⟨(hb.cell (p := ⟨w1.heap.size, 0, none⟩) (by simp)).trans (by simp), (hb1.alloc hb1.size _).trans (hb.mono (by have := hb1.size; simp; omega))⟩
theorem aY5 (s : ByteArray) (w : World) (t : TypeId) (fr : Nat × Nat) (hg : w.heap[7]? = some (.cells aQg t fr)) (tp : TypeId) (frp : Nat × Nat) (hgp : w.heap[8]? = some (.cells aXr tp frp)) :
 Calls Tryz.prog 113 #[.string s] w fun e w' => e = .returned (.bool (aYn s)) ∧ Below w.heap.size w w' := by
 by_cases h1 : s.size < 1
 · rw [nameB_empty h1]
   have hem : s.toList.isEmpty = true := by
    rw [Lib.toList_data, List.isEmpty_iff, ← List.length_eq_zero_iff]
    have hsz : s.data.toList.length = s.size := by simp
    omega
   go_enter Tryz.func113, Tryz.ntmps113
   go_wp2_with fail
   go_ret
   exact ⟨rfl, Below.refl _ _⟩
 have hem : s.toList.isEmpty = false := by
  rw [Lib.toList_data]
  have hsz : s.data.toList.length = s.size := by simp
  cases h : s.data.toList with
  | nil => rw [h] at hsz; simp at hsz; omega
  | cons a l => rfl
 by_cases h2 : 60 < s.size
 · rw [nameB_long h2]
   go_enter Tryz.func113, Tryz.ntmps113
   go_wp2_with fail
   go_ret
   exact ⟨rfl, Below.refl _ _⟩
 have hz : 7 < w.heap.size := (gLt hg)
 have hzp : 8 < w.heap.size := (gLt hgp)
 have HG : Hid (w.heap[7]? = some (.cells aQg t fr)) := hg
 have HGP : Hid (w.heap[8]? = some (.cells aXr tp frp)) := hgp
 clear hg hgp
 have hcall := aWn s w
 have e1 : bV0 s = (aQv s).1 := by unfold bV0; rw [if_neg (by omega)]
 have hnb : aYn s = (decide ((aQv s).2 < 0) && nameL 0 (aQv s).1) := by unfold aYn; rw [decide_eq_true (by omega), Bool.true_and]
 by_cases hbad : (aQv s).2 < 0
 · have e3 : bQj s = 0 := by unfold bQj; rw [if_neg (by omega), if_neg (by omega)]
   have hlen := scan_some (by omega) hbad
   rw [decide_eq_true hbad, Bool.true_and] at hnb
   rw [hnb]
   rw [e1, e3] at hcall
   clear hnb e3 hbad
   have hll : (aQv s).1.length ≤ 4000 := by rw [← e1]; exact rList_len s
   clear e1
   obtain ⟨L, hL⟩ : ∃ L, (aQv s).1 = L := ⟨_, rfl⟩
   rw [hL] at hcall hlen hll ⊢
   clear hL
   obtain ⟨at3, hat⟩ : ∃ x, rAt s = x := ⟨_, rfl⟩
   rw [hat] at hcall
   clear hat
   match L, hlen with
   | c0 :: cs, _ =>
   have hnl : nameL 0 (c0 :: cs) = (aW2 c0 && cs.all aWj) := by
    unfold nameL
    cases h : aW2 c0 with
    | true => simp [h, start_part h]
    | false => simp [h]
   rw [hnl]
   clear hnl
   obtain ⟨n, hn⟩ : ∃ n, cs.length = n := ⟨_, rfl⟩
   have HN : Hid (cs.length = n) := hn
   simp only [List.length_cons, hn] at hll hcall
   clear hn hlen
   go_enter Tryz.func113, Tryz.ntmps113
   cases hst : aW2 c0 with
   | false =>
    go_wp2_with (first | (go_at_call 8; refine hcall.mono ?_; rintro e w1 ⟨v1, rfl, ho1, hb1⟩; clear hcall; obtain ⟨g, cap, rfl, ⟨hcap, hcm⟩, hgz, k0, G1, GP1, HB1, HO1⟩ := bJy HG.out HGP.out hz hzp ho1 hb1; clear ho1 hb1) | (go_at_call 133; refine (aVz _ _ t fr (G1.out _)).mono ?_; rintro e w2 ⟨rfl, hb2⟩; obtain ⟨q0, q1⟩ := box_there HB1.out hb2; replace hb2 := mkHidI hb2))
    go_ret
    exact ⟨rfl, q1.out⟩
   | true =>
    go_wp2_with (first | (go_at_call 8; refine hcall.mono ?_; rintro e w1 ⟨v1, rfl, ho1, hb1⟩; clear hcall; obtain ⟨g, cap, rfl, ⟨hcap, hcm⟩, hgz, k0, G1, GP1, HB1, HO1⟩ := bJy HG.out HGP.out hz hzp ho1 hb1; clear ho1 hb1) | (go_at_call 133; refine (aVz _ _ t fr (G1.out _)).mono ?_; rintro e w2 ⟨rfl, hb2⟩; obtain ⟨q0, q1⟩ := box_there HB1.out hb2; replace hb2 := mkHidI hb2))
    ·
     have hn0 : n = 0 := by omega
     subst hn0
     have hcs : cs = [] := List.eq_nil_of_length_eq_zero HN.out
     subst hcs
     clear hcap hcm k0 hgz q0
     go_loopw [30] (fun i wr => i = .int .i64 0 ∧ wr = w2) (fun _ _ => 0)
     case atStart => exact ⟨rfl, rfl⟩
     case round =>
      obtain ⟨rfl, rfl⟩ := hrel
      go_wp2
      go_ret
      exact ⟨rfl, q1.out⟩
    · have hcells : Hid (∀ k, k < n → w2.cell? ⟨g, 1 + k, none⟩ = some (.int .i64 (cs.getD k 0))) := by
       intro k hk
       refine (hb2.out.cell (p := ⟨g, 1 + k, none⟩) (by simp; omega)).trans ?_
       refine (((Below.refl w1.heap.size w1).alloc (Nat.le_refl _) _).cell (p := ⟨g, 1 + k, none⟩) hgz).trans ?_
       rw [HO1.out.cellAt (1 + k) (by omega)]
       have hkl : k < cs.length := by have := HN.out; omega
       rw [Nat.add_comm 1 k]
       simp [List.getD, hkl]
      have hgw : g < w2.heap.size := by have := hb2.out.size; simp at this; omega
      have GS2 : Hid (∀ wx, Below w2.heap.size w2 wx → wx.heap[7]? = some (.cells aQg t fr)) := fun wx hx => ((hx.block _ (Nat.lt_of_lt_of_le hz q1.out.size)).trans (q1.out.block _ hz)).trans HG.out
      have GP2 : Hid (∀ wx, Below w2.heap.size w2 wx → wx.heap[8]? = some (.cells aXr tp frp)) := fun wx hx => ((hx.block _ (Nat.lt_of_lt_of_le hzp q1.out.size)).trans (q1.out.block _ hzp)).trans HGP.out
      clear k0 hgz q0 G1 GP1 HO1 hb2 HB1
      go_loopw [30] (fun i wr => ∃ (k : Nat), k ≤ n ∧ i = .int .i64 k ∧ (cs.take k).all aWj = true ∧ Below w2.heap.size w2 wr) (fun i _ => n - (intOf i).toNat)
      case atStart => exact ⟨0, Nat.zero_le _, rfl, rfl, Below.refl _ _⟩
      case round =>
       obtain ⟨k, hk, rfl, hall, hbr⟩ := hrel
       by_cases hlt : k < n
       · have c1 := (hbr.cell (p := ⟨g, 1 + k, none⟩) hgw).trans (hcells.out k hlt)
         have hkl : k < cs.length := by have := HN.out; omega
         obtain ⟨c, hce⟩ : ∃ c, c = cs.getD k 0 := ⟨_, rfl⟩
         rw [← hce] at c1
         have HE : Hid (c = cs.getD k 0) := hce
         have HA : Hid ((cs.take k).all aWj = true) := hall
         have hpart := bXq c wr tp frp (GP2.out wr hbr) t fr (GS2.out wr hbr)
         have HBR : Hid (Below w2.heap.size w2 wr) := hbr
         clear hce hall hbr
         cases hpb : aWj c with
         | true =>
          rw [hpb] at hpart
          go_wp2_with (go_at_call 134; refine hpart.mono ?_; rintro e w4 ⟨rfl, hb4⟩)
          go_roundw
          case rel =>
           refine ⟨k + 1, by omega, by go_num, ?_, HBR.out.trans (hb4.mono HBR.out.size)⟩
           have e : cs.take (k + 1) = cs.take k ++ [c] := by rw [List.take_succ_eq_append_getElem hkl, HE.out]; simp [List.getD, hkl]
           rw [e, List.all_append, HA.out]
           simp [hpb]
          case measure => simp [intOf]; omega
         | false =>
          rw [hpb] at hpart
          go_wp2_with (go_at_call 134; refine hpart.mono ?_; rintro e w4 ⟨rfl, hb4⟩)
          go_ret
          refine ⟨aVc ?_, (q1.out.trans (HBR.out.mono q1.out.size)).trans (hb4.mono (q1.out.trans (HBR.out.mono q1.out.size)).size)⟩
          have hno : cs.all aWj = false := by
           cases h : cs.all aWj with
           | false => rfl
           | true =>
            rw [List.all_eq_true] at h
            have := h cs[k] (List.getElem_mem hkl)
            have e : c = cs[k] := by rw [HE.out]; simp [List.getD, hkl]
            rw [← e, hpb] at this
            cases this
          rw [hno]; rfl
       · have hkn : n ≤ k := by omega
         have e : cs.take k = cs := List.take_of_length_le (by have := HN.out; omega)
         rw [e] at hall
         clear e
         have HA : Hid (cs.all aWj = true) := hall
         clear hall
         go_wp2
         go_ret
         refine ⟨aVc ?_, q1.out.trans (hbr.mono q1.out.size)⟩
         rw [HA.out]; rfl
 · rw [decide_eq_false hbad, Bool.false_and] at hnb
   rw [hnb]
   have e3 : bQj s = 3 := by unfold bQj; rw [if_neg (by omega), if_pos (by omega)]
   have e4 : bV0 s = [] := by rw [e1]; exact scan_list _ _ _ (by unfold aQv at hbad; omega)
   rw [e3, e4] at hcall
   clear hnb e1 e3 e4 hbad
   obtain ⟨at3, hat⟩ : ∃ x, rAt s = x := ⟨_, rfl⟩
   rw [hat] at hcall
   clear hat
   go_enter Tryz.func113, Tryz.ntmps113
   go_wp2_with (go_at_call 8; refine hcall.mono ?_; rintro e w1 ⟨v1, rfl, ho1, hb1⟩; clear hcall; obtain ⟨ao, cv, rfl⟩ := bJ2 ho1; clear ho1)
   go_ret
   exact ⟨rfl, hb1.alloc hb1.size _⟩
open Go.RowKit Plain2 Lists Plain3 Plain6 Plain9 Plain10 Plain13 PlainS
def zQ : Obj := .cells #[.string ⟨#[]⟩, .string ⟨#[]⟩, .int .i64 0] 158
theorem aJq {p : Prop} (h : p) : Hid p := h
structure QBox (w W : World) : Prop where
 res : W.heap[w.heap.size]? = some zQ
 bel : Below w.heap.size w W
theorem QBox.start (w : World) : QBox w (w.alloc zQ) := ⟨heap_alloc_new w zQ, bAl⟩
theorem QBox.step {w W W' : World} (h : QBox w W) (hb : Below W.heap.size W W') : QBox w W' :=
 ⟨by rw [hb.block _ (gLt h.res)]; exact h.res, h.bel.trans (hb.mono h.bel.size)⟩
theorem QBox.cells {w W : World} (h : QBox w W) : W.cell? ⟨w.heap.size, 0, none⟩ = some (.string ⟨#[]⟩) ∧ W.cell? ⟨w.heap.size, 1, none⟩ = some (.string ⟨#[]⟩) ∧ W.cell? ⟨w.heap.size, 2, none⟩ = some (.int .i64 0) ∧ W.frozen? ⟨w.heap.size, 0, none⟩ = false ∧ W.frozen? ⟨w.heap.size, 1, none⟩ = false ∧ W.frozen? ⟨w.heap.size, 2, none⟩ = false := by
 simp [World.cell?, World.frozen?, h.res, zQ]
theorem aZ5 {w W : World} (h : Below w.heap.size w W) (j : Nat) (u : Value) : Below w.heap.size w (W.setCell ⟨w.heap.size, j, none⟩ u) :=
 ⟨h.os, h.tape, h.output, by have := h.size; simpa using this, fun i hi => by rw [Below.heap_setCell W ⟨w.heap.size, j, none⟩ u i (by simp only; omega)]; exact h.block i hi⟩
theorem QBox.fin {w W : World} (h : QBox w W) (a b c : Value) : Below w.heap.size w (((W.setCell ⟨w.heap.size, 0, none⟩ a).setCell ⟨w.heap.size, 1, none⟩ b).setCell ⟨w.heap.size, 2, none⟩ c) :=
 aZ5 (aZ5 (aZ5 h.bel 0 a) 1 b) 2 c
structure SFr (w W : World) (t : TypeId) (fr : Nat × Nat) (tp : TypeId) (frp : Nat × Nat) (m : Int) : Prop where
 q : QBox w W
 st : W.heap[7]? = some (.cells aQg t fr)
 pt : W.heap[8]? = some (.cells aXr tp frp)
 mx : W.cell? ⟨1, 0, none⟩ = some (.int .i64 m)
theorem SFr.step {w W W' : World} {t : TypeId} {fr : Nat × Nat} {tp : TypeId} {frp : Nat × Nat} {m : Int} (h : SFr w W t fr tp frp m) (hb : Below W.heap.size W W') : SFr w W' t fr tp frp m :=
 ⟨h.q.step hb, by rw [hb.block _ (gLt h.st)]; exact h.st, by rw [hb.block _ (gLt h.pt)]; exact h.pt, (hb.cell (p := ⟨1, 0, none⟩) (aQf h.mx)).trans h.mx⟩
theorem SFr.drewN {w W : World} {t : TypeId} {fr : Nat × Nat} {tp : TypeId} {frp : Nat × Nat} {m : Int} (h : SFr w W t fr tp frp m) (n : Nat) : SFr w (W.drewN n) t fr tp frp m :=
 h.step ⟨rfl, rfl, rfl, Nat.le_refl _, fun _ _ => rfl⟩
theorem SFr.start {w : World} {t : TypeId} {fr : Nat × Nat} {tp : TypeId} {frp : Nat × Nat} {m : Int} (hg : w.heap[7]? = some (.cells aQg t fr)) (hgp : w.heap[8]? = some (.cells aXr tp frp)) (hm : w.cell? ⟨1, 0, none⟩ = some (.int .i64 m)) : SFr w (w.alloc zQ) t fr tp frp m :=
 ⟨QBox.start w, by rw [heap_alloc_old w zQ (gLt hg)]; exact hg, by rw [heap_alloc_old w zQ (gLt hgp)]; exact hgp, (((Below.refl _ _).alloc (Nat.le_refl _) zQ).cell (p := ⟨1, 0, none⟩) (aQf hm)).trans hm⟩
theorem bKx (s : ByteArray) (w : World) (hs : s.size ≤ 1048576) (t : TypeId) (fr : Nat × Nat) (hg : w.heap[7]? = some (.cells aQg t fr)) (tp : TypeId) (frp : Nat × Nat) (hgp : w.heap[8]? = some (.cells aXr tp frp)) (m : Int) (hm : w.cell? ⟨1, 0, none⟩ = some (.int .i64 m)) :
 Calls Tryz.prog 80 #[.string s] w fun e w' => e = .returned (.agg #[.string (aXf s).1, .string (aXf s).2.1, .int .i64 (aXf s).2.2]) ∧ Below w.heap.size w w' := by
 obtain ⟨Z, hZ⟩ : ∃ Z, aXf s = Z := ⟨_, rfl⟩
 rw [hZ]
 have HZ := aJq hZ
 clear hZ
 have Q0 := aJq (QBox.start w)
 by_cases hbig : 4000 < s.size
 · have hZ2 : Z = (⟨#[]⟩, ⟨#[]⟩, 2) := by rw [← HZ.out]; unfold aXf; rw [if_pos hbig]
   subst hZ2
   go_enter Tryz.func80, Tryz.ntmps80
   go_wp2
   refine bodyPost_ret (v := .agg #[.string ⟨#[]⟩, .string ⟨#[]⟩, .int .i64 2]) (by simp [results, Tryz.results80, go_sem]) rfl ⟨rfl, ?_⟩
   exact bAl
 have hcut := Tryz.strings_Cut s ⟨#[58]⟩ m (w.alloc zQ) (by omega) ((((Below.refl _ _).alloc (Nat.le_refl _) zQ).cell (p := ⟨1, 0, none⟩) (aQf hm)).trans hm)
 have FA : Hid (SFr w (w.alloc zQ) t fr tp frp m) := aJq (SFr.start hg hgp hm)
 by_cases hf : upF s 0 [58] = 0
 · obtain ⟨h1, h2, h3, h4, h5, h6, h7⟩ := split_yes hf
   rw [h4, h5, h6] at hcut
   obtain ⟨X, hX⟩ : ∃ X, upT s 0 [58] = X := ⟨_, rfl⟩
   obtain ⟨Y, hY⟩ : ∃ Y, s.extract (upP s 0 [58]) s.size = Y := ⟨_, rfl⟩
   rw [hX, hY] at hcut h7
   rw [hX] at h2
   rw [hY] at h3
   have hnX := fun W (h : SFr w W t fr tp frp m) => aY5 X W t fr h.st tp frp h.pt
   have hnY := fun W (h : SFr w W t fr tp frp m) => aY5 Y W t fr h.st tp frp h.pt
   have hcY := fun W (h : SFr w W t fr tp frp m) => Tryz.strings_Contains Y ⟨#[58]⟩ m W (by omega) h.mx
   have H7 := aJq h7
   clear h4 h5 h6 h7 hX hY hf h1
   cases hbX : aYn X with
   | false =>
    rw [hbX] at hnX
    have hZ2 : Z = (⟨#[]⟩, ⟨#[]⟩, 3) := by rw [← HZ.out]; unfold aXf; rw [if_neg hbig, H7.out, hbX]; split <;> simp
    subst hZ2
    go_enter Tryz.func80, Tryz.ntmps80
    go_wp2_with fail
    refine hcut.mono ?_
    rintro e w1 ⟨rfl, n, hww⟩
    have F0 : Hid (SFr w w1 t fr tp frp m) := by rw [hww]; exact aJq (FA.out.drewN n)
    clear hww hcut
    obtain ⟨r0, r1, r2, f0, f1, f2⟩ := F0.out.q.cells
    go_wp2_with fail
    refine (hnX _ F0.out).mono ?_
    rintro e w2 ⟨rfl, hb2⟩
    have F1 := aJq (F0.out.step hb2)
    clear hb2 F0
    obtain ⟨r0, r1, r2, f0, f1, f2⟩ := F1.out.q.cells
    go_wp2
    refine bodyPost_ret (v := .agg #[.string ⟨#[]⟩, .string ⟨#[]⟩, .int .i64 3]) (by simp [results, Tryz.results80, go_sem, r0, r1, r2]) rfl ⟨rfl, ?_⟩
    exact F1.out.q.fin _ _ _
   | true =>
    rw [hbX] at hnX
    cases hbY : aYn Y with
    | false =>
     rw [hbY] at hnY
     have hZ2 : Z = (⟨#[]⟩, ⟨#[]⟩, 3) := by rw [← HZ.out]; unfold aXf; rw [if_neg hbig, H7.out, hbY]; split <;> simp
     subst hZ2
     go_enter Tryz.func80, Tryz.ntmps80
     go_wp2_with fail
     refine hcut.mono ?_
     rintro e w1 ⟨rfl, n, hww⟩
     have F0 : Hid (SFr w w1 t fr tp frp m) := by rw [hww]; exact aJq (FA.out.drewN n)
     clear hww hcut
     obtain ⟨r0, r1, r2, f0, f1, f2⟩ := F0.out.q.cells
     go_wp2_with fail
     refine (hnX _ F0.out).mono ?_
     rintro e w2 ⟨rfl, hb2⟩
     have F1 := aJq (F0.out.step hb2)
     clear hb2 F0
     obtain ⟨r0, r1, r2, f0, f1, f2⟩ := F1.out.q.cells
     go_wp2_with fail
     refine (hnY _ F1.out).mono ?_
     rintro e w3 ⟨rfl, hb3⟩
     have F2 := aJq (F1.out.step hb3)
     clear hb3 F1
     obtain ⟨r0, r1, r2, f0, f1, f2⟩ := F2.out.q.cells
     go_wp2
     refine bodyPost_ret (v := .agg #[.string ⟨#[]⟩, .string ⟨#[]⟩, .int .i64 3]) (by simp [results, Tryz.results80, go_sem, r0, r1, r2]) rfl ⟨rfl, ?_⟩
     exact F2.out.q.fin _ _ _
    | true =>
     rw [hbY] at hnY
     cases hbC : Lib.contains Y.data.toList [58] with
     | true =>
      have hcY : ∀ W, SFr w W t fr tp frp m → Calls Tryz.prog 26 #[.string Y, .string ⟨#[58]⟩] W fun e w' => e = .returned (.bool true) ∧ w' = W := fun W h => by have := hcY W h; rw [show (⟨#[58]⟩ : ByteArray).data.toList = [58] from rfl, hbC] at this; exact this
      have hZ2 : Z = (⟨#[]⟩, ⟨#[]⟩, 3) := by rw [← HZ.out]; unfold aXf; rw [if_neg hbig, H7.out, hbC, if_pos rfl]; simp
      subst hZ2
      go_enter Tryz.func80, Tryz.ntmps80
      go_wp2_with fail
      refine hcut.mono ?_
      rintro e w1 ⟨rfl, n, hww⟩
      have F0 : Hid (SFr w w1 t fr tp frp m) := by rw [hww]; exact aJq (FA.out.drewN n)
      clear hww hcut
      obtain ⟨r0, r1, r2, f0, f1, f2⟩ := F0.out.q.cells
      go_wp2_with fail
      refine (hnX _ F0.out).mono ?_
      rintro e w2 ⟨rfl, hb2⟩
      have F1 := aJq (F0.out.step hb2)
      clear hb2 F0
      obtain ⟨r0, r1, r2, f0, f1, f2⟩ := F1.out.q.cells
      go_wp2_with fail
      refine (hnY _ F1.out).mono ?_
      rintro e w3 ⟨rfl, hb3⟩
      have F2 := aJq (F1.out.step hb3)
      clear hb3 F1
      obtain ⟨r0, r1, r2, f0, f1, f2⟩ := F2.out.q.cells
      go_wp2_with fail
      refine (hcY _ F2.out).mono ?_
      rintro e w4 ⟨rfl, hww4⟩
      obtain rfl := hww4.symm
      go_wp2
      refine bodyPost_ret (v := .agg #[.string ⟨#[]⟩, .string ⟨#[]⟩, .int .i64 3]) (by simp [results, Tryz.results80, go_sem, r0, r1, r2]) rfl ⟨rfl, ?_⟩
      exact F2.out.q.fin _ _ _
     | false =>
      have hcY : ∀ W, SFr w W t fr tp frp m → Calls Tryz.prog 26 #[.string Y, .string ⟨#[58]⟩] W fun e w' => e = .returned (.bool false) ∧ w' = W := fun W h => by have := hcY W h; rw [show (⟨#[58]⟩ : ByteArray).data.toList = [58] from rfl, hbC] at this; exact this
      have hZ2 : Z = (X, Y, 0) := by rw [← HZ.out]; unfold aXf; rw [if_neg hbig, H7.out, hbC]; simp [hbX, hbY]
      subst hZ2
      go_enter Tryz.func80, Tryz.ntmps80
      go_wp2_with fail
      refine hcut.mono ?_
      rintro e w1 ⟨rfl, n, hww⟩
      have F0 : Hid (SFr w w1 t fr tp frp m) := by rw [hww]; exact aJq (FA.out.drewN n)
      clear hww hcut
      obtain ⟨r0, r1, r2, f0, f1, f2⟩ := F0.out.q.cells
      go_wp2_with fail
      refine (hnX _ F0.out).mono ?_
      rintro e w2 ⟨rfl, hb2⟩
      have F1 := aJq (F0.out.step hb2)
      clear hb2 F0
      obtain ⟨r0, r1, r2, f0, f1, f2⟩ := F1.out.q.cells
      go_wp2_with fail
      refine (hnY _ F1.out).mono ?_
      rintro e w3 ⟨rfl, hb3⟩
      have F2 := aJq (F1.out.step hb3)
      clear hb3 F1
      obtain ⟨r0, r1, r2, f0, f1, f2⟩ := F2.out.q.cells
      go_wp2_with fail
      refine (hcY _ F2.out).mono ?_
      rintro e w4 ⟨rfl, hww4⟩
      obtain rfl := hww4.symm
      go_wp2
      refine bodyPost_ret (v := .agg #[.string X, .string Y, .int .i64 0]) (by simp [results, Tryz.results80, go_sem, r0, r1, r2]) rfl ⟨rfl, ?_⟩
      exact F2.out.q.fin _ _ _
 · obtain ⟨h1, h2⟩ := split_no hf
   have hcn := (aYw hf).1
   have hr : rest s 0 = s.data.toList := by unfold rest; rw [List.drop_zero]
   rw [hr] at hcn
   rw [show (⟨#[58]⟩ : ByteArray).data.toList = [58] from rfl, hcn] at hcut
   have hself : (⟨(s.data.toList).toArray⟩ : ByteArray) = s := by simp
   simp only [hself] at hcut
   have hnY := fun W (h : SFr w W t fr tp frp m) => aY5 s W t fr h.st tp frp h.pt
   have hcY : ∀ W, SFr w W t fr tp frp m → Calls Tryz.prog 26 #[.string s, .string ⟨#[58]⟩] W fun e w' => e = .returned (.bool false) ∧ w' = W := fun W h => by have := Tryz.strings_Contains s ⟨#[58]⟩ m W (by omega) h.mx; rw [show (⟨#[58]⟩ : ByteArray).data.toList = [58] from rfl, h2] at this; exact this
   have H1 := aJq h1
   clear h1 hf hcn hr hself h2
   cases hbY : aYn s with
   | false =>
    rw [hbY] at hnY
    have hZ2 : Z = (⟨#[]⟩, ⟨#[]⟩, 3) := by rw [← HZ.out]; unfold aXf; rw [if_neg hbig, H1.out, hbY]; simp
    subst hZ2
    go_enter Tryz.func80, Tryz.ntmps80
    go_wp2_with fail
    refine hcut.mono ?_
    rintro e w1 ⟨rfl, n, hww⟩
    have F0 : Hid (SFr w w1 t fr tp frp m) := by rw [hww]; exact aJq (FA.out.drewN n)
    clear hww hcut
    obtain ⟨r0, r1, r2, f0, f1, f2⟩ := F0.out.q.cells
    go_wp2_with fail
    refine (hnY _ F0.out).mono ?_
    rintro e w2 ⟨rfl, hb2⟩
    have F1 := aJq (F0.out.step hb2)
    clear hb2 F0
    obtain ⟨r0, r1, r2, f0, f1, f2⟩ := F1.out.q.cells
    go_wp2
    refine bodyPost_ret (v := .agg #[.string ⟨#[]⟩, .string ⟨#[]⟩, .int .i64 3]) (by simp [results, Tryz.results80, go_sem, r0, r1, r2]) rfl ⟨rfl, ?_⟩
    exact F1.out.q.fin _ _ _
   | true =>
    rw [hbY] at hnY
    have hZ2 : Z = (⟨#[]⟩, s, 0) := by rw [← HZ.out]; unfold aXf; rw [if_neg hbig, H1.out, hbY]; rfl
    subst hZ2
    go_enter Tryz.func80, Tryz.ntmps80
    go_wp2_with fail
    refine hcut.mono ?_
    rintro e w1 ⟨rfl, n, hww⟩
    have F0 : Hid (SFr w w1 t fr tp frp m) := by rw [hww]; exact aJq (FA.out.drewN n)
    clear hww hcut
    obtain ⟨r0, r1, r2, f0, f1, f2⟩ := F0.out.q.cells
    go_wp2_with fail
    refine (hnY _ F0.out).mono ?_
    rintro e w2 ⟨rfl, hb2⟩
    have F1 := aJq (F0.out.step hb2)
    clear hb2 F0
    obtain ⟨r0, r1, r2, f0, f1, f2⟩ := F1.out.q.cells
    go_wp2_with fail
    refine (hcY _ F1.out).mono ?_
    rintro e w3 ⟨rfl, hww3⟩
    obtain rfl := hww3.symm
    go_wp2
    refine bodyPost_ret (v := .agg #[.string ⟨#[]⟩, .string s, .int .i64 0]) (by simp [results, Tryz.results80, go_sem, r0, r1, r2]) rfl ⟨rfl, ?_⟩
    exact F1.out.q.fin _ _ _
end Go.Proofs.YtdblemolaojebaaGreatDoor
namespace Go.Proofs.YtdblemolaojebaaGreatDoor.PlainQ
open Go.RowKit PlainR PlainN Go.Lib
def preS (p : Bool) : ByteArray := if p = true then ⟨#[112, 58]⟩ else ⟨#[]⟩
def declS (p : Bool) : ByteArray := if p = true then ⟨#[120, 109, 108, 110, 115, 58, 112]⟩ else ⟨#[120, 109, 108, 110, 115]⟩
def digS (i : Nat) : ByteArray := ⟨#[UInt8.ofNat (48 + i)]⟩
def tS (p : Bool) (k : Nat) : Nat → ByteArray
 | 0 => ⟨#[]⟩
 | i + 1 => (if i = 0 ∨ i = k then tS p k i ++ ⟨#[60]⟩ ++ preS p ++ ⟨#[97]⟩ ++ ⟨#[32]⟩ ++ declS p ++ ⟨#[61, 39, 117]⟩ ++ digS i ++ ⟨#[39]⟩ else tS p k i ++ ⟨#[60]⟩ ++ preS p ++ ⟨#[97]⟩) ++ ⟨#[62]⟩
def tailS (p : Bool) : Nat → ByteArray
 | 0 => ⟨#[]⟩
 | i + 1 => ⟨#[60]⟩ ++ preS p ++ ⟨#[122, 47, 62, 60, 47]⟩ ++ preS p ++ ⟨#[97, 62]⟩ ++ tailS p i
def docS (p : Bool) (d k : Nat) : ByteArray := tS p k d ++ tailS p d
def uS (k : Nat) : ByteArray := ⟨#[117]⟩ ++ digS k
def wantS (k : Nat) (b : Bool) : ByteArray := if b = true then uS k else ⟨#[117, 48]⟩
def chkS (k : Nat) : List Nd → Nat → Bool
 | [], dp => decide (dp = 0)
 | n :: l, dp =>
  if n.kind = 1 then ((decide (n.name.loc = ⟨#[97]⟩) && decide (n.name.spc = wantS k (decide (k ≤ dp)))) || (decide (1 ≤ dp) && decide (n.name.loc = ⟨#[122]⟩) && decide (n.name.spc = wantS k (decide (k + 1 ≤ dp))))) && chkS k l (dp + 1)
  else if n.kind = 2 then decide (1 ≤ dp) && ((decide (n.name.loc = ⟨#[97]⟩) && decide (n.name.spc = wantS k (decide (k + 1 ≤ dp)))) || (decide (2 ≤ dp) && decide (n.name.loc = ⟨#[122]⟩) && decide (n.name.spc = wantS k (decide (k + 2 ≤ dp))))) && chkS k l (dp - 1)
  else false
def smallS (evs : List Ev) : Bool := decide (evs.length ≤ 400) && evs.all fun e => decide (e.attrs.length ≤ 100) && (decide (e.name.size ≤ 100) && e.attrs.all fun a => decide (a.1.size ≤ 100))
def okS (p : Bool) (d k : Nat) : Bool :=
 let R := bXy (docS p d k) true
 decide (R.code = 0) && (smallS R.evs && (decide ((aVr R.evs).code = 0) && (decide ((aVr R.evs).nodes.length = 4 * d) && chkS k (aVr R.evs).nodes 0)))
end Go.Proofs.YtdblemolaojebaaGreatDoor.PlainQ
namespace Go.Proofs.YtdblemolaojebaaGreatDoor.PlainQ
theorem sf10 : okS false 1 0 = true := by decide +kernel
theorem sf20 : okS false 2 0 = true := by decide +kernel
theorem sf21 : okS false 2 1 = true := by decide +kernel
theorem sf30 : okS false 3 0 = true := by decide +kernel
theorem sf31 : okS false 3 1 = true := by decide +kernel
theorem sf32 : okS false 3 2 = true := by decide +kernel
theorem sf40 : okS false 4 0 = true := by decide +kernel
theorem sf41 : okS false 4 1 = true := by decide +kernel
theorem sf42 : okS false 4 2 = true := by decide +kernel
theorem sf43 : okS false 4 3 = true := by decide +kernel
theorem sf50 : okS false 5 0 = true := by decide +kernel
theorem sf51 : okS false 5 1 = true := by decide +kernel
theorem sf52 : okS false 5 2 = true := by decide +kernel
theorem sf53 : okS false 5 3 = true := by decide +kernel
theorem sf54 : okS false 5 4 = true := by decide +kernel
theorem sf60 : okS false 6 0 = true := by decide +kernel
theorem sf61 : okS false 6 1 = true := by decide +kernel
theorem sf62 : okS false 6 2 = true := by decide +kernel
theorem sf63 : okS false 6 3 = true := by decide +kernel
theorem sf64 : okS false 6 4 = true := by decide +kernel
theorem sf65 : okS false 6 5 = true := by decide +kernel
theorem st10 : okS true 1 0 = true := by decide +kernel
theorem st20 : okS true 2 0 = true := by decide +kernel
theorem st21 : okS true 2 1 = true := by decide +kernel
theorem st30 : okS true 3 0 = true := by decide +kernel
theorem st31 : okS true 3 1 = true := by decide +kernel
theorem st32 : okS true 3 2 = true := by decide +kernel
theorem st40 : okS true 4 0 = true := by decide +kernel
theorem st41 : okS true 4 1 = true := by decide +kernel
theorem st42 : okS true 4 2 = true := by decide +kernel
theorem st43 : okS true 4 3 = true := by decide +kernel
theorem st50 : okS true 5 0 = true := by decide +kernel
theorem st51 : okS true 5 1 = true := by decide +kernel
theorem st52 : okS true 5 2 = true := by decide +kernel
theorem st53 : okS true 5 3 = true := by decide +kernel
theorem st54 : okS true 5 4 = true := by decide +kernel
theorem st60 : okS true 6 0 = true := by decide +kernel
theorem st61 : okS true 6 1 = true := by decide +kernel
theorem st62 : okS true 6 2 = true := by decide +kernel
theorem st63 : okS true 6 3 = true := by decide +kernel
theorem st64 : okS true 6 4 = true := by decide +kernel
theorem st65 : okS true 6 5 = true := by decide +kernel
theorem scope_ok (p : Bool) {d k : Nat} (hd : d < 7) (hk : k < d) : okS p d k = true := by
 match p, d, k, hd, hk with
 | false, 1, 0, _, _ => exact sf10
 | false, 2, 0, _, _ => exact sf20
 | false, 2, 1, _, _ => exact sf21
 | false, 3, 0, _, _ => exact sf30
 | false, 3, 1, _, _ => exact sf31
 | false, 3, 2, _, _ => exact sf32
 | false, 4, 0, _, _ => exact sf40
 | false, 4, 1, _, _ => exact sf41
 | false, 4, 2, _, _ => exact sf42
 | false, 4, 3, _, _ => exact sf43
 | false, 5, 0, _, _ => exact sf50
 | false, 5, 1, _, _ => exact sf51
 | false, 5, 2, _, _ => exact sf52
 | false, 5, 3, _, _ => exact sf53
 | false, 5, 4, _, _ => exact sf54
 | false, 6, 0, _, _ => exact sf60
 | false, 6, 1, _, _ => exact sf61
 | false, 6, 2, _, _ => exact sf62
 | false, 6, 3, _, _ => exact sf63
 | false, 6, 4, _, _ => exact sf64
 | false, 6, 5, _, _ => exact sf65
 | true, 1, 0, _, _ => exact st10
 | true, 2, 0, _, _ => exact st20
 | true, 2, 1, _, _ => exact st21
 | true, 3, 0, _, _ => exact st30
 | true, 3, 1, _, _ => exact st31
 | true, 3, 2, _, _ => exact st32
 | true, 4, 0, _, _ => exact st40
 | true, 4, 1, _, _ => exact st41
 | true, 4, 2, _, _ => exact st42
 | true, 4, 3, _, _ => exact st43
 | true, 5, 0, _, _ => exact st50
 | true, 5, 1, _, _ => exact st51
 | true, 5, 2, _, _ => exact st52
 | true, 5, 3, _, _ => exact st53
 | true, 5, 4, _, _ => exact st54
 | true, 6, 0, _, _ => exact st60
 | true, 6, 1, _, _ => exact st61
 | true, 6, 2, _, _ => exact st62
 | true, 6, 3, _, _ => exact st63
 | true, 6, 4, _, _ => exact st64
 | true, 6, 5, _, _ => exact st65
end Go.Proofs.YtdblemolaojebaaGreatDoor.PlainQ
