import Derived.Test.YtocnfoeaikiecaaGreatDoorSpR
import Derived.Test.YtocnfoeaikiecaaGreatDoorPlF
import Derived.Deep.RegionLaw
import Derived.Deep.DeepCutAuto
set_option linter.unusedVariables false
namespace Go.Proofs.YtocnfoeaikiecaaGreatDoor
open Go.RowKit Plain23 Go.Lib Ents Tryz
theorem bQv {w w' : World} {B : Nat} {e : TypeId} {size : Nat} {v : Value} {n : Nat} {xs : List Value} (h : w.ownsRow B e size v n xs) (hg : w.grownBy w' none) : w'.ownsRow B e size v n xs :=
 h.kept hg (by cases v.ownBlock with | none => exact .inl rfl | some _ => exact .inr (by simp))
def aJ8 (l : List At5) : List Value := l.flatMap fun a => [.string a.of, .string a.nm, .bool a.words, .bool a.has, .string a.val]
theorem cQn (l : List At5) (a : At5) : aJ8 (l ++ [a]) = aJ8 l ++ [.string a.of, .string a.nm, .bool a.words, .bool a.has, .string a.val] := by simp [aJ8]
theorem aYc {W : World} {B : Nat} {e t : TypeId} {size : Nat} {v : Value} {n : Nat} {xs : List Value} {b : Nat} {c : Array Value} {fr : Nat × Nat} (h : W.ownsRow B e size v n xs) (hb : W.heap[b]? = some (.cells c t fr)) (hne : t ≠ e) : v.ownBlock ≠ some b := by
 rcases h.2 with ⟨rfl, _⟩ | ⟨g', cap, cur, rfl, _, hh, _⟩
 · simp [Value.ownBlock]
 · intro e'
   have : g' = b := by simpa [Value.ownBlock] using e'
   subst this
   rw [hb] at hh
   cases hh
   exact hne rfl
theorem aQn {P : Program} {ops : Array Oper} {o : Oper} {a : Act} {w : World} {K : Act → World → Prop} {Q : Exit → Act → World → Prop} {F : Prop} (hg : o.guard = none) (x y : Operand) (t : TypeId)
 (ho : o.op = .call { callee := .builtin .append, args := #[x, y], argTypes := #[t, t] })
 (base : Nat) (e : TypeId) (i : TypeInfo) (z : Value) (size bytes : Nat) (ht : P.underlying t = some (.slice e)) (hi : P.info? e = some i) (hz : i.zero = some z)
 (hsize : i.size = size) (hby : i.bytes = bytes) (hzs : z.cells.size = size) (hsz : 0 < size)
 (v : Value) (n : Nat) (xs : List Value) (hs : a.eval x = v) (hown : w.ownsRow base e size v n xs)
 (ad : Addr) (m c : Nat) (news : List Value) (hx : a.eval y = .slice (some ad) m c) (hl : news.length = m * size) (hnews : ∀ j u, news[j]? = some u → w.cell? (ad.add j) = some u) (h1 : ∀ u ∈ news, u.oneCell' = true)
 (h63 : n + m ≤ maxLen) (hbytes : ((n + m) + (n + m) / 4 + 192) * bytes ≤ 281474976710656) (hbase : base ≤ w.heap.size)
 (h : ∀ v' w', w'.ownsRow base e size v' (n + m) (xs ++ news) → w.grownBy w' v.ownBlock → K (a.put o.dst v') w') :
 if Region.wanted o (yielded ops a.tmps) = true then Oper.wp P o a w K Q else F := by
 have hw : Region.wanted o (yielded ops a.tmps) = true := by simp [Region.wanted, hg]
 rw [if_pos hw]
 exact wp_append_own_wide w x y t ho base e i z size bytes ht hi hz hsize hby hzs hsz v n xs hs hown ad m c news hx hl hnews h1 h63 hbytes hbase fun v' w' h2 h3 _ => h v' w' h2 h3
theorem infoE : (prog.info? 163).map (fun i => (i.zero, i.size, i.bytes)) = some (some (.agg #[.string ByteArray.empty, .string ByteArray.empty]), 2, 32) := by kernel_rfl
theorem cW1 {W : World} {B : Nat} {e1 e2 : TypeId} {s1 s2 : Nat} {v1 v2 : Value} {n1 n2 : Nat} {xs1 xs2 : List Value} (h1 : W.ownsRow B e1 s1 v1 n1 xs1) (h2 : W.ownsRow B e2 s2 v2 n2 xs2) (hne : e1 ≠ e2) : v1.ownBlock = none ∨ v1.ownBlock ≠ v2.ownBlock := by
 rcases h1.2 with ⟨rfl, _⟩ | ⟨b, cap, cur, rfl, _, hh, _⟩
 · exact .inl rfl
 · exact .inr fun e => aYc h2 hh hne (by rw [← e]; rfl)
theorem bWf (w : World) (a b c e f : Value) (t : TypeId) (n : Nat) (hn : n = w.heap.size) : ∀ j u, [a, b, c, e, f][j]? = some u → (w.alloc (.cells #[a, b, c, e, f] t)).cell? ((⟨n, 0, none⟩ : Addr).add j) = some u := by
 subst hn
 intro j u hj
 match j, hj with
 | 0, hj => simp at hj; subst hj; simp [Addr.add]
 | 1, hj => simp at hj; subst hj; simp [Addr.add]
 | 2, hj => simp at hj; subst hj; simp [Addr.add]
 | 3, hj => simp at hj; subst hj; simp [Addr.add]
 | 4, hj => simp at hj; subst hj; simp [Addr.add]
 | (j + 5), hj => simp at hj
def dJv (w : World) (R : DOut) (e : Ending) (w' : World) : Prop :=
 ∃ ae ce aa ca, e = .returned (.agg #[.slice ae R.dtd.ents.length ce, .slice aa R.dtd.atts.length ca, .int .i64 R.at1, .int .i64 R.code]) ∧ w'.ownsRow w.heap.size 163 2 (.slice ae R.dtd.ents.length ce) R.dtd.ents.length (aQc R.dtd.ents) ∧
  w'.ownsRow w.heap.size 146 5 (.slice aa R.dtd.atts.length ca) R.dtd.atts.length (aJ8 R.dtd.atts) ∧ Below w.heap.size w w'
theorem cZr {W : World} {B B' : Nat} {e : TypeId} {size : Nat} {v : Value} {n : Nat} {xs : List Value} (h : W.ownsRow B e size v n xs) (hb : B' ≤ B) : W.ownsRow B' e size v n xs := by
 refine ⟨h.1, ?_⟩
 rcases h.2 with h2 | ⟨g, cap, cur, h1, h2, h3⟩
 · exact .inl h2
 · exact .inr ⟨g, cap, cur, h1, Nat.le_trans hb h2, h3⟩
def zDtd : Obj := .cells #[.slice none 0 0, .slice none 0 0, .int .i64 0, .int .i64 0] 133
end Go.Proofs.YtocnfoeaikiecaaGreatDoor
namespace Go.Proofs.YtocnfoeaikiecaaGreatDoor.PlainM
open Go.RowKit Strs Lists Plain3 Plain9 Plain10 Plain11 Plain12 Plain15 Plain17 Plain19 Plain20 Plain22 Plain27 PlainR Go.Lib
variable {s : ByteArray}
def AtOk (s : ByteArray) (l : List (ByteArray × ByteArray)) : Prop := ∀ a ∈ l, a.2.size ≤ s.size ∧ VB a.2 0
structure MkOk (s : ByteArray) (p : Nat) (T : Tk) : Prop where
 le : p ≤ T.pos
 sz : T.pos ≤ s.size
 text : p + T.text.size ≤ T.pos
 vb : VB s T.pos
 k4 : T.kind ≠ 4
 k0 : T.kind ≠ 0
 attrs : AtOk s T.attrs
theorem AtOk.nil (s : ByteArray) : AtOk s [] := fun a h => by cases h
theorem MkOk.up {p q : Nat} {T : Tk} (h : MkOk s q T) (hq : p ≤ q) : MkOk s p T := ⟨by have := h.le; omega, h.sz, by have := h.text; omega, h.vb, h.k4, h.k0, h.attrs⟩
theorem bX4 : ByteArray.empty.size = 0 := rfl
theorem dZw (h0 : VB s 0) {v : Nat} (h : valF s v = 0) : (valT s v).size ≤ s.size ∧ VB (valT s v) 0 := by
 obtain ⟨v1, v2, v3, v4⟩ := aYo h
 have hq : aQ1 s v = 34 ∨ aQ1 s v = 39 := by
  unfold valF at h
  rw [if_neg (by omega)] at h
  by_cases hq : aY2 (aQ1 s v) = true
  · exact of_decide_eq_true hq
  · rw [if_neg hq] at h; cases h
 have hv : VB s (v + 1) := aKq h0 (by omega) (by rw [Nat.add_sub_cancel]; omega)
 unfold valT
 exact ⟨by rw [aXy (by omega)]; omega, cQ1 (by omega) v2 hv (.inr (fun hg => by unfold aQw at hg; omega))⟩
theorem cZa (h0 : VB s 0) {nm : ByteArray} : ∀ (f p : Nat) (acc : List (ByteArray × ByteArray)), p ≤ s.size → VB s p → AtOk s acc → (aWn s nm f p acc).fl = 0 → MkOk s p (aWn s nm f p acc)
 | 0, p, acc, _, _, _, h => by cases h
 | f + 1, p, acc, hp, hv, ha, h => by
  have hq := aXj s p
  have hqs := aQv (s := s) hp
  rw [cKd] at h ⊢
  by_cases c1 : s.size ≤ whiteZ s p
  · rw [if_pos c1] at h; cases h
  rw [if_neg c1] at h ⊢
  by_cases c2 : aQ1 s (whiteZ s p) = 62
  · rw [if_pos c2]
    exact ⟨by show p ≤ whiteZ s p + 1; omega, by show whiteZ s p + 1 ≤ s.size; omega, by show p + ByteArray.empty.size ≤ whiteZ s p + 1; rw [bX4]; omega, aKq h0 (by show 1 ≤ whiteZ s p + 1; omega) (by show aQ1 s (whiteZ s p + 1 - 1) < 128; rw [Nat.add_sub_cancel, c2]; decide), by show (1 : Int) ≠ 4; decide, by show (1 : Int) ≠ 0; decide, ha⟩
  rw [if_neg c2] at h ⊢
  by_cases c3 : aQ1 s (whiteZ s p) = 47
  · rw [if_pos c3] at h ⊢
    by_cases d : aQp s (whiteZ s p) [47, 62] = 0
    · rw [if_pos d]
      have hh := aJ0.1 d
      have hr := aX5 hh hqs
      simp only [List.length_cons, List.length_nil] at hr
      exact ⟨by show p ≤ whiteZ s p + 2; omega, hr, by show p + ByteArray.empty.size ≤ whiteZ s p + 2; rw [bX4]; omega, aZn h0 hh hqs (by simp) (by decide), by show (3 : Int) ≠ 4; decide, by show (3 : Int) ≠ 0; decide, ha⟩
    · rw [if_neg d] at h; exact absurd h (aK3 d)
  rw [if_neg c3] at h ⊢
  by_cases c4 : whiteZ s p = p
  · rw [if_pos c4] at h; cases h
  rw [if_neg c4] at h ⊢
  by_cases c5 : nmF s (whiteZ s p) ≠ 0
  · rw [if_pos c5] at h; exact absurd h (aK3 c5)
  rw [if_neg c5] at h ⊢
  by_cases c6 : aQp s (whiteZ s (nmP s (whiteZ s p))) [61] ≠ 0
  · rw [if_pos c6] at h; exact absurd h (aK3 c6)
  rw [if_neg c6] at h ⊢
  by_cases c7 : valF s (whiteZ s (whiteZ s (nmP s (whiteZ s p)) + 1)) ≠ 0
  · rw [if_pos c7] at h; exact absurd h (aK3 c7)
  rw [if_neg c7] at h ⊢
  by_cases c8 : hasZ acc (nmT s (whiteZ s p)) = true
  · rw [if_pos c8] at h; cases h
  rw [if_neg c8] at h ⊢
  have c5' : nmF s (whiteZ s p) = 0 := by simpa using c5
  have c7' : valF s (whiteZ s (whiteZ s (nmP s (whiteZ s p)) + 1)) = 0 := by simpa using c7
  obtain ⟨_, _, _, e4⟩ := aZx c5'
  obtain ⟨_, v2, v3, _⟩ := aYo c7'
  have w1 := aXj s (nmP s (whiteZ s p))
  have w2 := aXj s (whiteZ s (nmP s (whiteZ s p)) + 1)
  have hle : p ≤ valP s (whiteZ s (whiteZ s (nmP s (whiteZ s p)) + 1)) := by unfold valP; omega
  refine MkOk.up (cZa h0 f _ _ (by unfold valP; omega) (dZx h0 c7') ?_ h) hle
  intro a hm
  rcases List.mem_append.1 hm with hm | hm
  · exact ha a hm
  · rw [List.mem_singleton] at hm
    subst hm
    exact dZw h0 c7'
theorem tag_ok (h0 : VB s 0) {k : Nat} (hv : VB s k) (h : (tagZ s k).fl = 0) : MkOk s k (tagZ s k) := by
 unfold tagZ at h ⊢
 by_cases c1 : nmF s k ≠ 0
 · rw [if_pos c1] at h; exact absurd h (aK3 c1)
 rw [if_neg c1] at h ⊢
 obtain ⟨_, _, e3, e4⟩ := aZx (show nmF s k = 0 by simpa using c1)
 exact MkOk.up (cZa h0 _ _ _ (by omega) (nm_VB hv) (AtOk.nil s) h) (by omega)
theorem upT_size {k : Nat} {sg : List UInt8} (hk : k ≤ s.size) (h : upF s k sg = 0) : k + (upT s k sg).size + sg.length = upP s k sg := by
 unfold upF at h
 unfold upT upP
 rcases aZa s k sg hk with hz | ⟨i, hz, h1, h2, _⟩
 · rw [if_pos hz] at h; cases h
 · rw [hz, Int.toNat_natCast, aXy (by omega)]; omega
theorem comment_ok (h0 : VB s 0) {k : Nat} (hk : k ≤ s.size) (h : (aXa s k).fl = 0) : MkOk s k (aXa s k) := by
 unfold aXa at h ⊢
 by_cases c1 : upF s k [45, 45] ≠ 0
 · rw [if_pos c1] at h; exact absurd h (aK3 c1)
 rw [if_neg c1] at h ⊢
 have c1' : upF s k [45, 45] = 0 := by simpa using c1
 obtain ⟨a, b, c⟩ := bQc hk c1'
 have ht := upT_size hk c1'
 by_cases c2 : aQp s (upP s k [45, 45]) [62] = 0
 · rw [if_pos c2]
   have hh := aJ0.1 c2
   have hr := aX5 hh a
   simp only [List.length_cons, List.length_nil] at hr ht
   exact ⟨by show k ≤ upP s k [45, 45] + 1; omega, hr, by show k + (upT s k [45, 45]).size ≤ upP s k [45, 45] + 1; omega, aZn h0 hh a (by simp) (by decide), by show (6 : Int) ≠ 4; decide, by show (6 : Int) ≠ 0; decide, AtOk.nil s⟩
 · rw [if_neg c2] at h; exact absurd h (aK3 c2)
theorem dZn (h0 : VB s 0) {k : Nat} (hk : k ≤ s.size) (h : (aYk s k).fl = 0) : MkOk s k (aYk s k) := by
 unfold aYk at h ⊢
 by_cases c1 : upF s k [93, 93, 62] = 0
 · rw [if_pos c1]
   obtain ⟨a, b, c⟩ := bQc hk c1
   have ht := upT_size hk c1
   simp only [List.length_cons, List.length_nil] at ht b c
   exact ⟨by show k ≤ upP s k [93, 93, 62]; omega, a, by show k + (upT s k [93, 93, 62]).size ≤ upP s k [93, 93, 62]; omega, cK5 h0 hk c1 (by simp) (by decide), by show (5 : Int) ≠ 4; decide, by show (5 : Int) ≠ 0; decide, AtOk.nil s⟩
 · rw [if_neg c1] at h; exact absurd h (aK3 c1)
theorem end_ok (h0 : VB s 0) {k : Nat} (h : (endZ s k).fl = 0) : MkOk s k (endZ s k) := by
 unfold endZ at h ⊢
 dsimp only at h ⊢
 by_cases c1 : nmF s k ≠ 0
 · rw [if_pos c1] at h; exact absurd h (aK3 c1)
 rw [if_neg c1] at h ⊢
 obtain ⟨_, _, e3, e4⟩ := aZx (show nmF s k = 0 by simpa using c1)
 have w := aXj s (nmP s k)
 have wl := aQv (s := s) (p := nmP s k) (by omega)
 by_cases c2 : aQp s (whiteZ s (nmP s k)) [62] = 0
 · rw [if_pos c2]
   have hh := aJ0.1 c2
   have hr := aX5 hh wl
   exact ⟨by show k ≤ whiteZ s (nmP s k) + 1; omega, hr, by show k + ByteArray.empty.size ≤ whiteZ s (nmP s k) + 1; rw [bX4]; omega, aZn h0 hh wl (by simp) (by decide), by show (2 : Int) ≠ 4; decide, by show (2 : Int) ≠ 0; decide, AtOk.nil s⟩
 · rw [if_neg c2] at h; exact absurd h (aK3 c2)
theorem pi_ok (h0 : VB s 0) {k : Nat} (h : (piZ s k).fl = 0) : MkOk s k (piZ s k) := by
 unfold piZ at h ⊢
 dsimp only at h ⊢
 by_cases c1 : nmF s k ≠ 0
 · rw [if_pos c1] at h; exact absurd h (aK3 c1)
 rw [if_neg c1] at h ⊢
 obtain ⟨_, _, e3, e4⟩ := aZx (show nmF s k = 0 by simpa using c1)
 have w := aXj s (nmP s k)
 have wl := aQv (s := s) (p := nmP s k) (by omega)
 by_cases c2 : xmlB (nmT s k) = true
 · rw [if_pos c2] at h; cases h
 rw [if_neg c2] at h ⊢
 by_cases c3 : nmP s k < whiteZ s (nmP s k)
 · rw [if_pos c3] at h ⊢
   by_cases c4 : upF s (whiteZ s (nmP s k)) [63, 62] = 0
   · rw [if_pos c4]
     obtain ⟨a, b, c⟩ := bQc wl c4
     have ht := upT_size wl c4
     simp only [List.length_cons, List.length_nil] at ht b c
     exact ⟨by show k ≤ upP s (whiteZ s (nmP s k)) [63, 62]; omega, a, by show k + (upT s (whiteZ s (nmP s k)) [63, 62]).size ≤ upP s (whiteZ s (nmP s k)) [63, 62]; omega, cK5 h0 wl c4 (by simp) (by decide), by show (7 : Int) ≠ 4; decide, by show (7 : Int) ≠ 0; decide, AtOk.nil s⟩
   · rw [if_neg c4] at h; exact absurd h (aK3 c4)
 · rw [if_neg c3] at h ⊢
   by_cases c4 : aQp s (whiteZ s (nmP s k)) [63, 62] = 0
   · rw [if_pos c4]
     have hh := aJ0.1 c4
     have hr := aX5 hh wl
     exact ⟨by show k ≤ whiteZ s (nmP s k) + 2; omega, hr, by show k + ByteArray.empty.size ≤ whiteZ s (nmP s k) + 2; rw [bX4]; omega, aZn h0 hh wl (by simp) (by decide), by show (7 : Int) ≠ 4; decide, by show (7 : Int) ≠ 0; decide, AtOk.nil s⟩
   · rw [if_neg c4] at h; exact absurd h (aK3 c4)
theorem doctype_ok (h0 : VB s 0) {k : Nat} (h : (aX1 s k).fl = 0) : MkOk s k (aX1 s k) := by
 unfold aX1 at h ⊢
 dsimp only at h ⊢
 have w0 := aXj s k
 by_cases c1 : whiteZ s k = k
 · rw [if_pos c1] at h
   by_cases c : s.size ≤ k
   · rw [if_pos c] at h; cases h
   · rw [if_neg c] at h; cases h
 rw [if_neg c1] at h ⊢
 by_cases c2 : nmF s (whiteZ s k) ≠ 0
 · rw [if_pos c2] at h; exact absurd h (aK3 c2)
 rw [if_neg c2] at h ⊢
 have c2' : nmF s (whiteZ s k) = 0 := by simpa using c2
 obtain ⟨_, _, hnp, e4⟩ := aZx c2'
 have w := aXj s (nmP s (whiteZ s k))
 have hrl := aQv (s := s) (p := nmP s (whiteZ s k)) (by omega)
 by_cases c3 : aQa s (whiteZ s (nmP s (whiteZ s k))) [91] = true
 · rw [if_pos c3] at h ⊢
   have hroom := aX5 c3 hrl
   simp at hroom
   by_cases c4 : subF s (whiteZ s (nmP s (whiteZ s k)) + 1) ≠ 0
   · rw [if_pos c4] at h; exact absurd h (aK3 c4)
   rw [if_neg c4] at h ⊢
   have hsr := aYq (s := s) (s.size + 1) (whiteZ s (nmP s (whiteZ s k)) + 1) (by omega) (show subF s _ = 0 by simpa using c4)
   have hs2 : whiteZ s (nmP s (whiteZ s k)) + 1 < subP s (whiteZ s (nmP s (whiteZ s k)) + 1) := hsr.1
   have hs3 : subP s (whiteZ s (nmP s (whiteZ s k)) + 1) ≤ s.size := hsr.2
   have w2 := aXj s (subP s (whiteZ s (nmP s (whiteZ s k)) + 1))
   have w2l := aQv hs3
   have hts : (subT s (whiteZ s (nmP s (whiteZ s k)) + 1)).size = subP s (whiteZ s (nmP s (whiteZ s k)) + 1) - 1 - (whiteZ s (nmP s (whiteZ s k)) + 1) := by unfold subT; rw [aXy (by omega)]
   by_cases c5 : aQp s (whiteZ s (subP s (whiteZ s (nmP s (whiteZ s k)) + 1))) [62] = 0
   · rw [if_pos c5]
     have hh := aJ0.1 c5
     have hr := aX5 hh w2l
     exact ⟨by show k ≤ whiteZ s (subP s (whiteZ s (nmP s (whiteZ s k)) + 1)) + 1; omega, hr, by show k + (subT s (whiteZ s (nmP s (whiteZ s k)) + 1)).size ≤ whiteZ s (subP s (whiteZ s (nmP s (whiteZ s k)) + 1)) + 1; omega, aZn h0 hh w2l (by simp) (by decide), by show (8 : Int) ≠ 4; decide, by show (8 : Int) ≠ 0; decide, AtOk.nil s⟩
   · rw [if_neg c5] at h; exact absurd h (aK3 c5)
 · rw [if_neg c3] at h ⊢
   by_cases c5 : aQp s (whiteZ s (nmP s (whiteZ s k))) [62] = 0
   · rw [if_pos c5]
     have hh := aJ0.1 c5
     have hr := aX5 hh hrl
     exact ⟨by show k ≤ whiteZ s (nmP s (whiteZ s k)) + 1; omega, hr, by show k + ByteArray.empty.size ≤ whiteZ s (nmP s (whiteZ s k)) + 1; rw [bX4]; omega, aZn h0 hh hrl (by simp) (by decide), by show (8 : Int) ≠ 4; decide, by show (8 : Int) ≠ 0; decide, AtOk.nil s⟩
   · rw [if_neg c5] at h; exact absurd h (aK3 c5)
theorem mark_ok (h0 : VB s 0) {p : Nat} (hp : p < s.size) (h60 : aQ1 s p = 60) (h : (aJf s p).fl = 0) : MkOk s (p + 1) (aJf s p) := by
 by_cases h1 : s.size ≤ p + 1
 · rw [bYd hp h60 h1] at h; cases h
 have hp1 : p + 1 < s.size := by omega
 by_cases c1 : aQ1 s (p + 1) = 47
 · rw [bK2 hp1 h60 c1] at h ⊢; exact (end_ok h0 h).up (by omega)
 by_cases c2 : aQ1 s (p + 1) = 63
 · rw [cWv hp1 h60 c2] at h ⊢; exact (pi_ok h0 h).up (by omega)
 by_cases c3 : aQ1 s (p + 1) = 33
 · by_cases h2 : s.size ≤ p + 2
   · rw [bQy hp1 h60 c3 h2] at h; cases h
   have hp2 : p + 2 < s.size := by omega
   by_cases d1 : aQ1 s (p + 2) = 45
   · rw [bYe hp2 h60 c3 d1] at h ⊢
     by_cases hz : aQp s (p + 2) [45, 45] = 0
     · rw [if_pos hz] at h ⊢
       have := aX5 (aJ0.1 hz) (by omega)
       exact (comment_ok h0 (by simp at this; omega) h).up (by omega)
     · rw [if_neg hz] at h; exact absurd h (aK3 hz)
   by_cases d2 : aQ1 s (p + 2) = 91
   · rw [bK3 hp2 h60 c3 d2] at h ⊢
     by_cases hz : aQp s (p + 2) [91, 67, 68, 65, 84, 65, 91] = 0
     · rw [if_pos hz] at h ⊢
       have := aX5 (aJ0.1 hz) (by omega)
       exact (dZn h0 (by simp at this; omega) h).up (by omega)
     · rw [if_neg hz] at h; exact absurd h (aK3 hz)
   · rw [cJ2 hp2 h60 c3 d1 d2] at h ⊢
     by_cases hz : aQp s (p + 2) [68, 79, 67, 84, 89, 80, 69] = 0
     · rw [if_pos hz] at h ⊢
       exact (doctype_ok h0 h).up (by omega)
     · rw [if_neg hz] at h; exact absurd h (aK3 hz)
 · rw [cJ1 hp1 h60 c1 c2 c3] at h ⊢
   exact tag_ok h0 (aKq h0 (by omega) (by rw [Nat.add_sub_cancel, h60]; decide)) h
structure TkOk (s : ByteArray) (p : Nat) (T : Tk) : Prop where
 lt : p < T.pos
 sz : T.pos ≤ s.size
 text : p + T.text.size ≤ T.pos
 vb : VB s T.pos
 k0 : T.kind ≠ 0
 tv : T.kind = 4 → VB T.text 0
 attrs : AtOk s T.attrs
 len : T.attrs.length ≤ s.size + 1
theorem dV3 (h0 : VB s 0) {p : Nat} (hp : p < s.size) (hv : VB s p) (h60 : aQ1 s p ≠ 60) (c : Bool) (h : (aKs s p c).fl = 0) : TkOk s p (aKs s p c) := by
 have hpos := dX0 hp h60 c h
 have e : aKs s p c = ⟨0, 4, ByteArray.empty, s.extract p (aVf s p), [], aVf s p⟩ := by
  unfold aKs at h ⊢
  by_cases c1 : Lib.index (s.extract p (aVf s p)).data.toList [93, 93, 62] ≠ -1
  · rw [if_pos c1] at h; cases h
  rw [if_neg c1] at h ⊢
  by_cases c2 : aVf s p = s.size ∧ c = false
  · rw [if_pos c2] at h; cases h
  · rw [if_neg c2]
 have hl := cKb s p c
 rw [e] at hpos hl ⊢
 have hE : aVf s p ≤ s.size ∧ (aVf s p = s.size ∨ aQ1 s (aVf s p) = 60) := by
  unfold aVf
  rcases aZa s p [60] (by omega) with hz | ⟨i, hz, h1, h2, h3, _⟩
  · rw [if_pos hz]; exact ⟨Nat.le_refl _, .inl rfl⟩
  · rw [if_neg (by omega), hz]
    simp only [List.length_cons, List.length_nil] at h2
    refine ⟨by show i ≤ s.size; omega, .inr ?_⟩
    rw [bZe (by omega) 60 60 rfl] at h3
    exact of_decide_eq_true h3
 have hg : aVf s p = s.size ∨ ¬ aQw s (aVf s p) := hE.2.imp id (fun hb hg => by unfold aQw at hg; omega)
 refine ⟨hpos, hE.1, by show p + (s.extract p (aVf s p)).size ≤ aVf s p; rw [aXy hE.1]; simp only at hpos; omega, ?_, by show (4 : Int) ≠ 0; decide, fun _ => cQ1 hE.1 (Nat.le_of_lt hpos) hv hg, AtOk.nil s, by show 0 ≤ s.size + 1; omega⟩
 rcases hg with hg | hg
 · exact bZ5 (by show s.size ≤ aVf s p; omega)
 · exact VB_at h0 hg
theorem tok_ok (h0 : VB s 0) {p : Nat} (hp : p < s.size) (hv : VB s p) (c : Bool) (h : (tokZ s p c).fl = 0) : TkOk s p (tokZ s p c) := by
 have hq : aQa s p [60] = decide (aQ1 s p = 60) := bZe hp 60 60 rfl
 unfold tokZ at h ⊢
 rw [hq] at h ⊢
 by_cases h60 : aQ1 s p = 60
 · rw [if_pos (decide_eq_true h60)] at h ⊢
   have hm := mark_ok h0 hp h60 h
   exact ⟨hm.le, hm.sz, by have := hm.text; omega, hm.vb, hm.k0, fun h4 => absurd h4 hm.k4, hm.attrs, cWw s p⟩
 · rw [if_neg (by simpa using h60)] at h ⊢
   exact dV3 h0 hp hv h60 c h
end Go.Proofs.YtocnfoeaikiecaaGreatDoor.PlainM
namespace Go.Proofs.YtocnfoeaikiecaaGreatDoor.Plain8
open Plain1 Strs Plain3 Plain4 Plain5 Bytes Go.Lib
def At (s : ByteArray) (pos : Nat) (l : List Int) : Prop := pos + l.length ≤ s.size ∧ ∀ i, i < l.length → aQ1 s (pos + i) = l.getD i 0
theorem dXd {s : ByteArray} {pos : Nat} {c : Int} (hc : aZ5 c = true) (h : At s pos (encodeRuneZ c)) : aQm s pos = (c, (encodeRuneZ c).length) := by
 have hr := (aJn c).1 hc
 obtain ⟨hl, hb⟩ := h
 by_cases h1 : c ≤ 127
 · rw [encodeRuneZ_one (by omega) h1] at hl hb ⊢
   have b0 := hb 0 (by simp)
   simp at b0 hl
   unfold aQm
   rw [b0, if_pos (by omega)]
   have e : vz s pos c 0 = c := rfl
   rw [aJ5 (by omega) (aVb _ _) (by rw [show 1 - 1 = 0 from rfl, e]; omega) (by rw [show 1 - 1 = 0 from rfl, e]; exact hc), show 1 - 1 = 0 from rfl, e]
   simp
 by_cases h2 : c ≤ 2047
 · rw [encodeRuneZ_two (by omega) h2] at hl hb ⊢
   have b0 := hb 0 (by simp)
   have b1 := hb 1 (by simp)
   simp at b0 b1 hl
   unfold aQm
   rw [b0, if_neg (by omega), if_pos (by omega)]
   have e : vz s pos (192 + c / 64 - 192) 1 = c := by rw [vz1, b1]; omega
   rw [aJ5 (by omega) (cJp.2 (by unfold aQw; rw [b1]; omega)) (by rw [show 2 - 1 = 1 from rfl, e]; omega) (by rw [show 2 - 1 = 1 from rfl, e]; exact hc), show 2 - 1 = 1 from rfl, e]
   simp
 by_cases h3 : c ≤ 65535
 · rw [encodeRuneZ_three (by omega)] at hl hb ⊢
   have b0 := hb 0 (by simp)
   have b1 := hb 1 (by simp)
   have b2 := hb 2 (by simp)
   simp at b0 b1 b2 hl
   unfold aQm
   rw [b0, if_neg (by omega), if_neg (by omega), if_pos (by omega)]
   have e : vz s pos (224 + c / 4096 - 224) 2 = c := by rw [vz2, b1, b2]; omega
   rw [aJ5 (by omega) (cQ3.2 ⟨by unfold aQw; rw [b1]; omega, by unfold aQw; rw [b2]; omega⟩) (by rw [show 3 - 1 = 2 from rfl, e]; omega) (by rw [show 3 - 1 = 2 from rfl, e]; exact hc), show 3 - 1 = 2 from rfl, e]
   simp
 · rw [encodeRuneZ_four (by omega) (by omega)] at hl hb ⊢
   have b0 := hb 0 (by simp)
   have b1 := hb 1 (by simp)
   have b2 := hb 2 (by simp)
   have b3 := hb 3 (by simp)
   simp at b0 b1 b2 b3 hl
   unfold aQm
   rw [b0, if_neg (by omega), if_neg (by omega), if_neg (by omega), if_pos (by omega)]
   have e : vz s pos (240 + c / 262144 - 240) 3 = c := by rw [vz3, b1, b2, b3]; omega
   rw [aJ5 (by omega) (dQe.2 ⟨by unfold aQw; rw [b1]; omega, by unfold aQw; rw [b2]; omega, by unfold aQw; rw [b3]; omega⟩) (by rw [show 4 - 1 = 3 from rfl, e]; omega) (by rw [show 4 - 1 = 3 from rfl, e]; exact hc), show 4 - 1 = 3 from rfl, e]
   simp
theorem At.left {s : ByteArray} {pos : Nat} {l m : List Int} (h : At s pos (l ++ m)) : At s pos l := by
 obtain ⟨h1, h2⟩ := h
 refine ⟨by simp at h1; omega, fun i hi => ?_⟩
 rw [h2 i (by simp; omega)]
 simp [List.getD, List.getElem?_append_left hi]
theorem At.right {s : ByteArray} {pos : Nat} {l m : List Int} (h : At s pos (l ++ m)) : At s (pos + l.length) m := by
 obtain ⟨h1, h2⟩ := h
 refine ⟨by simp at h1; omega, fun i hi => ?_⟩
 have := h2 (l.length + i) (by simp; omega)
 rw [← Nat.add_assoc] at this
 rw [this]
 simp [List.getD, List.getElem?_append_right]
theorem cZl {s : ByteArray} : ∀ (l : List Int) (f pos : Nat) (acc : List Int), l.all aZ5 = true → At s pos (aX8 l) → pos + (aX8 l).length = s.size → s.size < pos + f → scan s f pos acc = (acc ++ l, -1)
 | [], f, pos, acc, _, _, he, _ => by rw [aWq (by simp [aX8] at he; omega)]; simp
 | c :: l, f, pos, acc, hall, hat, he, hf => by
  simp only [List.all_cons, Bool.and_eq_true] at hall
  have e : aX8 (c :: l) = encodeRuneZ c ++ aX8 l := by simp [aX8]
  rw [e] at hat he
  have hr := dXd hall.1 hat.left
  have hlen := (aJb c).1
  obtain ⟨f', rfl⟩ : ∃ f', f = f' + 1 := ⟨f - 1, by simp at he; omega⟩
  have hlt : pos < s.size := by simp at he; omega
  rw [aVl hlt (by rw [hr]; simp only []; omega), hr]
  simp only []
  rw [cZl l f' (pos + (encodeRuneZ c).length) (acc ++ [c]) hall.2 hat.right (by simp at he; omega) (by omega)]
  simp
theorem cVp (xs : List Int) (i : Nat) (h : i < xs.length) (hb : ∀ i, i < xs.length → 0 ≤ xs.getD i 0 ∧ xs.getD i 0 ≤ 255) : aQ1 (strOfNums xs) i = xs.getD i 0 := by
 unfold aQ1
 rw [strOfNums_data]
 have := hb i h
 simp [List.getD, h] at this ⊢
 omega
theorem enc_bd (c : Int) (hc : aZ5 c = true) : ∀ x ∈ encodeRuneZ c, 0 ≤ x ∧ x ≤ 255 := by
 have hr := (aJn c).1 hc
 intro x hx
 by_cases h1 : c ≤ 127
 · rw [encodeRuneZ_one (by omega) h1] at hx; simp at hx; omega
 by_cases h2 : c ≤ 2047
 · rw [encodeRuneZ_two (by omega) h2] at hx; simp at hx; omega
 by_cases h3 : c ≤ 65535
 · rw [encodeRuneZ_three (by omega)] at hx; simp at hx; omega
 · rw [encodeRuneZ_four (by omega) (by omega)] at hx; simp at hx; omega
theorem cYx (l : List Int) (h : l.all aZ5 = true) : ∀ i, i < (aX8 l).length → 0 ≤ (aX8 l).getD i 0 ∧ (aX8 l).getD i 0 ≤ 255 := by
 intro i hi
 have hm : (aX8 l).getD i 0 ∈ aX8 l := by simp [List.getD, hi]
 generalize (aX8 l).getD i 0 = x at hm ⊢
 unfold aX8 at hm
 rw [List.mem_flatMap] at hm
 obtain ⟨c, hc, hx⟩ := hm
 rw [List.all_eq_true] at h
 exact enc_bd c (h c hc) x hx
theorem bZw (l : List Int) (h : l.all aZ5 = true) : aX4 (strOfNums (aX8 l)) = (l, -1) := by
 unfold aX4
 have hs := strOfNums_size (aX8 l)
 have := cZl (s := strOfNums (aX8 l)) l ((strOfNums (aX8 l)).size + 1) 0 [] h ⟨by rw [hs]; omega, fun i hi => by rw [Nat.zero_add]; exact cVp _ i hi (cYx l h)⟩ (by rw [hs]; omega) (by omega)
 simpa using this
theorem cJk {s : ByteArray} {pos : Nat} (h : (aQm s pos).2 ≠ 0) : aZ5 (aQm s pos).1 = true ∧ (encodeRuneZ (aQm s pos).1).length = (aQm s pos).2 ∧ At s pos (encodeRuneZ (aQm s pos).1) := by
 have hb := aXn s pos
 have key : ∀ {x0 low : Int} {n : Nat}, (fin s pos x0 n low).2 ≠ 0 → pos + n ≤ s.size ∧ aVu s pos n ∧ low ≤ vz s pos x0 (n - 1) ∧ aZ5 (vz s pos x0 (n - 1)) = true ∧ fin s pos x0 n low = (vz s pos x0 (n - 1), n) := by
  intro x0 low n hf
  unfold fin at hf ⊢
  split at hf
  · rename_i hh; rw [if_pos hh]; exact ⟨hh.1, hh.2.1, hh.2.2.1, hh.2.2.2, rfl⟩
  · simp at hf
 unfold aQm at h ⊢
 by_cases c1 : aQ1 s pos < 128
 · rw [if_pos c1] at h ⊢
   obtain ⟨k1, k2, k3, k4, k5⟩ := key h
   rw [k5]
   have e : vz s pos (aQ1 s pos) (1 - 1) = aQ1 s pos := rfl
   rw [e] at k4 ⊢
   simp only
   rw [encodeRuneZ_one hb.1 (by omega)]
   refine ⟨k4, rfl, by simpa using k1, fun i hi => ?_⟩
   simp at hi; subst hi; simp
 rw [if_neg c1] at h ⊢
 by_cases c2 : 192 ≤ aQ1 s pos ∧ aQ1 s pos < 224
 · rw [if_pos c2] at h ⊢
   obtain ⟨k1, k2, k3, k4, k5⟩ := key h
   rw [k5]
   have g := cJp.1 k2
   unfold aQw at g
   rw [show 2 - 1 = 1 from rfl, vz1] at k3 k4 ⊢
   simp only
   generalize hx : 64 * (aQ1 s pos - 192) + aQ1 s (pos + 1) - 128 = x at k3 k4 ⊢
   rw [encodeRuneZ_two (by omega) (by omega)]
   refine ⟨k4, rfl, by simpa using k1, fun i hi => ?_⟩
   simp at hi
   have : i = 0 ∨ i = 1 := by omega
   rcases this with rfl | rfl
   · simp; omega
   · simp; omega
 rw [if_neg c2] at h ⊢
 by_cases c3 : 224 ≤ aQ1 s pos ∧ aQ1 s pos < 240
 · rw [if_pos c3] at h ⊢
   obtain ⟨k1, k2, k3, k4, k5⟩ := key h
   rw [k5]
   have g := cQ3.1 k2
   unfold aQw at g
   rw [show 3 - 1 = 2 from rfl, vz2] at k3 k4 ⊢
   simp only
   generalize hx : 64 * (64 * (aQ1 s pos - 224) + aQ1 s (pos + 1) - 128) + aQ1 s (pos + 2) - 128 = x at k3 k4 ⊢
   have hr := (aJn x).1 k4
   rw [encodeRuneZ_three (by omega)]
   refine ⟨k4, rfl, by simpa using k1, fun i hi => ?_⟩
   simp at hi
   have : i = 0 ∨ i = 1 ∨ i = 2 := by omega
   rcases this with rfl | rfl | rfl
   · simp; omega
   · simp; omega
   · simp; omega
 rw [if_neg c3] at h ⊢
 by_cases c4 : 240 ≤ aQ1 s pos ∧ aQ1 s pos < 248
 · rw [if_pos c4] at h ⊢
   obtain ⟨k1, k2, k3, k4, k5⟩ := key h
   rw [k5]
   have g := dQe.1 k2
   unfold aQw at g
   rw [show 4 - 1 = 3 from rfl, vz3] at k3 k4 ⊢
   simp only
   generalize hx : 64 * (64 * (64 * (aQ1 s pos - 240) + aQ1 s (pos + 1) - 128) + aQ1 s (pos + 2) - 128) + aQ1 s (pos + 3) - 128 = x at k3 k4 ⊢
   have hr := (aJn x).1 k4
   rw [encodeRuneZ_four (by omega) (by omega)]
   refine ⟨k4, rfl, by simpa using k1, fun i hi => ?_⟩
   simp at hi
   have : i = 0 ∨ i = 1 ∨ i = 2 ∨ i = 3 := by omega
   rcases this with rfl | rfl | rfl | rfl
   · simp; omega
   · simp; omega
   · simp; omega
   · simp; omega
 rw [if_neg c4] at h
 simp at h
theorem At.append {s : ByteArray} {l m : List Int} (h1 : At s 0 l) (h2 : At s l.length m) : At s 0 (l ++ m) := by
 refine ⟨by have := h2.1; simp; omega, fun i hi => ?_⟩
 by_cases h : i < l.length
 · rw [h1.2 i h]; simp [List.getD, List.getElem?_append_left h]
 · have := h2.2 (i - l.length) (by simp at hi; omega)
   rw [show l.length + (i - l.length) = 0 + i by omega] at this
   rw [this]
   simp [List.getD, List.getElem?_append_right (show l.length ≤ i by omega)]
theorem bWt {s : ByteArray} : ∀ (f i : Nat) (acc : List Int), i ≤ s.size → acc.all aZ5 = true → At s 0 (aX8 acc) → (aX8 acc).length = i → s.size < i + f →
 (∃ l, scan s f i acc = (l, -1) ∧ l.all aZ5 = true ∧ At s 0 (aX8 l) ∧ (aX8 l).length = s.size) ∨ (∃ (p : Nat) (l : List Int), scan s f i acc = ([], (p : Int)) ∧ p < s.size ∧ l.all aZ5 = true ∧ At s 0 (aX8 l) ∧ (aX8 l).length = p)
 | 0, i, acc, h, _, _, _, hf => by omega
 | f + 1, i, acc, h, hall, hat, hlen, hf => by
  by_cases hi : i < s.size
  · by_cases hb : (aQm s i).2 = 0
    · right; exact ⟨i, acc, aW0 hi hb, hi, hall, hat, hlen⟩
    · obtain ⟨e1, e2, e3⟩ := cJk hb
      rw [aVl hi hb]
      refine bWt f (i + (aQm s i).2) (acc ++ [(aQm s i).1]) (aWr hb) ?_ ?_ ?_ (by omega)
      · rw [List.all_append, hall]; simp [e1]
      · rw [bV1]; exact hat.append (by rw [hlen]; exact e3)
      · rw [bV1, List.length_append, hlen, e2]
  · left
    rw [aWq (by omega)]
    exact ⟨acc, rfl, hall, hat, by omega⟩
end Go.Proofs.YtocnfoeaikiecaaGreatDoor.Plain8
namespace Go.Proofs.YtocnfoeaikiecaaGreatDoor.Plain32
open Go.RowKit Plain30 Go.Lib
variable {s : ByteArray}
theorem dJo (v : ByteArray) (i q : Nat) : (v.extract i q).size ≤ v.size := by
 rw [ByteArray.size_extract]; omega
end Go.Proofs.YtocnfoeaikiecaaGreatDoor.Plain32
namespace Go.Proofs.YtocnfoeaikiecaaGreatDoor.PlainD
open Go.RowKit Plain1 Strs Bytes Ents Plain3 Plain5 Plain8 Plain9 Plain10 Plain11 Plain21 Plain23 Plain24 Plain27 Plain29 Plain31 PlainM Go.Lib
variable {s : ByteArray}
theorem ref_VB (h0 : VB s 0) {p q : Nat} {r : Rf} (hp : p < s.size) (h : refZ s p = some (r, q)) : VB s q ∧ (∀ n, r = .inl n → p + 4 ≤ q) := by
 unfold refZ at h
 split at h
 · rename_i h1
   obtain ⟨x, hx, he⟩ := Option.map_eq_some_iff.1 h
   cases he
   obtain ⟨⟨n1, n2, n3, n4⟩, rfl⟩ := cZw hx
   have ha : p + 2 ≤ aZu s (p + 2) := by unfold aZu; split <;> omega
   have hlt : aZu s (p + 2) + (numD s (p + 2)).length < s.size := bJr n3
   exact ⟨aZn h0 n3 (by omega) (by simp) (by decide), fun n _ => by simp only; omega⟩
 · obtain ⟨x, hx, he⟩ := Option.map_eq_some_iff.1 h
   cases he
   unfold aVw at hx
   split at hx
   · rename_i h1
     cases hx
     have hs := aZx h1.1
     exact ⟨aZn h0 h1.2 (by omega) (by simp) (by decide), fun n hn => by cases hn⟩
   · cases hx
theorem cZv {u : ByteArray} (h : VB u 0) : ∃ l, l.all aZ5 = true ∧ nums u = aX8 l := by
 have hs := cV1 h
 unfold aX4 at hs
 rcases bWt (s := u) (u.size + 1) 0 [] (Nat.zero_le _) rfl ⟨by simp [aX8], fun i hi => by simp [aX8] at hi⟩ rfl (by omega) with ⟨l, h1, h2, h3, h4⟩ | ⟨p, l, h1, _⟩
 · refine ⟨l, h2, ?_⟩
   apply List.ext_getElem?
   intro i
   unfold nums
   by_cases hi : i < u.size
   · have hb := h3.2 i (by omega)
     rw [Nat.zero_add] at hb
     have hi' : i < u.data.toList.length := hi
     have hl : i < (aX8 l).length := by omega
     rw [List.getElem?_map, List.getElem?_eq_getElem hi', List.getElem?_eq_getElem hl]
     simp only [Option.map_some]
     congr 1
     unfold aQ1 at hb
     simp only [List.getD, List.getElem?_eq_getElem hi', List.getElem?_eq_getElem hl, Option.getD_some] at hb
     exact hb
   · rw [List.getElem?_eq_none (by rw [List.length_map]; show u.size ≤ i; omega), List.getElem?_eq_none (by omega)]
 · rw [h1] at hs
   simp only at hs
   omega
theorem cJf {v : ByteArray} : ∀ (L : List Int) (f i : Nat) (acc : List Int), At v i L → (∀ x ∈ L, x ≠ 37 ∧ x ≠ 38) → aK6 v (f + L.length) i acc = aK6 v f (i + L.length) (acc ++ L)
 | [], f, i, acc, _, _ => by simp
 | x :: L, f, i, acc, h, hx => by
  have h1 := h.1
  simp only [List.length_cons] at h1
  have hb : aQ1 v i = x := by have := h.2 0 (by simp); simpa using this
  have hx0 := hx x (by simp)
  have ht : At v (i + 1) L := by have := At.right (l := [x]) (m := L) h; simpa using this
  rw [show f + (x :: L).length = (f + L.length) + 1 by simp; omega, dJi (by omega) (by rw [hb]; exact hx0.1) (by rw [hb]; exact hx0.2), cJf L f (i + 1) _ ht (fun y hy => hx y (by simp [hy])), hb]
  simp only [List.append_assoc, List.singleton_append, List.length_cons]
  rw [show i + 1 + L.length = i + (L.length + 1) by omega]
theorem aJt (c : Int) (l : List Int) : aX8 (c :: l) = encodeRuneZ c ++ aX8 l := by simp [aX8]
theorem bK7 (a b : List Int) : aX8 (a ++ b) = aX8 a ++ aX8 b := by simp [aX8]
theorem bW5 {v : ByteArray} (h0 : VB v 0) : ∀ (n f i : Nat) (acc t : List Int), v.size ≤ i + n → i ≤ v.size → VB v i → v.size < i + f → aK6 v f i acc = some t → ∃ l, l.all aZ5 = true ∧ t = acc ++ aX8 l ∧ (aX8 l).length ≤ v.size - i
 | 0, f, i, acc, t, hn, hi, hv, hf, h => by
  rw [cXq (by omega)] at h
  cases h
  exact ⟨[], rfl, by simp [aX8], by simp [aX8]⟩
 | n' + 1, f, i, acc, t, hn, hi, hv, hf, h => by
  by_cases hlt : i < v.size
  · obtain ⟨f', rfl⟩ : ∃ f', f = f' + 1 := ⟨f - 1, by omega⟩
    by_cases h37 : aQ1 v i = 37
    · rw [cYo hlt h37] at h; cases h
    by_cases h38 : aQ1 v i = 38
    · cases hr : refZ v i with
      | none => rw [cYs hlt h38 hr] at h; cases h
      | some x =>
       obtain ⟨x, q⟩ := x
       obtain ⟨r1, r2, r3, _⟩ := cZo hlt hr
       obtain ⟨rv, r4⟩ := ref_VB h0 hlt hr
       cases x with
       | inl c =>
        rw [cYr hlt h38 hr] at h
        obtain ⟨l, l1, l2, l3⟩ := bW5 h0 n' f' q _ t (by omega) r2 rv (by omega) h
        have hc := r3 c rfl
        have h4 := r4 c rfl
        have hl := (aJb c).2
        refine ⟨c :: l, by simp only [List.all_cons, hc, l1]; rfl, by rw [l2, aJt, List.append_assoc], ?_⟩
        rw [aJt, List.length_append]
        omega
       | inr nm =>
        rw [cYp hlt h38 hr] at h
        obtain ⟨l, l1, l2, l3⟩ := bW5 h0 n' f' q _ t (by omega) r2 rv (by omega) h
        have hg : q = v.size ∨ ¬ aQw v q := by
         by_cases hq : q < v.size
         · exact .inr (aWg (aY1 rv hq).1).1
         · exact .inl (by omega)
        obtain ⟨k, k1, k2⟩ := cZv (cQ1 r2 (by omega) hv hg)
        have kl : (aX8 k).length = q - i := by rw [← k2, aK1, aXy r2]
        refine ⟨k ++ l, by rw [List.all_append, k1, l1]; rfl, by rw [l2, bK7, k2, List.append_assoc], ?_⟩
        rw [bK7, List.length_append]
        omega
    · obtain ⟨hr, hv2⟩ := aY1 hv hlt
      obtain ⟨e1, e2, e3⟩ := cJk hr
      have hb := (aWg hr).2
      have hle := e3.1
      obtain ⟨f2, hf2⟩ : ∃ f2, f' + 1 = f2 + (encodeRuneZ (aQm v i).1).length := ⟨f' + 1 - (encodeRuneZ (aQm v i).1).length, by omega⟩
      rw [hf2, cJf _ f2 i acc e3 (fun x hx => ?_)] at h
      · rw [e2] at h
        obtain ⟨l, l1, l2, l3⟩ := bW5 h0 n' f2 _ _ t (by omega) (by omega) hv2 (by omega) h
        refine ⟨(aQm v i).1 :: l, by simp only [List.all_cons, e1, l1]; rfl, by rw [l2, aJt, List.append_assoc], ?_⟩
        rw [aJt, List.length_append]
        omega
      · obtain ⟨j, hj, rfl⟩ := List.mem_iff_getElem.1 hx
        have hbj := e3.2 j hj
        simp only [List.getD, List.getElem?_eq_getElem hj, Option.getD_some] at hbj
        rw [← hbj]
        by_cases hj0 : j = 0
        · subst hj0; rw [Nat.add_zero]; exact ⟨h37, h38⟩
        · have := (hb j (by omega) (by omega)).1
          unfold aQw at this
          omega
  · rw [cXq hlt] at h
    cases h
    exact ⟨[], rfl, by simp [aX8], by simp [aX8]⟩
theorem dK8 {v : ByteArray} (h0 : VB v 0) {t : List Int} (h : entO v = some t) : (strOfNums t).size ≤ v.size ∧ VB (strOfNums t) 0 := by
 obtain ⟨l, l1, l2, l3⟩ := bW5 h0 v.size (v.size + 1) 0 [] t (by omega) (Nat.zero_le _) h0 (by omega) h
 rw [List.nil_append] at l2
 subst l2
 refine ⟨by rw [strOfNums_size]; omega, dQs ?_⟩
 rw [bZw l l1]
 show (-1 : Int) < 0
 decide
def DfOk (n : Nat) : Df → Prop
 | .inl e => e.1.size ≤ n ∧ e.2.size ≤ n ∧ VB e.2 0
 | .inr a => a.of.size ≤ n ∧ a.nm.size ≤ n ∧ a.val.size ≤ n ∧ VB a.val 0
theorem qt_ok (h0 : VB s 0) {p : Nat} {v : ByteArray × Nat} (h : qtO s p = some v) : v.1.size ≤ s.size ∧ VB v.1 0 := by
 unfold qtO at h
 split at h
 · rename_i hc
   cases h
   obtain ⟨h1, h2, h3⟩ := hc
   have hq : aQ1 s p = 34 ∨ aQ1 s p = 39 := of_decide_eq_true h2
   have hv : VB s (p + 1) := aKq h0 (by omega) (by rw [Nat.add_sub_cancel]; omega)
   have hsz := upT_size (s := s) (k := p + 1) (by omega) h3
   have hle := bQc (s := s) (p := p + 1) (by omega) h3
   refine ⟨by simp only; omega, ?_⟩
   unfold upF at h3
   unfold upT
   rcases aZa s (p + 1) [u8 s p] (by omega) with hz | ⟨i, hz, i1, i2, i3, _⟩
   · rw [if_pos hz] at h3; cases h3
   · rw [hz, Int.toNat_natCast]
     simp only [List.length_cons, List.length_nil] at i2
     refine cQ1 (by omega) i1 hv (.inr (fun hg => ?_))
     have hb := aK2 i3 (by omega) 0 (by simp)
     simp only [Nat.add_zero] at hb
     have hb2 : aQ1 s i = aQ1 s p := hb
     unfold aQw at hg
     omega
 · cases h
theorem bKr {p : Nat} {n : ByteArray × Nat} (h : aJ6 s p = some n) : n.1.size ≤ s.size := (cWo h).2
theorem cYn (h0 : VB s 0) {p : Nat} {r : List Df × Nat} (h : aJs s p = some r) : ∀ x ∈ r.1, DfOk s.size x := by
 unfold aJs at h
 obtain ⟨a, _, h⟩ := Option.bind_eq_some_iff.1 h
 obtain ⟨n, hn, h⟩ := Option.bind_eq_some_iff.1 h
 obtain ⟨b, _, h⟩ := Option.bind_eq_some_iff.1 h
 obtain ⟨v, hv, h⟩ := Option.bind_eq_some_iff.1 h
 obtain ⟨t, ht, h⟩ := Option.bind_eq_some_iff.1 h
 obtain ⟨q, _, h⟩ := Option.bind_eq_some_iff.1 h
 cases h
 obtain ⟨v1, v2⟩ := qt_ok h0 hv
 obtain ⟨t1, t2⟩ := dK8 v2 ht
 intro x hx
 simp only [List.mem_singleton] at hx
 subst hx
 exact ⟨bKr hn, by simp only; omega, t2⟩
theorem cK4 (h0 : VB s 0) {p : Nat} {v : ByteArray × Nat} (h : valO s p = some v) : v.1.size ≤ s.size ∧ VB v.1 0 := by
 unfold valO at h
 split at h
 · rename_i hc; cases h; exact dZw h0 hc
 · cases h
theorem cJl : VB (⟨#[]⟩ : ByteArray) 0 := bZ5 (Nat.zero_le _)
theorem def_ok (h0 : VB s 0) {p : Nat} {d : Bool × ByteArray × Nat} (h : defZ s p = some d) : d.2.1.size ≤ s.size ∧ VB d.2.1 0 := by
 unfold defZ at h
 split at h
 · cases h; exact ⟨Nat.zero_le _, cJl⟩
 · split at h
   · cases h; exact ⟨Nat.zero_le _, cJl⟩
   · split at h
     · obtain ⟨a, _, h⟩ := Option.bind_eq_some_iff.1 h
       obtain ⟨v, hv, h⟩ := Option.bind_eq_some_iff.1 h
       cases h
       exact cK4 h0 hv
     · obtain ⟨v, hv, h⟩ := Option.bind_eq_some_iff.1 h
       cases h
       exact cK4 h0 hv
theorem att_ok (h0 : VB s 0) {o : ByteArray} (ho : o.size ≤ s.size) {p : Nat} {r : At5 × Nat} (h : attZ s o p = some r) : DfOk s.size (.inr r.1) := by
 unfold attZ at h
 obtain ⟨n, hn, h⟩ := Option.bind_eq_some_iff.1 h
 obtain ⟨a, _, h⟩ := Option.bind_eq_some_iff.1 h
 obtain ⟨k, _, h⟩ := Option.bind_eq_some_iff.1 h
 obtain ⟨wd, _, h⟩ := Option.bind_eq_some_iff.1 h
 obtain ⟨b, _, h⟩ := Option.bind_eq_some_iff.1 h
 obtain ⟨d, hd, h⟩ := Option.bind_eq_some_iff.1 h
 cases h
 obtain ⟨d1, d2⟩ := def_ok h0 hd
 exact ⟨ho, bKr hn, d1, d2⟩
theorem dQm (h0 : VB s 0) {o : ByteArray} (ho : o.size ≤ s.size) : ∀ (f p : Nat) (acc : List At5) (r : List At5 × Nat), aKp s o f p acc = some r → (∀ a ∈ acc, DfOk s.size (.inr a)) → ∀ a ∈ r.1, DfOk s.size (.inr a)
 | 0, p, acc, r, h, _ => by simp [aKp] at h
 | f + 1, p, acc, r, h, ha => by
  unfold aKp at h
  split at h
  · cases h; exact ha
  · split at h
    · cases h
    · cases hz : attZ s o (whiteZ s p) with
      | none => rw [hz] at h; cases h
      | some x =>
       rw [hz] at h
       refine dQm h0 ho f _ _ r h (fun a hm => ?_)
       rcases List.mem_append.1 hm with hm | hm
       · exact ha a hm
       · rw [List.mem_singleton] at hm
         subst hm
         exact att_ok h0 ho hz
theorem cVs (h0 : VB s 0) {p : Nat} {r : List Df × Nat} (h : aK8 s p = some r) : ∀ x ∈ r.1, DfOk s.size x := by
 unfold aK8 at h
 obtain ⟨a, _, h⟩ := Option.bind_eq_some_iff.1 h
 obtain ⟨n, hn, h⟩ := Option.bind_eq_some_iff.1 h
 obtain ⟨l, hl, h⟩ := Option.bind_eq_some_iff.1 h
 cases h
 intro x hx
 obtain ⟨a, ha, rfl⟩ := List.mem_map.1 hx
 exact dQm h0 (bKr hn) _ _ _ _ hl (fun a ha => by cases ha) a ha
theorem dZ0 (h0 : VB s 0) {p : Nat} {r : List Df × Nat} (h : aWu s p = some r) : ∀ x ∈ r.1, DfOk s.size x := by
 unfold aWu at h
 split at h
 · split at h
   · cases h; intro x hx; cases hx
   · cases h
 · split at h
   · split at h
     · cases h; intro x hx; cases hx
     · cases h
   · split at h
     · exact cYn h0 h
     · split at h
       · exact cVs h0 h
       · split at h
         · unfold aK7 at h
           obtain ⟨a, _, h⟩ := Option.bind_eq_some_iff.1 h
           obtain ⟨n, hn, h⟩ := Option.bind_eq_some_iff.1 h
           obtain ⟨b, _, h⟩ := Option.bind_eq_some_iff.1 h
           split at h
           · cases h; intro x hx; cases hx
           · cases h
         · cases h
structure HdOk (n : Nat) (d : Dt) : Prop where
 ents : ∀ e ∈ d.ents, DfOk n (.inl e)
 atts : ∀ a ∈ d.atts, DfOk n (.inr a)
theorem add_ok {n : Nat} {d : Dt} {x : Df} (h : HdOk n d) (hx : DfOk n x) : HdOk n (addD d x) := by
 unfold addD
 cases x with
 | inl e =>
  simp only
  split
  · exact h
  · refine ⟨fun y hy => ?_, h.atts⟩
    rcases List.mem_append.1 hy with hy | hy
    · exact h.ents y hy
    · rw [List.mem_singleton] at hy; subst hy; exact hx
 | inr a =>
  simp only
  split
  · exact h
  · refine ⟨h.ents, fun y hy => ?_⟩
    rcases List.mem_append.1 hy with hy | hy
    · exact h.atts y hy
    · rw [List.mem_singleton] at hy; subst hy; exact hx
theorem dJr {n : Nat} : ∀ (l : List Df) (d : Dt), HdOk n d → (∀ x ∈ l, DfOk n x) → HdOk n (aZe d l)
 | [], d, h, _ => h
 | x :: l, d, h, hl => dJr l (addD d x) (add_ok h (hl x (by simp))) (fun y hy => hl y (by simp [hy]))
theorem cJa (n : Nat) : HdOk n ⟨[], []⟩ := ⟨(fun e h => by cases h), (fun e h => by cases h)⟩
end Go.Proofs.YtocnfoeaikiecaaGreatDoor.PlainD
