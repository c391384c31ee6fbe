import Derived.Test.YtdblemolaojebaaGreatDoorFreA
import Derived.Test.YtdblemolaojebaaGreatDoorPlF
namespace Go.Proofs.YtdblemolaojebaaGreatDoor
open Go.RowKit Plain23 Go.Lib Ents
theorem own_grown {w w' : World} {B : Nat} {e : TypeId} {size : Nat} {v : Value} {n : Nat} {xs : List Value} (h : w.ownsRow B e size v n xs) (hg : w.grownBy w' none) : w'.ownsRow B e size v n xs :=
 h.kept hg (by cases v.ownBlock with | none => exact .inl rfl | some _ => exact .inr (by simp))
def aJp (l : List At5) : List Value := l.flatMap fun a => [.string a.of, .string a.nm, .bool a.words, .bool a.has, .string a.val]
theorem tcells_snoc (l : List At5) (a : At5) : aJp (l ++ [a]) = aJp l ++ [.string a.of, .string a.nm, .bool a.words, .bool a.has, .string a.val] := by simp [aJp]
theorem row_ne {W : World} {B : Nat} {e t : TypeId} {size : Nat} {v : Value} {n : Nat} {xs : List Value} {b : Nat} {c : Array Value} {fr : Nat × Nat} (h : W.ownsRow B e size v n xs) (hb : W.heap[b]? = some (.cells c t fr)) (hne : t ≠ e) : v.ownBlock ≠ some b := by
 rcases h.2 with ⟨rfl, _⟩ | ⟨g', cap, cur, rfl, _, hh, _⟩
 · simp [Value.ownBlock]
 · intro e'
   have : g' = b := by simpa [Value.ownBlock] using e'
   subst this
   rw [hb] at hh
   cases hh
   exact hne rfl
theorem aXu {P : Program} {ops : Array Oper} {o : Oper} {a : Act} {w : World} {K : Act → World → Prop} {Q : Exit → Act → World → Prop} {F : Prop} (hg : o.guard = none) (x y : Operand) (t : TypeId)
 (ho : o.op = .call { callee := .builtin .append, args := #[x, y], argTypes := #[t, t] })
 (base : Nat) (e : TypeId) (i : TypeInfo) (z : Value) (size bytes : Nat) (ht : P.underlying t = some (.slice e)) (hi : P.info? e = some i) (hz : i.zero = some z)
 (hsize : i.size = size) (hby : i.bytes = bytes) (hzs : z.cells.size = size) (hsz : 0 < size)
 (v : Value) (n : Nat) (xs : List Value) (hs : a.eval x = v) (hown : w.ownsRow base e size v n xs)
 (ad : Addr) (m c : Nat) (news : List Value) (hx : a.eval y = .slice (some ad) m c) (hl : news.length = m * size) (hnews : ∀ j u, news[j]? = some u → w.cell? (ad.add j) = some u) (h1 : ∀ u ∈ news, u.oneCell' = true)
 (h63 : n + m ≤ maxLen) (hbytes : ((n + m) + (n + m) / 4 + 192) * bytes ≤ 281474976710656) (hbase : base ≤ w.heap.size)
 (h : ∀ v' w', w'.ownsRow base e size v' (n + m) (xs ++ news) → w.grownBy w' v.ownBlock → K (a.put o.dst v') w') :
 if Region.wanted o (yielded ops a.tmps) = true then Oper.wp P o a w K Q else F := by
 have hw : Region.wanted o (yielded ops a.tmps) = true := by simp [Region.wanted, hg]
 rw [if_pos hw]
 exact wp_append_own_wide w x y t ho base e i z size bytes ht hi hz hsize hby hzs hsz v n xs hs hown ad m c news hx hl hnews h1 h63 hbytes hbase fun v' w' h2 h3 _ => h v' w' h2 h3
theorem infoE : (Tryz.prog.info? 195).map (fun i => (i.zero, i.size, i.bytes)) = some (some (.agg #[.string ByteArray.empty, .string ByteArray.empty]), 2, 32) := by kernel_rfl
theorem rows_ne {W : World} {B : Nat} {e1 e2 : TypeId} {s1 s2 : Nat} {v1 v2 : Value} {n1 n2 : Nat} {xs1 xs2 : List Value} (h1 : W.ownsRow B e1 s1 v1 n1 xs1) (h2 : W.ownsRow B e2 s2 v2 n2 xs2) (hne : e1 ≠ e2) : v1.ownBlock = none ∨ v1.ownBlock ≠ v2.ownBlock := by
 rcases h1.2 with ⟨rfl, _⟩ | ⟨b, cap, cur, rfl, _, hh, _⟩
 · exact .inl rfl
 · exact .inr fun e => row_ne h2 hh hne (by rw [← e]; rfl)
theorem bWi (w : World) (a b c e f : Value) (t : TypeId) (n : Nat) (hn : n = w.heap.size) : ∀ j u, [a, b, c, e, f][j]? = some u → (w.alloc (.cells #[a, b, c, e, f] t)).cell? ((⟨n, 0, none⟩ : Addr).add j) = some u := by
 subst hn
 intro j u hj
 match j, hj with
 | 0, hj => simp at hj; subst hj; simp [Addr.add]
 | 1, hj => simp at hj; subst hj; simp [Addr.add]
 | 2, hj => simp at hj; subst hj; simp [Addr.add]
 | 3, hj => simp at hj; subst hj; simp [Addr.add]
 | 4, hj => simp at hj; subst hj; simp [Addr.add]
 | (j + 5), hj => simp at hj
def DtSays (w : World) (R : DOut) (e : Ending) (w' : World) : Prop :=
 ∃ ae ce aa ca, e = .returned (.agg #[.slice ae R.dtd.ents.length ce, .slice aa R.dtd.atts.length ca, .int .i64 R.at1, .int .i64 R.code]) ∧ w'.ownsRow w.heap.size 195 2 (.slice ae R.dtd.ents.length ce) R.dtd.ents.length (aQ8 R.dtd.ents) ∧
  w'.ownsRow w.heap.size 150 5 (.slice aa R.dtd.atts.length ca) R.dtd.atts.length (aJp R.dtd.atts) ∧ Below w.heap.size w w'
theorem aZi {W : World} {B B' : Nat} {e : TypeId} {size : Nat} {v : Value} {n : Nat} {xs : List Value} (h : W.ownsRow B e size v n xs) (hb : B' ≤ B) : W.ownsRow B' e size v n xs := by
 refine ⟨h.1, ?_⟩
 rcases h.2 with h2 | ⟨g, cap, cur, h1, h2, h3⟩
 · exact .inl h2
 · exact .inr ⟨g, cap, cur, h1, Nat.le_trans hb h2, h3⟩
def zDtd : Obj := .cells #[.slice none 0 0, .slice none 0 0, .int .i64 0, .int .i64 0] 103
end Go.Proofs.YtdblemolaojebaaGreatDoor
