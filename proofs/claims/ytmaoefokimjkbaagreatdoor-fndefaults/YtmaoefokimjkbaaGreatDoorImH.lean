import Derived.Test.YtmaoefokimjkbaaGreatDoorImG
import Derived.LaidEql
import Derived.Stop.Asserts
import Derived.RowKitTokens
namespace Go.Proofs.YtmaoefokimjkbaaGreatDoor
open Go.RowKit Go.Extern.Stop Go.Stop Go.Extern
theorem mS (h : Value) (w : World) : (Go.method 427 228 (.agg #[h]) "Kind").run Tryz.prog w = .ok (188, h) w := by kernel_rfl
theorem mE (h : Value) (w : World) : (Go.method 427 228 (.agg #[h]) "Elem").run Tryz.prog w = .ok (210, .agg #[h]) w := by kernel_rfl
theorem mI (h : Value) (w : World) : (Go.method 427 228 (.agg #[h]) "Implements").run Tryz.prog w = .ok (211, .agg #[h]) w := by kernel_rfl
theorem mA (h : Value) (w : World) : (Go.method 427 228 (.agg #[h]) "AssignableTo").run Tryz.prog w = .ok (208, .agg #[h]) w := by kernel_rfl
theorem vPs (t : Addr) (w : World) : (ReflectliteValue.unpack (.iface 135 (.pointer (some t)))).run Tryz.prog w
 = .ok (.agg #[.pointer (some ⟨14, 135, none⟩), .pointer (some ⟨w.heap.size, 0, none⟩), .int .u64 150]) (w.alloc (.cells #[.pointer (some t)] 135)) := by kernel_rfl
theorem vPw (t : Addr) (w : World) : (ReflectliteValue.unpack (.iface 137 (.pointer (some t)))).run Tryz.prog w
 = .ok (.agg #[.pointer (some ⟨14, 137, none⟩), .pointer (some ⟨w.heap.size, 0, none⟩), .int .u64 150]) (w.alloc (.cells #[.pointer (some t)] 137)) := by kernel_rfl
theorem tPs (a : Addr) (w : World) : (ReflectliteValue.methodAny (ReflectliteValue.valueError "reflectlite.Value.Type" 0) (fun t _ _ _ => ReflectliteType.toType t) #[.agg #[.pointer (some ⟨14, 135, none⟩), .pointer (some a), .int .u64 150]]).run Tryz.prog w
 = .ok (.iface 228 (.agg #[.pointer (some ⟨14, 135, none⟩)])) w := by kernel_rfl
theorem tPw (a : Addr) (w : World) : (ReflectliteValue.methodAny (ReflectliteValue.valueError "reflectlite.Value.Type" 0) (fun t _ _ _ => ReflectliteType.toType t) #[.agg #[.pointer (some ⟨14, 137, none⟩), .pointer (some a), .int .u64 150]]).run Tryz.prog w
 = .ok (.iface 228 (.agg #[.pointer (some ⟨14, 137, none⟩)])) w := by kernel_rfl
theorem kPs (w : World) : ((ReflectliteType.abiMethod fun t => Functor.map (fun a : Nat => Value.int IntKind.u8 (a : Int)) (Rtype.kind t)) #[.pointer (some ⟨14, 135, none⟩)]).run Tryz.prog w = .ok (.int .u8 22) w := by kernel_rfl
theorem kPw (w : World) : ((ReflectliteType.abiMethod fun t => Functor.map (fun a : Nat => Value.int IntKind.u8 (a : Int)) (Rtype.kind t)) #[.pointer (some ⟨14, 137, none⟩)]).run Tryz.prog w = .ok (.int .u8 22) w := by kernel_rfl
theorem kS (w : World) : ((ReflectliteType.abiMethod fun t => Functor.map (fun a : Nat => Value.int IntKind.u8 (a : Int)) (Rtype.kind t)) #[.pointer (some ⟨14, 133, none⟩)]).run Tryz.prog w = .ok (.int .u8 25) w := by kernel_rfl
theorem kW (w : World) : ((ReflectliteType.abiMethod fun t => Functor.map (fun a : Nat => Value.int IntKind.u8 (a : Int)) (Rtype.kind t)) #[.pointer (some ⟨14, 136, none⟩)]).run Tryz.prog w = .ok (.int .u8 25) w := by kernel_rfl
theorem ePs (w : World) : (ReflectliteType.method ReflectliteType.elem #[.agg #[.pointer (some ⟨14, 135, none⟩)]]).run Tryz.prog w = .ok (.iface 228 (.agg #[.pointer (some ⟨14, 133, none⟩)])) w := by kernel_rfl
theorem ePw (w : World) : (ReflectliteType.method ReflectliteType.elem #[.agg #[.pointer (some ⟨14, 137, none⟩)]]).run Tryz.prog w = .ok (.iface 228 (.agg #[.pointer (some ⟨14, 136, none⟩)])) w := by kernel_rfl
theorem iS (w : World) : (ReflectliteType.relation "Implements" ReflectliteType.implements_ #[.agg #[.pointer (some ⟨14, 133, none⟩)], .iface 228 (.agg #[.pointer (some ⟨14, 95, none⟩)])]).run Tryz.prog w = .ok (.bool true) w := by kernel_rfl
theorem iW (w : World) : (ReflectliteType.relation "Implements" ReflectliteType.implements_ #[.agg #[.pointer (some ⟨14, 136, none⟩)], .iface 228 (.agg #[.pointer (some ⟨14, 95, none⟩)])]).run Tryz.prog w = .ok (.bool true) w := by kernel_rfl
theorem toS (v : Value) (w : World) : (ReflectliteType.typeOf #[.iface 133 v]).run Tryz.prog w = .ok (.iface 228 (.agg #[.pointer (some ⟨14, 133, none⟩)])) w := by kernel_rfl
theorem toW (v : Value) (w : World) : (ReflectliteType.typeOf #[.iface 136 v]).run Tryz.prog w = .ok (.iface 228 (.agg #[.pointer (some ⟨14, 136, none⟩)])) w := by kernel_rfl
theorem aSS (w : World) : (ReflectliteType.relation "AssignableTo" ReflectliteType.assignableTo #[.agg #[.pointer (some ⟨14, 133, none⟩)], .iface 228 (.agg #[.pointer (some ⟨14, 133, none⟩)])]).run Tryz.prog w = .ok (.bool true) w := by kernel_rfl
theorem aWW (w : World) : (ReflectliteType.relation "AssignableTo" ReflectliteType.assignableTo #[.agg #[.pointer (some ⟨14, 136, none⟩)], .iface 228 (.agg #[.pointer (some ⟨14, 136, none⟩)])]).run Tryz.prog w = .ok (.bool true) w := by kernel_rfl
theorem aSW (w : World) : (ReflectliteType.relation "AssignableTo" ReflectliteType.assignableTo #[.agg #[.pointer (some ⟨14, 133, none⟩)], .iface 228 (.agg #[.pointer (some ⟨14, 136, none⟩)])]).run Tryz.prog w = .ok (.bool false) w := by kernel_rfl
theorem aWS (w : World) : (ReflectliteType.relation "AssignableTo" ReflectliteType.assignableTo #[.agg #[.pointer (some ⟨14, 136, none⟩)], .iface 228 (.agg #[.pointer (some ⟨14, 133, none⟩)])]).run Tryz.prog w = .ok (.bool false) w := by kernel_rfl
theorem vW (c : Int) (w : World) : (ReflectliteValue.unpack (.iface 136 (.agg #[.int .i64 c]))).run Tryz.prog w
 = .ok (.agg #[.pointer (some ⟨14, 136, none⟩), .pointer (some ⟨w.heap.size, 0, none⟩), .int .u64 153]) (w.alloc (.cells #[.int .i64 c] 136)) := by kernel_rfl
theorem vS (w : World) : (ReflectliteValue.unpack (.iface 133 (.agg #[]))).run Tryz.prog w
 = .ok (.agg #[.pointer (some ⟨14, 133, none⟩), .pointer (some ⟨w.heap.size, 0, none⟩), .int .u64 153]) (w.alloc (.cells #[] 133)) := by kernel_rfl
theorem rlm (z : Sem Value) (f : TypeId → Addr → Nat → Nat → Sem Value) (v : Value) :
 ReflectliteValue.method z f #[v] = (do match ← ReflectliteValue.parts v with | none => z | some (t, a, fl) => f t a fl (fl % 32)) := rfl
theorem pPs (a : Addr) (w : World) : (ReflectliteValue.parts (.agg #[.pointer (some ⟨14, 135, none⟩), .pointer (some a), .int .u64 150])).run Tryz.prog w = .ok (some (135, a, 150)) w := by kernel_rfl
theorem pPw (a : Addr) (w : World) : (ReflectliteValue.parts (.agg #[.pointer (some ⟨14, 137, none⟩), .pointer (some a), .int .u64 150])).run Tryz.prog w = .ok (some (137, a, 150)) w := by kernel_rfl
theorem nPs (a p : Addr) (W : World) (ha : W.cell? a = some (.pointer (some p))) :
 (ReflectliteValue.method (ReflectliteValue.valueError "reflectlite.Value.IsNil" 0) ReflectliteValue.isNil #[.agg #[.pointer (some ⟨14, 135, none⟩), .pointer (some a), .int .u64 150]]).run Tryz.prog W = .ok (.bool false) W := by
 rw [rlm]
 simp only [Sem.run_bind, pPs, Result.andThen]
 simp [ReflectliteValue.isNil, loadVar, isAgg, underlying, Tryz.underlying135, ha, Result.andThen]
theorem nPw (a p : Addr) (W : World) (ha : W.cell? a = some (.pointer (some p))) :
 (ReflectliteValue.method (ReflectliteValue.valueError "reflectlite.Value.IsNil" 0) ReflectliteValue.isNil #[.agg #[.pointer (some ⟨14, 137, none⟩), .pointer (some a), .int .u64 150]]).run Tryz.prog W = .ok (.bool false) W := by
 rw [rlm]
 simp only [Sem.run_bind, pPw, Result.andThen]
 simp [ReflectliteValue.isNil, loadVar, isAgg, underlying, Tryz.underlying137, ha, Result.andThen]
open Go.RowKit Go.Extern.Stop Go.Stop Go.Extern
theorem elS (w : World) : (Rtype.elem? 135).run Tryz.prog w = .ok (some 133) w := by kernel_rfl
theorem elW (w : World) : (Rtype.elem? 137).run Tryz.prog w = .ok (some 136) w := by kernel_rfl
theorem mkS (p : Addr) (w : World) : (ReflectliteValue.mk 133 p ReflectliteValue.flagAddr).run Tryz.prog w = .ok (.agg #[.pointer (some ⟨14, 133, none⟩), .pointer (some p), .int .u64 409]) w := by kernel_rfl
theorem mkW (p : Addr) (w : World) : (ReflectliteValue.mk 136 p ReflectliteValue.flagAddr).run Tryz.prog w = .ok (.agg #[.pointer (some ⟨14, 136, none⟩), .pointer (some p), .int .u64 409]) w := by kernel_rfl
theorem evS (a p : Addr) (W : World) (ha : W.cell? a = some (.pointer (some p))) :
 (ReflectliteValue.method (ReflectliteValue.valueError "reflectlite.Value.Elem" 0) ReflectliteValue.elem #[.agg #[.pointer (some ⟨14, 135, none⟩), .pointer (some a), .int .u64 150]]).run Tryz.prog W
  = .ok (.agg #[.pointer (some ⟨14, 133, none⟩), .pointer (some p), .int .u64 409]) W := by
 rw [rlm]
 simp only [Sem.run_bind, pPs, Result.andThen]
 simp [ReflectliteValue.elem, loadVar, isAgg, underlying, Tryz.underlying135, ha, Result.andThen, elS, mkS]
theorem evW (a p : Addr) (W : World) (ha : W.cell? a = some (.pointer (some p))) :
 (ReflectliteValue.method (ReflectliteValue.valueError "reflectlite.Value.Elem" 0) ReflectliteValue.elem #[.agg #[.pointer (some ⟨14, 137, none⟩), .pointer (some a), .int .u64 150]]).run Tryz.prog W
  = .ok (.agg #[.pointer (some ⟨14, 136, none⟩), .pointer (some p), .int .u64 409]) W := by
 rw [rlm]
 simp only [Sem.run_bind, pPw, Result.andThen]
 simp [ReflectliteValue.elem, loadVar, isAgg, underlying, Tryz.underlying137, ha, Result.andThen, elW, mkW]
theorem rls (v x : Value) : ReflectliteValue.set #[v, x] = (do
 let (some (dst, a, fl), some (src, b, _)) := (← ReflectliteValue.parts v, ← ReflectliteValue.parts x)
  | unsupported (.noEntry "extern/(internal/reflectlite.Value).Set.zeroValue")
 if fl / ReflectliteValue.flagAddr % 2 == 0 then unsupported (.noEntry "extern/(internal/reflectlite.Value).Set.unaddressable")
 let val ← loadVar src b
 if ← Rtype.directlyAssignable dst src then storeVar dst a val
 else if ← Rtype.implements dst src then
  if (← Rtype.kind src) == 20 then
   match val with
   | .nilIface => unsupported (.noEntry "extern/reflectlite: a nil value of one interface type handed on as a value of another")
   | _ => storeVar dst a val
  else storeVar dst a (.iface src val)
 else panicString ("reflectlite.Set: value of type " ++ (← Rtype.spelt src) ++ " is not assignable to type " ++ (← Rtype.spelt dst))
 pure (.tuple #[])) := rfl
theorem pWa (a : Addr) (w : World) : (ReflectliteValue.parts (.agg #[.pointer (some ⟨14, 136, none⟩), .pointer (some a), .int .u64 409])).run Tryz.prog w = .ok (some (136, a, 409)) w := by kernel_rfl
theorem pWb (a : Addr) (w : World) : (ReflectliteValue.parts (.agg #[.pointer (some ⟨14, 136, none⟩), .pointer (some a), .int .u64 153])).run Tryz.prog w = .ok (some (136, a, 153)) w := by kernel_rfl
theorem pSa (a : Addr) (w : World) : (ReflectliteValue.parts (.agg #[.pointer (some ⟨14, 133, none⟩), .pointer (some a), .int .u64 409])).run Tryz.prog w = .ok (some (133, a, 409)) w := by kernel_rfl
theorem pSb (a : Addr) (w : World) : (ReflectliteValue.parts (.agg #[.pointer (some ⟨14, 133, none⟩), .pointer (some a), .int .u64 153])).run Tryz.prog w = .ok (some (133, a, 153)) w := by kernel_rfl
theorem dW (w : World) : (Rtype.directlyAssignable 136 136).run Tryz.prog w = .ok true w := by kernel_rfl
theorem dS (w : World) : (Rtype.directlyAssignable 133 133).run Tryz.prog w = .ok true w := by kernel_rfl
theorem zW (w : World) : (sizeOf 136).run Tryz.prog w = .ok 1 w := by kernel_rfl
theorem ldW (b : Addr) (c : Int) (W : World) (hb : W.cell? b = some (.int .i64 c)) : (loadVar 136 b).run Tryz.prog W = .ok (.agg #[.int .i64 c]) W := by
 have hi : (isAgg 136).run Tryz.prog W = .ok true W := by kernel_rfl
 have hz := zW W
 unfold loadVar loadCells
 simp only [Sem.run_bind, hi, hz, Result.andThen, if_true]
 simp [loadCellsFrom, hb, Result.andThen, Addr.add]
theorem stW (ta : Addr) (c : Int) (old : Value) (W : World) (ht : W.cell? ta = some old) (hf : W.frozen? ta = false) : (storeVar 136 ta (.agg #[.int .i64 c])).run Tryz.prog W = .ok () (W.setCell ta (.int .i64 c)) := by
 have hz := zW W
 unfold storeVar
 simp only [Sem.run_bind, hz, Result.andThen]
 simp [Value.cells, storeCells, Addr.add]
 rw [run_store Tryz.prog W ta _ _ (by rfl)]
 simp [ht, hf]
theorem setW (ta b : Addr) (c : Int) (old : Value) (W : World) (hb : W.cell? b = some (.int .i64 c)) (ht : W.cell? ta = some old) (hf : W.frozen? ta = false) :
 (ReflectliteValue.set #[.agg #[.pointer (some ⟨14, 136, none⟩), .pointer (some ta), .int .u64 409], .agg #[.pointer (some ⟨14, 136, none⟩), .pointer (some b), .int .u64 153]]).run Tryz.prog W
  = .ok (.tuple #[]) (W.setCell ta (.int .i64 c)) := by
 have h1 := ldW b c W hb
 have h2 := stW ta c old W ht hf
 rw [rls]
 simp only [Sem.run_bind, pWa, pWb, Result.andThen]
 simp [ReflectliteValue.flagAddr, h1, Result.andThen, dW, h2]
theorem ldS (b : Addr) (W : World) : (loadVar 133 b).run Tryz.prog W = .ok (.agg #[]) W := by kernel_rfl
theorem stS (ta : Addr) (W : World) : (storeVar 133 ta (.agg #[])).run Tryz.prog W = .ok () W := by kernel_rfl
theorem setS (ta b : Addr) (W : World) :
 (ReflectliteValue.set #[.agg #[.pointer (some ⟨14, 133, none⟩), .pointer (some ta), .int .u64 409], .agg #[.pointer (some ⟨14, 133, none⟩), .pointer (some b), .int .u64 153]]).run Tryz.prog W
  = .ok (.tuple #[]) W := by
 have h1 := ldS b W
 have h2 := stS ta W
 rw [rls]
 simp only [Sem.run_bind, pSa, pSb, Result.andThen]
 simp [ReflectliteValue.flagAddr, h1, Result.andThen, dS, h2]
theorem gnA3 (w : World) (o : Obj) : w.grownBy (w.alloc o) none := ⟨rfl, rfl, rfl, by simp, fun _ hk _ => heap_alloc_old w o hk⟩
theorem taS0 (v : Value) (xT : TypeId) (w : World) : (Instr.typeAssert (.iface 133 v) xT 233 true).run Tryz.prog w = .ok (.tuple #[.nilIface, .bool false]) w := run_typeAssert_lacksB Tryz.underlying233 (by kernel_rfl) (by kernel_rfl) v xT w
theorem taS1 (v : Value) (xT : TypeId) (w : World) : (Instr.typeAssert (.iface 133 v) xT 236 true).run Tryz.prog w = .ok (.tuple #[.nilIface, .bool false]) w := run_typeAssert_lacksB Tryz.underlying236 (by kernel_rfl) (by kernel_rfl) v xT w
theorem taS2 (v : Value) (xT : TypeId) (w : World) : (Instr.typeAssert (.iface 133 v) xT 237 true).run Tryz.prog w = .ok (.tuple #[.nilIface, .bool false]) w := run_typeAssert_lacksB Tryz.underlying237 (by kernel_rfl) (by kernel_rfl) v xT w
theorem taW0 (v : Value) (xT : TypeId) (w : World) : (Instr.typeAssert (.iface 136 v) xT 233 true).run Tryz.prog w = .ok (.tuple #[.nilIface, .bool false]) w := run_typeAssert_lacksB Tryz.underlying233 (by kernel_rfl) (by kernel_rfl) v xT w
theorem taW1 (v : Value) (xT : TypeId) (w : World) : (Instr.typeAssert (.iface 136 v) xT 236 true).run Tryz.prog w = .ok (.tuple #[.nilIface, .bool false]) w := run_typeAssert_lacksB Tryz.underlying236 (by kernel_rfl) (by kernel_rfl) v xT w
theorem taW2 (v : Value) (xT : TypeId) (w : World) : (Instr.typeAssert (.iface 136 v) xT 237 true).run Tryz.prog w = .ok (.tuple #[.nilIface, .bool false]) w := run_typeAssert_lacksB Tryz.underlying237 (by kernel_rfl) (by kernel_rfl) v xT w
set_option maxRecDepth 100000 in
set_option maxHeartbeats 4000000 in
theorem as_miss_s (w : World) (t : Addr) (hg : w.cell? ⟨0, 0, none⟩ = some (.iface 228 (.agg #[.pointer (some ⟨14, 95, none⟩)]))) :
 Calls Tryz.prog 64 #[.iface 133 (.agg #[]), .iface 137 (.pointer (some t))] w fun ev w' => ev = .returned (.bool false) ∧ w.grownBy w' none := by
 have h1 := @run_callFunc_extern Tryz.prog 94 _ (fun args => ReflectliteValue.unpack (args.getD 0 (.tuple #[]))) Tryz.func94 (by kernel_rfl) (by kernel_rfl) (by kernel_rfl) (by kernel_rfl)
 have h2 := @run_callFunc_extern Tryz.prog 95 _ (ReflectliteValue.methodAny (ReflectliteValue.valueError "reflectlite.Value.Type" 0) (fun t _ _ _ => ReflectliteType.toType t)) Tryz.func95 (by kernel_rfl) (by kernel_rfl) (by kernel_rfl) (by kernel_rfl)
 have h3 := @run_callFunc_extern Tryz.prog 96 _ (ReflectliteValue.method (ReflectliteValue.valueError "reflectlite.Value.IsNil" 0) ReflectliteValue.isNil) Tryz.func96 (by kernel_rfl) (by kernel_rfl) (by kernel_rfl) (by kernel_rfl)
 have h4 := @run_callFunc_extern Tryz.prog 188 _ (ReflectliteType.abiMethod fun t => do pure (.int .u8 (← Rtype.kind t))) Tryz.func188 (by kernel_rfl) (by kernel_rfl) (by kernel_rfl) (by kernel_rfl)
 have h5 := @run_callFunc_extern Tryz.prog 210 _ (ReflectliteType.method ReflectliteType.elem) Tryz.func210 (by kernel_rfl) (by kernel_rfl) (by kernel_rfl) (by kernel_rfl)
 have h6 := @run_callFunc_extern Tryz.prog 211 _ (ReflectliteType.relation "Implements" ReflectliteType.implements_) Tryz.func211 (by kernel_rfl) (by kernel_rfl) (by kernel_rfl) (by kernel_rfl)
 have h7 := @run_callFunc_extern Tryz.prog 125 _ ReflectliteType.typeOf Tryz.func125 (by kernel_rfl) (by kernel_rfl) (by kernel_rfl) (by kernel_rfl)
 have h8 := @run_callFunc_extern Tryz.prog 208 _ (ReflectliteType.relation "AssignableTo" ReflectliteType.assignableTo) Tryz.func208 (by kernel_rfl) (by kernel_rfl) (by kernel_rfl) (by kernel_rfl)
 have h9 := @run_callFunc_extern Tryz.prog 126 _ (ReflectliteValue.method (ReflectliteValue.valueError "reflectlite.Value.Elem" 0) ReflectliteValue.elem) Tryz.func126 (by kernel_rfl) (by kernel_rfl) (by kernel_rfl) (by kernel_rfl)
 have h10 := @run_callFunc_extern Tryz.prog 127 _ ReflectliteValue.set Tryz.func127 (by kernel_rfl) (by kernel_rfl) (by kernel_rfl) (by kernel_rfl)
 have mk := mS
 have me := mE
 have mi := mI
 have ma := mA
 have f1 := vPw
 have f2 := tPw
 have f3 := kPw
 have f4 := kW
 have f5 := ePw
 have f6 := iW
 have f7 := toS
 have f8 := aSW
 have g0 := taS0
 have g1 := taS1
 have g2 := taS2
 have n8 := nPw ⟨w.heap.size, 0, none⟩ t ((w.alloc (.cells #[.pointer (some t)] 137)).alloc (.cells #[.pointer (some ⟨14, 137, none⟩), .pointer (some ⟨w.heap.size, 0, none⟩), .int .u64 150] 174)) (by simp)
 have hlt : 0 < w.heap.size := Lists.block_lt hg
 have hg2 : ((w.alloc (.cells #[.pointer (some t)] 137)).alloc (.cells #[.pointer (some ⟨14, 137, none⟩), .pointer (some ⟨w.heap.size, 0, none⟩), .int .u64 150] 174)).cell? ⟨0, 0, none⟩ = some (.iface 228 (.agg #[.pointer (some ⟨14, 95, none⟩)])) := by
  rw [World.cell?_alloc_lt _ _ ⟨0, 0, none⟩ (by simp), World.cell?_alloc_lt _ _ ⟨0, 0, none⟩ hlt]; exact hg
 go_enter Tryz.func64, Tryz.ntmps64
 go_wp2
 refine wp_loop_rounds 1 ?_
 rw [rounds_succ]
 go_wp2
 go_ret
 refine ⟨rfl, ?_⟩
 exact im_gtrans (im_gtrans (gnA3 _ _) (gnA3 _ _)) (gnA3 _ _)
set_option maxRecDepth 100000 in
set_option maxHeartbeats 4000000 in
theorem as_miss_w (w : World) (t : Addr) (c : Int) (hg : w.cell? ⟨0, 0, none⟩ = some (.iface 228 (.agg #[.pointer (some ⟨14, 95, none⟩)]))) :
 Calls Tryz.prog 64 #[.iface 136 (.agg #[.int .i64 c]), .iface 135 (.pointer (some t))] w fun ev w' => ev = .returned (.bool false) ∧ w.grownBy w' none := by
 have h1 := @run_callFunc_extern Tryz.prog 94 _ (fun args => ReflectliteValue.unpack (args.getD 0 (.tuple #[]))) Tryz.func94 (by kernel_rfl) (by kernel_rfl) (by kernel_rfl) (by kernel_rfl)
 have h2 := @run_callFunc_extern Tryz.prog 95 _ (ReflectliteValue.methodAny (ReflectliteValue.valueError "reflectlite.Value.Type" 0) (fun t _ _ _ => ReflectliteType.toType t)) Tryz.func95 (by kernel_rfl) (by kernel_rfl) (by kernel_rfl) (by kernel_rfl)
 have h3 := @run_callFunc_extern Tryz.prog 96 _ (ReflectliteValue.method (ReflectliteValue.valueError "reflectlite.Value.IsNil" 0) ReflectliteValue.isNil) Tryz.func96 (by kernel_rfl) (by kernel_rfl) (by kernel_rfl) (by kernel_rfl)
 have h4 := @run_callFunc_extern Tryz.prog 188 _ (ReflectliteType.abiMethod fun t => do pure (.int .u8 (← Rtype.kind t))) Tryz.func188 (by kernel_rfl) (by kernel_rfl) (by kernel_rfl) (by kernel_rfl)
 have h5 := @run_callFunc_extern Tryz.prog 210 _ (ReflectliteType.method ReflectliteType.elem) Tryz.func210 (by kernel_rfl) (by kernel_rfl) (by kernel_rfl) (by kernel_rfl)
 have h6 := @run_callFunc_extern Tryz.prog 211 _ (ReflectliteType.relation "Implements" ReflectliteType.implements_) Tryz.func211 (by kernel_rfl) (by kernel_rfl) (by kernel_rfl) (by kernel_rfl)
 have h7 := @run_callFunc_extern Tryz.prog 125 _ ReflectliteType.typeOf Tryz.func125 (by kernel_rfl) (by kernel_rfl) (by kernel_rfl) (by kernel_rfl)
 have h8 := @run_callFunc_extern Tryz.prog 208 _ (ReflectliteType.relation "AssignableTo" ReflectliteType.assignableTo) Tryz.func208 (by kernel_rfl) (by kernel_rfl) (by kernel_rfl) (by kernel_rfl)
 have h9 := @run_callFunc_extern Tryz.prog 126 _ (ReflectliteValue.method (ReflectliteValue.valueError "reflectlite.Value.Elem" 0) ReflectliteValue.elem) Tryz.func126 (by kernel_rfl) (by kernel_rfl) (by kernel_rfl) (by kernel_rfl)
 have h10 := @run_callFunc_extern Tryz.prog 127 _ ReflectliteValue.set Tryz.func127 (by kernel_rfl) (by kernel_rfl) (by kernel_rfl) (by kernel_rfl)
 have mk := mS
 have me := mE
 have mi := mI
 have ma := mA
 have f1 := vPs
 have f2 := tPs
 have f3 := kPs
 have f4 := kS
 have f5 := ePs
 have f6 := iS
 have f7 := toW
 have f8 := aWS
 have g0 := taW0
 have g1 := taW1
 have g2 := taW2
 have n8 := nPs ⟨w.heap.size, 0, none⟩ t ((w.alloc (.cells #[.pointer (some t)] 135)).alloc (.cells #[.pointer (some ⟨14, 135, none⟩), .pointer (some ⟨w.heap.size, 0, none⟩), .int .u64 150] 174)) (by simp)
 have hlt : 0 < w.heap.size := Lists.block_lt hg
 have hg2 : ((w.alloc (.cells #[.pointer (some t)] 135)).alloc (.cells #[.pointer (some ⟨14, 135, none⟩), .pointer (some ⟨w.heap.size, 0, none⟩), .int .u64 150] 174)).cell? ⟨0, 0, none⟩ = some (.iface 228 (.agg #[.pointer (some ⟨14, 95, none⟩)])) := by
  rw [World.cell?_alloc_lt _ _ ⟨0, 0, none⟩ (by simp), World.cell?_alloc_lt _ _ ⟨0, 0, none⟩ hlt]; exact hg
 go_enter Tryz.func64, Tryz.ntmps64
 go_wp2
 refine wp_loop_rounds 1 ?_
 rw [rounds_succ]
 go_wp2
 go_ret
 refine ⟨rfl, ?_⟩
 exact im_gtrans (im_gtrans (gnA3 _ _) (gnA3 _ _)) (gnA3 _ _)
open Go.RowKit Go.Extern.Stop Go.Stop Go.Extern
theorem addr_lt {w : World} {t : Addr} {v : Value} (h : w.cell? t = some v) : t.block < w.heap.size := by
 refine Decidable.byContradiction fun hn => ?_
 rw [World.cell?, Array.getElem?_eq_none (by omega)] at h
 simp at h
theorem frz1 (w : World) (t : Addr) (o : Obj) (h : t.block < w.heap.size) (hf : w.frozen? t = false) : (w.alloc o).frozen? t = false := by
 rw [← hf]
 unfold World.frozen?
 rw [heap_alloc_old w o h]
theorem frz4 (w : World) (t : Addr) (o1 o2 o3 o4 : Obj) (h : t.block < w.heap.size) (hf : w.frozen? t = false) : ((((w.alloc o1).alloc o2).alloc o3).alloc o4).frozen? t = false := by
 refine frz1 _ _ _ (by simp; omega) (frz1 _ _ _ (by simp; omega) (frz1 _ _ _ (by simp; omega) (frz1 _ _ _ h hf)))
set_option maxRecDepth 100000 in
set_option maxHeartbeats 4000000 in
theorem as_hit_s (w : World) (t : Addr) (hg : w.cell? ⟨0, 0, none⟩ = some (.iface 228 (.agg #[.pointer (some ⟨14, 95, none⟩)]))) :
 Calls Tryz.prog 64 #[.iface 133 (.agg #[]), .iface 135 (.pointer (some t))] w fun ev w' => ev = .returned (.bool true) ∧ w.grownBy w' none := by
 have h1 := @run_callFunc_extern Tryz.prog 94 _ (fun args => ReflectliteValue.unpack (args.getD 0 (.tuple #[]))) Tryz.func94 (by kernel_rfl) (by kernel_rfl) (by kernel_rfl) (by kernel_rfl)
 have h2 := @run_callFunc_extern Tryz.prog 95 _ (ReflectliteValue.methodAny (ReflectliteValue.valueError "reflectlite.Value.Type" 0) (fun t _ _ _ => ReflectliteType.toType t)) Tryz.func95 (by kernel_rfl) (by kernel_rfl) (by kernel_rfl) (by kernel_rfl)
 have h3 := @run_callFunc_extern Tryz.prog 96 _ (ReflectliteValue.method (ReflectliteValue.valueError "reflectlite.Value.IsNil" 0) ReflectliteValue.isNil) Tryz.func96 (by kernel_rfl) (by kernel_rfl) (by kernel_rfl) (by kernel_rfl)
 have h4 := @run_callFunc_extern Tryz.prog 188 _ (ReflectliteType.abiMethod fun t => do pure (.int .u8 (← Rtype.kind t))) Tryz.func188 (by kernel_rfl) (by kernel_rfl) (by kernel_rfl) (by kernel_rfl)
 have h5 := @run_callFunc_extern Tryz.prog 210 _ (ReflectliteType.method ReflectliteType.elem) Tryz.func210 (by kernel_rfl) (by kernel_rfl) (by kernel_rfl) (by kernel_rfl)
 have h6 := @run_callFunc_extern Tryz.prog 211 _ (ReflectliteType.relation "Implements" ReflectliteType.implements_) Tryz.func211 (by kernel_rfl) (by kernel_rfl) (by kernel_rfl) (by kernel_rfl)
 have h7 := @run_callFunc_extern Tryz.prog 125 _ ReflectliteType.typeOf Tryz.func125 (by kernel_rfl) (by kernel_rfl) (by kernel_rfl) (by kernel_rfl)
 have h8 := @run_callFunc_extern Tryz.prog 208 _ (ReflectliteType.relation "AssignableTo" ReflectliteType.assignableTo) Tryz.func208 (by kernel_rfl) (by kernel_rfl) (by kernel_rfl) (by kernel_rfl)
 have h9 := @run_callFunc_extern Tryz.prog 126 _ (ReflectliteValue.method (ReflectliteValue.valueError "reflectlite.Value.Elem" 0) ReflectliteValue.elem) Tryz.func126 (by kernel_rfl) (by kernel_rfl) (by kernel_rfl) (by kernel_rfl)
 have h10 := @run_callFunc_extern Tryz.prog 127 _ ReflectliteValue.set Tryz.func127 (by kernel_rfl) (by kernel_rfl) (by kernel_rfl) (by kernel_rfl)
 have mk := mS
 have me := mE
 have mi := mI
 have ma := mA
 have f1 := vPs
 have f2 := tPs
 have f3 := kPs
 have f4 := kS
 have f5 := ePs
 have f6 := iS
 have f7 := toS
 have f8 := aSS
 have g0 := taS0
 have g1 := taS1
 have g2 := taS2
 have n8 := nPs ⟨w.heap.size, 0, none⟩ t ((w.alloc (.cells #[.pointer (some t)] 135)).alloc (.cells #[.pointer (some ⟨14, 135, none⟩), .pointer (some ⟨w.heap.size, 0, none⟩), .int .u64 150] 174)) (by simp)
 have hlt : 0 < w.heap.size := Lists.block_lt hg
 have hg2 : ((w.alloc (.cells #[.pointer (some t)] 135)).alloc (.cells #[.pointer (some ⟨14, 135, none⟩), .pointer (some ⟨w.heap.size, 0, none⟩), .int .u64 150] 174)).cell? ⟨0, 0, none⟩ = some (.iface 228 (.agg #[.pointer (some ⟨14, 95, none⟩)])) := by
  rw [World.cell?_alloc_lt _ _ ⟨0, 0, none⟩ (by simp), World.cell?_alloc_lt _ _ ⟨0, 0, none⟩ hlt]; exact hg
 have e9 := evS ⟨w.heap.size, 0, none⟩ t (((w.alloc (.cells #[.pointer (some t)] 135)).alloc (.cells #[.pointer (some ⟨14, 135, none⟩), .pointer (some ⟨w.heap.size, 0, none⟩), .int .u64 150] 174)).alloc (.cells #[.pointer (some ⟨14, 135, none⟩), .pointer (some ⟨w.heap.size, 0, none⟩), .int .u64 150] 174)) (by rw [World.cell?_alloc_lt _ _ ⟨w.heap.size, 0, none⟩ (by simp; omega)]; simp)
 have vv := vS
 have s9 := setS
 go_enter Tryz.func64, Tryz.ntmps64
 go_wp2
 refine wp_loop_rounds 1 ?_
 rw [rounds_succ]
 go_wp2
 go_ret
 refine ⟨rfl, ?_⟩
 exact im_gtrans (im_gtrans (im_gtrans (gnA3 _ _) (gnA3 _ _)) (gnA3 _ _)) (gnA3 _ _)
set_option maxRecDepth 100000 in
set_option maxHeartbeats 4000000 in
theorem as_hit_w (w : World) (t : Addr) (c : Int) (old : Value) (ht : w.cell? t = some old) (hf : w.frozen? t = false) (hg : w.cell? ⟨0, 0, none⟩ = some (.iface 228 (.agg #[.pointer (some ⟨14, 95, none⟩)]))) :
 Calls Tryz.prog 64 #[.iface 136 (.agg #[.int .i64 c]), .iface 137 (.pointer (some t))] w fun ev w' => ev = .returned (.bool true) ∧ ∃ w1, w.grownBy w1 none ∧ w' = w1.setCell t (.int .i64 c) := by
 have h1 := @run_callFunc_extern Tryz.prog 94 _ (fun args => ReflectliteValue.unpack (args.getD 0 (.tuple #[]))) Tryz.func94 (by kernel_rfl) (by kernel_rfl) (by kernel_rfl) (by kernel_rfl)
 have h2 := @run_callFunc_extern Tryz.prog 95 _ (ReflectliteValue.methodAny (ReflectliteValue.valueError "reflectlite.Value.Type" 0) (fun t _ _ _ => ReflectliteType.toType t)) Tryz.func95 (by kernel_rfl) (by kernel_rfl) (by kernel_rfl) (by kernel_rfl)
 have h3 := @run_callFunc_extern Tryz.prog 96 _ (ReflectliteValue.method (ReflectliteValue.valueError "reflectlite.Value.IsNil" 0) ReflectliteValue.isNil) Tryz.func96 (by kernel_rfl) (by kernel_rfl) (by kernel_rfl) (by kernel_rfl)
 have h4 := @run_callFunc_extern Tryz.prog 188 _ (ReflectliteType.abiMethod fun t => do pure (.int .u8 (← Rtype.kind t))) Tryz.func188 (by kernel_rfl) (by kernel_rfl) (by kernel_rfl) (by kernel_rfl)
 have h5 := @run_callFunc_extern Tryz.prog 210 _ (ReflectliteType.method ReflectliteType.elem) Tryz.func210 (by kernel_rfl) (by kernel_rfl) (by kernel_rfl) (by kernel_rfl)
 have h6 := @run_callFunc_extern Tryz.prog 211 _ (ReflectliteType.relation "Implements" ReflectliteType.implements_) Tryz.func211 (by kernel_rfl) (by kernel_rfl) (by kernel_rfl) (by kernel_rfl)
 have h7 := @run_callFunc_extern Tryz.prog 125 _ ReflectliteType.typeOf Tryz.func125 (by kernel_rfl) (by kernel_rfl) (by kernel_rfl) (by kernel_rfl)
 have h8 := @run_callFunc_extern Tryz.prog 208 _ (ReflectliteType.relation "AssignableTo" ReflectliteType.assignableTo) Tryz.func208 (by kernel_rfl) (by kernel_rfl) (by kernel_rfl) (by kernel_rfl)
 have h9 := @run_callFunc_extern Tryz.prog 126 _ (ReflectliteValue.method (ReflectliteValue.valueError "reflectlite.Value.Elem" 0) ReflectliteValue.elem) Tryz.func126 (by kernel_rfl) (by kernel_rfl) (by kernel_rfl) (by kernel_rfl)
 have h10 := @run_callFunc_extern Tryz.prog 127 _ ReflectliteValue.set Tryz.func127 (by kernel_rfl) (by kernel_rfl) (by kernel_rfl) (by kernel_rfl)
 have mk := mS
 have me := mE
 have mi := mI
 have ma := mA
 have f1 := vPw
 have f2 := tPw
 have f3 := kPw
 have f4 := kW
 have f5 := ePw
 have f6 := iW
 have f7 := toW
 have f8 := aWW
 have g0 := taW0
 have g1 := taW1
 have g2 := taW2
 have n8 := nPw ⟨w.heap.size, 0, none⟩ t ((w.alloc (.cells #[.pointer (some t)] 137)).alloc (.cells #[.pointer (some ⟨14, 137, none⟩), .pointer (some ⟨w.heap.size, 0, none⟩), .int .u64 150] 174)) (by simp)
 have hlt : 0 < w.heap.size := Lists.block_lt hg
 have hg2 : ((w.alloc (.cells #[.pointer (some t)] 137)).alloc (.cells #[.pointer (some ⟨14, 137, none⟩), .pointer (some ⟨w.heap.size, 0, none⟩), .int .u64 150] 174)).cell? ⟨0, 0, none⟩ = some (.iface 228 (.agg #[.pointer (some ⟨14, 95, none⟩)])) := by
  rw [World.cell?_alloc_lt _ _ ⟨0, 0, none⟩ (by simp), World.cell?_alloc_lt _ _ ⟨0, 0, none⟩ hlt]; exact hg
 have e9 := evW ⟨w.heap.size, 0, none⟩ t (((w.alloc (.cells #[.pointer (some t)] 137)).alloc (.cells #[.pointer (some ⟨14, 137, none⟩), .pointer (some ⟨w.heap.size, 0, none⟩), .int .u64 150] 174)).alloc (.cells #[.pointer (some ⟨14, 137, none⟩), .pointer (some ⟨w.heap.size, 0, none⟩), .int .u64 150] 174)) (by rw [World.cell?_alloc_lt _ _ ⟨w.heap.size, 0, none⟩ (by simp; omega)]; simp)
 have vv := vW
 have htl : t.block < w.heap.size := addr_lt ht
 have s9 := setW t ⟨w.heap.size + 1 + 1 + 1, 0, none⟩ c old ((((w.alloc (.cells #[.pointer (some t)] 137)).alloc (.cells #[.pointer (some ⟨14, 137, none⟩), .pointer (some ⟨w.heap.size, 0, none⟩), .int .u64 150] 174)).alloc (.cells #[.pointer (some ⟨14, 137, none⟩), .pointer (some ⟨w.heap.size, 0, none⟩), .int .u64 150] 174)).alloc (.cells #[.int .i64 c] 136)) (by rw [World.cell?_alloc_at _ _ _ _ (by simp)]; rfl) (by rw [World.cell?_alloc_lt _ _ t (by simp; omega), World.cell?_alloc_lt _ _ t (by simp; omega), World.cell?_alloc_lt _ _ t (by simp; omega), World.cell?_alloc_lt _ _ t htl]; exact ht) (frz4 w t _ _ _ _ htl hf)
 go_enter Tryz.func64, Tryz.ntmps64
 go_wp2
 refine wp_loop_rounds 1 ?_
 rw [rounds_succ]
 go_wp2
 go_ret
 refine ⟨rfl, _, im_gtrans (im_gtrans (im_gtrans (gnA3 _ _) (gnA3 _ _)) (gnA3 _ _)) (gnA3 _ _), rfl⟩
open Go.RowKit Go.Extern.Stop Go.Stop Go.Extern Lists Plain10
def EtCell (w : World) : Prop := w.cell? ⟨0, 0, none⟩ = some (.iface 228 (.agg #[.pointer (some ⟨14, 95, none⟩)]))
theorem EtCell.grow {w w' : World} (h : EtCell w) (hg : w.grownBy w' none) : EtCell w' :=
 cell_keepF (hg.block _ (block_lt h) (fun e => by cases e)) h
set_option maxRecDepth 100000 in
set_option maxHeartbeats 4000000 in
theorem faultCode_s (w : World) (closed : Bool) (hg : EtCell w) :
 Calls Tryz.prog 35 #[errV 1, .bool closed] w fun e w' => e = .returned (.int .i64 (flCode 1 closed)) ∧ w.grownBy w' none := by
 have HG := mkHidI1 hg
 clear hg
 rw [errV1]
 have h1 := as_hit_s (w.alloc (.cells #[] 133)) ⟨w.heap.size, 0, none⟩ (HG.out.grow (gnA3 _ _))
 cases closed with
 | false =>
  go_enter Tryz.func35, Tryz.ntmps35
  go_wp2_with fail
  refine h1.mono ?_
  rintro e w1 ⟨rfl, hg1⟩
  go_wp2
  go_ret
  exact ⟨rfl, im_gtrans (gnA3 _ _) hg1⟩
 | true =>
  have h2 := fun (w1 : World) (hg1 : (w.alloc (.cells #[] 133)).grownBy w1 none) => as_miss_s (w1.alloc (.cells #[.int .i64 0] 136)) ⟨w1.heap.size, 0, none⟩ (((HG.out.grow (gnA3 _ _)).grow hg1).grow (gnA3 w1 _))
  go_enter Tryz.func35, Tryz.ntmps35
  go_wp2_with fail
  refine h1.mono ?_
  rintro e w1 ⟨rfl, hg1⟩
  have h3 := h2 w1 hg1
  clear h1 h2
  go_wp2_with fail
  refine h3.mono ?_
  rintro e w2 ⟨rfl, hg2⟩
  go_wp2
  go_ret
  exact ⟨rfl, im_gtrans (im_gtrans (im_gtrans (gnA3 _ _) hg1) (gnA3 _ _)) hg2⟩
set_option maxRecDepth 100000 in
set_option maxHeartbeats 4000000 in
theorem faultCode_w (w : World) (closed : Bool) (c : Int) (hg : EtCell w) :
 Calls Tryz.prog 35 #[.iface 136 (.agg #[.int .i64 c]), .bool closed] w fun e w' => e = .returned (.int .i64 c) ∧ w.grownBy w' none := by
 have HG := mkHidI1 hg
 clear hg
 have h1 := as_miss_w (w.alloc (.cells #[] 133)) ⟨w.heap.size, 0, none⟩ c (HG.out.grow (gnA3 _ _))
 have h2 := fun (w1 : World) (hg1 : (w.alloc (.cells #[] 133)).grownBy w1 none) => as_hit_w (w1.alloc (.cells #[.int .i64 0] 136)) ⟨w1.heap.size, 0, none⟩ c (.int .i64 0) (by simp) (by simp) (((HG.out.grow (gnA3 _ _)).grow hg1).grow (gnA3 w1 _))
 go_enter Tryz.func35, Tryz.ntmps35
 go_wp2_with fail
 refine h1.mono ?_
 rintro e w1 ⟨rfl, hg1⟩
 have h3 := h2 w1 hg1
 clear h1 h2
 go_wp2_with fail
 refine h3.mono ?_
 rintro e w2 ⟨rfl, w3, hg3, hw⟩
 have hc : w2.cell? ⟨w1.heap.size, 0, none⟩ = some (.int .i64 c) := by
  have hb := hg3.block w1.heap.size (by simp) (by simp)
  rw [hw]
  have h0 : (w1.alloc (.cells #[.int .i64 0] 136)).heap[w1.heap.size]? = some (.cells #[.int .i64 0] 136) := Below.heap_new _ _
  have h4 := set5 (hb.trans h0) 0 (.int .i64 c)
  simp [World.cell?, h4]
 have hgg : w.grownBy w2 none := by
  have h5 : w1.grownBy w2 none := by
   rw [hw]
   exact gsetNew (im_gtrans (gnA3 _ _) hg3) (Nat.le_refl _) _
  exact im_gtrans (im_gtrans (gnA3 _ _) hg1) h5
 clear h3 hg3 hw
 go_wp2
 go_ret
 exact ⟨rfl, hgg⟩
theorem faultCode_any (w : World) (f : Nat) (closed : Bool) (hf : f ≠ 0) (h3 : f ≤ 3) (hg : EtCell w) :
 Calls Tryz.prog 35 #[errV f, .bool closed] w fun e w' => e = .returned (.int .i64 (flCode f closed)) ∧ w.grownBy w' none := by
 have : f = 1 ∨ f = 2 ∨ f = 3 := by omega
 rcases this with rfl | rfl | rfl
 · exact faultCode_s w closed hg
 · exact faultCode_w w closed 3 hg
 · exact faultCode_w w closed 6 hg
end Go.Proofs.YtmaoefokimjkbaaGreatDoor
