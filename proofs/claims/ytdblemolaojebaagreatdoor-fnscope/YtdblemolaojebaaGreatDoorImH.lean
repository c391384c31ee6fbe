import Derived.Test.YtdblemolaojebaaGreatDoorImG
import Derived.Stop.Asserts
import Derived.RowKitTokens
set_option maxRecDepth 100000
set_option maxHeartbeats 4000000
namespace Go.Proofs.YtdblemolaojebaaGreatDoor
open Go.RowKit Go.Extern.Stop Go.Stop Go.Extern
theorem mS (h : Value) (w : World) : (Go.method 424 225 (.agg #[h]) "Kind").run Tryz.prog w = .ok (183, h) w := by kernel_rfl
theorem mE (h : Value) (w : World) : (Go.method 424 225 (.agg #[h]) "Elem").run Tryz.prog w = .ok (205, .agg #[h]) w := by kernel_rfl
theorem mI (h : Value) (w : World) : (Go.method 424 225 (.agg #[h]) "Implements").run Tryz.prog w = .ok (206, .agg #[h]) w := by kernel_rfl
theorem mA (h : Value) (w : World) : (Go.method 424 225 (.agg #[h]) "AssignableTo").run Tryz.prog w = .ok (203, .agg #[h]) w := by kernel_rfl
theorem vPs (t : Addr) (w : World) : (ReflectliteValue.unpack (.iface 130 (.pointer (some t)))).run Tryz.prog w
 = .ok (.agg #[.pointer (some ⟨14, 130, none⟩), .pointer (some ⟨w.heap.size, 0, none⟩), .int .u64 150]) (w.alloc (.cells #[.pointer (some t)] 130)) := by kernel_rfl
theorem vPw (t : Addr) (w : World) : (ReflectliteValue.unpack (.iface 132 (.pointer (some t)))).run Tryz.prog w
 = .ok (.agg #[.pointer (some ⟨14, 132, none⟩), .pointer (some ⟨w.heap.size, 0, none⟩), .int .u64 150]) (w.alloc (.cells #[.pointer (some t)] 132)) := by kernel_rfl
theorem tPs (a : Addr) (w : World) : (ReflectliteValue.methodAny (ReflectliteValue.valueError "reflectlite.Value.Type" 0) (fun t _ _ _ => ReflectliteType.toType t) #[.agg #[.pointer (some ⟨14, 130, none⟩), .pointer (some a), .int .u64 150]]).run Tryz.prog w
 = .ok (.iface 225 (.agg #[.pointer (some ⟨14, 130, none⟩)])) w := by kernel_rfl
theorem tPw (a : Addr) (w : World) : (ReflectliteValue.methodAny (ReflectliteValue.valueError "reflectlite.Value.Type" 0) (fun t _ _ _ => ReflectliteType.toType t) #[.agg #[.pointer (some ⟨14, 132, none⟩), .pointer (some a), .int .u64 150]]).run Tryz.prog w
 = .ok (.iface 225 (.agg #[.pointer (some ⟨14, 132, none⟩)])) w := by kernel_rfl
theorem kPs (w : World) : ((ReflectliteType.abiMethod fun t => Functor.map (fun a : Nat => Value.int IntKind.u8 (a : Int)) (Rtype.kind t)) #[.pointer (some ⟨14, 130, none⟩)]).run Tryz.prog w = .ok (.int .u8 22) w := by kernel_rfl
theorem kPw (w : World) : ((ReflectliteType.abiMethod fun t => Functor.map (fun a : Nat => Value.int IntKind.u8 (a : Int)) (Rtype.kind t)) #[.pointer (some ⟨14, 132, none⟩)]).run Tryz.prog w = .ok (.int .u8 22) w := by kernel_rfl
theorem kS (w : World) : ((ReflectliteType.abiMethod fun t => Functor.map (fun a : Nat => Value.int IntKind.u8 (a : Int)) (Rtype.kind t)) #[.pointer (some ⟨14, 128, none⟩)]).run Tryz.prog w = .ok (.int .u8 25) w := by kernel_rfl
theorem kW (w : World) : ((ReflectliteType.abiMethod fun t => Functor.map (fun a : Nat => Value.int IntKind.u8 (a : Int)) (Rtype.kind t)) #[.pointer (some ⟨14, 131, none⟩)]).run Tryz.prog w = .ok (.int .u8 25) w := by kernel_rfl
theorem ePs (w : World) : (ReflectliteType.method ReflectliteType.elem #[.agg #[.pointer (some ⟨14, 130, none⟩)]]).run Tryz.prog w = .ok (.iface 225 (.agg #[.pointer (some ⟨14, 128, none⟩)])) w := by kernel_rfl
theorem ePw (w : World) : (ReflectliteType.method ReflectliteType.elem #[.agg #[.pointer (some ⟨14, 132, none⟩)]]).run Tryz.prog w = .ok (.iface 225 (.agg #[.pointer (some ⟨14, 131, none⟩)])) w := by kernel_rfl
theorem iS (w : World) : (ReflectliteType.relation "Implements" ReflectliteType.implements_ #[.agg #[.pointer (some ⟨14, 128, none⟩)], .iface 225 (.agg #[.pointer (some ⟨14, 90, none⟩)])]).run Tryz.prog w = .ok (.bool true) w := by kernel_rfl
theorem iW (w : World) : (ReflectliteType.relation "Implements" ReflectliteType.implements_ #[.agg #[.pointer (some ⟨14, 131, none⟩)], .iface 225 (.agg #[.pointer (some ⟨14, 90, none⟩)])]).run Tryz.prog w = .ok (.bool true) w := by kernel_rfl
theorem toS (v : Value) (w : World) : (ReflectliteType.typeOf #[.iface 128 v]).run Tryz.prog w = .ok (.iface 225 (.agg #[.pointer (some ⟨14, 128, none⟩)])) w := by kernel_rfl
theorem toW (v : Value) (w : World) : (ReflectliteType.typeOf #[.iface 131 v]).run Tryz.prog w = .ok (.iface 225 (.agg #[.pointer (some ⟨14, 131, none⟩)])) w := by kernel_rfl
theorem aSS (w : World) : (ReflectliteType.relation "AssignableTo" ReflectliteType.assignableTo #[.agg #[.pointer (some ⟨14, 128, none⟩)], .iface 225 (.agg #[.pointer (some ⟨14, 128, none⟩)])]).run Tryz.prog w = .ok (.bool true) w := by kernel_rfl
theorem aWW (w : World) : (ReflectliteType.relation "AssignableTo" ReflectliteType.assignableTo #[.agg #[.pointer (some ⟨14, 131, none⟩)], .iface 225 (.agg #[.pointer (some ⟨14, 131, none⟩)])]).run Tryz.prog w = .ok (.bool true) w := by kernel_rfl
theorem aSW (w : World) : (ReflectliteType.relation "AssignableTo" ReflectliteType.assignableTo #[.agg #[.pointer (some ⟨14, 128, none⟩)], .iface 225 (.agg #[.pointer (some ⟨14, 131, none⟩)])]).run Tryz.prog w = .ok (.bool false) w := by kernel_rfl
theorem aWS (w : World) : (ReflectliteType.relation "AssignableTo" ReflectliteType.assignableTo #[.agg #[.pointer (some ⟨14, 131, none⟩)], .iface 225 (.agg #[.pointer (some ⟨14, 128, none⟩)])]).run Tryz.prog w = .ok (.bool false) w := by kernel_rfl
theorem vW (c : Int) (w : World) : (ReflectliteValue.unpack (.iface 131 (.agg #[.int .i64 c]))).run Tryz.prog w
 = .ok (.agg #[.pointer (some ⟨14, 131, none⟩), .pointer (some ⟨w.heap.size, 0, none⟩), .int .u64 153]) (w.alloc (.cells #[.int .i64 c] 131)) := by kernel_rfl
theorem vS (w : World) : (ReflectliteValue.unpack (.iface 128 (.agg #[]))).run Tryz.prog w
 = .ok (.agg #[.pointer (some ⟨14, 128, none⟩), .pointer (some ⟨w.heap.size, 0, none⟩), .int .u64 153]) (w.alloc (.cells #[] 128)) := by kernel_rfl
theorem rlm (z : Sem Value) (f : TypeId → Addr → Nat → Nat → Sem Value) (v : Value) :
 ReflectliteValue.method z f #[v] = (do match ← ReflectliteValue.parts v with | none => z | some (t, a, fl) => f t a fl (fl % 32)) := rfl
theorem pPs (a : Addr) (w : World) : (ReflectliteValue.parts (.agg #[.pointer (some ⟨14, 130, none⟩), .pointer (some a), .int .u64 150])).run Tryz.prog w = .ok (some (130, a, 150)) w := by kernel_rfl
theorem pPw (a : Addr) (w : World) : (ReflectliteValue.parts (.agg #[.pointer (some ⟨14, 132, none⟩), .pointer (some a), .int .u64 150])).run Tryz.prog w = .ok (some (132, a, 150)) w := by kernel_rfl
theorem nPs (a p : Addr) (W : World) (ha : W.cell? a = some (.pointer (some p))) :
 (ReflectliteValue.method (ReflectliteValue.valueError "reflectlite.Value.IsNil" 0) ReflectliteValue.isNil #[.agg #[.pointer (some ⟨14, 130, none⟩), .pointer (some a), .int .u64 150]]).run Tryz.prog W = .ok (.bool false) W := by
 rw [rlm]
 simp only [Sem.run_bind, pPs, Result.andThen]
 simp [ReflectliteValue.isNil, loadVar, isAgg, underlying, Tryz.underlying130, ha, Result.andThen]
theorem nPw (a p : Addr) (W : World) (ha : W.cell? a = some (.pointer (some p))) :
 (ReflectliteValue.method (ReflectliteValue.valueError "reflectlite.Value.IsNil" 0) ReflectliteValue.isNil #[.agg #[.pointer (some ⟨14, 132, none⟩), .pointer (some a), .int .u64 150]]).run Tryz.prog W = .ok (.bool false) W := by
 rw [rlm]
 simp only [Sem.run_bind, pPw, Result.andThen]
 simp [ReflectliteValue.isNil, loadVar, isAgg, underlying, Tryz.underlying132, ha, Result.andThen]
open Go.RowKit Go.Extern.Stop Go.Stop Go.Extern
theorem elS (w : World) : (Rtype.elem? 130).run Tryz.prog w = .ok (some 128) w := by kernel_rfl
theorem elW (w : World) : (Rtype.elem? 132).run Tryz.prog w = .ok (some 131) w := by kernel_rfl
theorem mkS (p : Addr) (w : World) : (ReflectliteValue.mk 128 p ReflectliteValue.flagAddr).run Tryz.prog w = .ok (.agg #[.pointer (some ⟨14, 128, none⟩), .pointer (some p), .int .u64 409]) w := by kernel_rfl
theorem mkW (p : Addr) (w : World) : (ReflectliteValue.mk 131 p ReflectliteValue.flagAddr).run Tryz.prog w = .ok (.agg #[.pointer (some ⟨14, 131, none⟩), .pointer (some p), .int .u64 409]) w := by kernel_rfl
theorem evS (a p : Addr) (W : World) (ha : W.cell? a = some (.pointer (some p))) :
 (ReflectliteValue.method (ReflectliteValue.valueError "reflectlite.Value.Elem" 0) ReflectliteValue.elem #[.agg #[.pointer (some ⟨14, 130, none⟩), .pointer (some a), .int .u64 150]]).run Tryz.prog W
  = .ok (.agg #[.pointer (some ⟨14, 128, none⟩), .pointer (some p), .int .u64 409]) W := by
 rw [rlm]
 simp only [Sem.run_bind, pPs, Result.andThen]
 simp [ReflectliteValue.elem, loadVar, isAgg, underlying, Tryz.underlying130, ha, Result.andThen, elS, mkS]
theorem evW (a p : Addr) (W : World) (ha : W.cell? a = some (.pointer (some p))) :
 (ReflectliteValue.method (ReflectliteValue.valueError "reflectlite.Value.Elem" 0) ReflectliteValue.elem #[.agg #[.pointer (some ⟨14, 132, none⟩), .pointer (some a), .int .u64 150]]).run Tryz.prog W
  = .ok (.agg #[.pointer (some ⟨14, 131, none⟩), .pointer (some p), .int .u64 409]) W := by
 rw [rlm]
 simp only [Sem.run_bind, pPw, Result.andThen]
 simp [ReflectliteValue.elem, loadVar, isAgg, underlying, Tryz.underlying132, ha, Result.andThen, elW, mkW]
theorem rls (v x : Value) : ReflectliteValue.set #[v, x] = (do
 let (some (dst, a, fl), some (src, b, _)) := (← ReflectliteValue.parts v, ← ReflectliteValue.parts x)
  | unsupported (.noEntry "extern/(internal/reflectlite.Value).Set.zeroValue")
 if fl / ReflectliteValue.flagAddr % 2 == 0 then unsupported (.noEntry "extern/(internal/reflectlite.Value).Set.unaddressable")
 let val ← loadVar src b
 if ← Rtype.directlyAssignable dst src then storeVar dst a val
 else if ← Rtype.implements dst src then
  if (← Rtype.kind src) == 20 then
   match val with
   | .nilIface => unsupported (.noEntry "extern/reflectlite: a nil value of one interface type handed on as a value of another")
   | _ => storeVar dst a val
  else storeVar dst a (.iface src val)
 else panicString ("reflectlite.Set: value of type " ++ (← Rtype.spelt src) ++ " is not assignable to type " ++ (← Rtype.spelt dst))
 pure (.tuple #[])) := rfl
theorem pWa (a : Addr) (w : World) : (ReflectliteValue.parts (.agg #[.pointer (some ⟨14, 131, none⟩), .pointer (some a), .int .u64 409])).run Tryz.prog w = .ok (some (131, a, 409)) w := by kernel_rfl
theorem pWb (a : Addr) (w : World) : (ReflectliteValue.parts (.agg #[.pointer (some ⟨14, 131, none⟩), .pointer (some a), .int .u64 153])).run Tryz.prog w = .ok (some (131, a, 153)) w := by kernel_rfl
theorem pSa (a : Addr) (w : World) : (ReflectliteValue.parts (.agg #[.pointer (some ⟨14, 128, none⟩), .pointer (some a), .int .u64 409])).run Tryz.prog w = .ok (some (128, a, 409)) w := by kernel_rfl
theorem pSb (a : Addr) (w : World) : (ReflectliteValue.parts (.agg #[.pointer (some ⟨14, 128, none⟩), .pointer (some a), .int .u64 153])).run Tryz.prog w = .ok (some (128, a, 153)) w := by kernel_rfl
theorem dW (w : World) : (Rtype.directlyAssignable 131 131).run Tryz.prog w = .ok true w := by kernel_rfl
theorem dS (w : World) : (Rtype.directlyAssignable 128 128).run Tryz.prog w = .ok true w := by kernel_rfl
theorem zW (w : World) : (sizeOf 131).run Tryz.prog w = .ok 1 w := by kernel_rfl
theorem ldW (b : Addr) (c : Int) (W : World) (hb : W.cell? b = some (.int .i64 c)) : (loadVar 131 b).run Tryz.prog W = .ok (.agg #[.int .i64 c]) W := by
 have hi : (isAgg 131).run Tryz.prog W = .ok true W := by kernel_rfl
 have hz := zW W
 unfold loadVar loadCells
 simp only [Sem.run_bind, hi, hz, Result.andThen, if_true]
 simp [loadCellsFrom, hb, Result.andThen, Addr.add]
theorem stW (ta : Addr) (c : Int) (old : Value) (W : World) (ht : W.cell? ta = some old) (hf : W.frozen? ta = false) : (storeVar 131 ta (.agg #[.int .i64 c])).run Tryz.prog W = .ok () (W.setCell ta (.int .i64 c)) := by
 have hz := zW W
 unfold storeVar
 simp only [Sem.run_bind, hz, Result.andThen]
 simp [Value.cells, storeCells, Addr.add]
 rw [run_store Tryz.prog W ta _ _ (by rfl)]
 simp [ht, hf]
theorem setW (ta b : Addr) (c : Int) (old : Value) (W : World) (hb : W.cell? b = some (.int .i64 c)) (ht : W.cell? ta = some old) (hf : W.frozen? ta = false) :
 (ReflectliteValue.set #[.agg #[.pointer (some ⟨14, 131, none⟩), .pointer (some ta), .int .u64 409], .agg #[.pointer (some ⟨14, 131, none⟩), .pointer (some b), .int .u64 153]]).run Tryz.prog W
  = .ok (.tuple #[]) (W.setCell ta (.int .i64 c)) := by
 have h1 := ldW b c W hb
 have h2 := stW ta c old W ht hf
 rw [rls]
 simp only [Sem.run_bind, pWa, pWb, Result.andThen]
 simp [ReflectliteValue.flagAddr, h1, Result.andThen, dW, h2]
theorem ldS (b : Addr) (W : World) : (loadVar 128 b).run Tryz.prog W = .ok (.agg #[]) W := by kernel_rfl
theorem stS (ta : Addr) (W : World) : (storeVar 128 ta (.agg #[])).run Tryz.prog W = .ok () W := by kernel_rfl
theorem setS (ta b : Addr) (W : World) :
 (ReflectliteValue.set #[.agg #[.pointer (some ⟨14, 128, none⟩), .pointer (some ta), .int .u64 409], .agg #[.pointer (some ⟨14, 128, none⟩), .pointer (some b), .int .u64 153]]).run Tryz.prog W
  = .ok (.tuple #[]) W := by
 have h1 := ldS b W
 have h2 := stS ta W
 rw [rls]
 simp only [Sem.run_bind, pSa, pSb, Result.andThen]
 simp [ReflectliteValue.flagAddr, h1, Result.andThen, dS, h2]
theorem gnA3 (w : World) (o : Obj) : w.grownBy (w.alloc o) none := ⟨rfl, rfl, rfl, by simp, fun _ hk _ => heap_alloc_old w o hk⟩
theorem taS0 (v : Value) (xT : TypeId) (w : World) : (Instr.typeAssert (.iface 128 v) xT 230 true).run Tryz.prog w = .ok (.tuple #[.nilIface, .bool false]) w := run_typeAssert_lacksB Tryz.underlying230 (by kernel_rfl) (by kernel_rfl) v xT w
theorem taS1 (v : Value) (xT : TypeId) (w : World) : (Instr.typeAssert (.iface 128 v) xT 233 true).run Tryz.prog w = .ok (.tuple #[.nilIface, .bool false]) w := run_typeAssert_lacksB Tryz.underlying233 (by kernel_rfl) (by kernel_rfl) v xT w
theorem taS2 (v : Value) (xT : TypeId) (w : World) : (Instr.typeAssert (.iface 128 v) xT 234 true).run Tryz.prog w = .ok (.tuple #[.nilIface, .bool false]) w := run_typeAssert_lacksB Tryz.underlying234 (by kernel_rfl) (by kernel_rfl) v xT w
theorem taW0 (v : Value) (xT : TypeId) (w : World) : (Instr.typeAssert (.iface 131 v) xT 230 true).run Tryz.prog w = .ok (.tuple #[.nilIface, .bool false]) w := run_typeAssert_lacksB Tryz.underlying230 (by kernel_rfl) (by kernel_rfl) v xT w
theorem taW1 (v : Value) (xT : TypeId) (w : World) : (Instr.typeAssert (.iface 131 v) xT 233 true).run Tryz.prog w = .ok (.tuple #[.nilIface, .bool false]) w := run_typeAssert_lacksB Tryz.underlying233 (by kernel_rfl) (by kernel_rfl) v xT w
theorem taW2 (v : Value) (xT : TypeId) (w : World) : (Instr.typeAssert (.iface 131 v) xT 234 true).run Tryz.prog w = .ok (.tuple #[.nilIface, .bool false]) w := run_typeAssert_lacksB Tryz.underlying234 (by kernel_rfl) (by kernel_rfl) v xT w
theorem as_miss_s (w : World) (t : Addr) (hg : w.cell? ⟨0, 0, none⟩ = some (.iface 225 (.agg #[.pointer (some ⟨14, 90, none⟩)]))) :
 Calls Tryz.prog 59 #[.iface 128 (.agg #[]), .iface 132 (.pointer (some t))] w fun ev w' => ev = .returned (.bool false) ∧ w.grownBy w' none := by
 have h1 := @run_callFunc_extern Tryz.prog 89 _ (fun args => ReflectliteValue.unpack (args.getD 0 (.tuple #[]))) Tryz.func89 (by kernel_rfl) (by kernel_rfl) (by kernel_rfl) (by kernel_rfl)
 have h2 := @run_callFunc_extern Tryz.prog 90 _ (ReflectliteValue.methodAny (ReflectliteValue.valueError "reflectlite.Value.Type" 0) (fun t _ _ _ => ReflectliteType.toType t)) Tryz.func90 (by kernel_rfl) (by kernel_rfl) (by kernel_rfl) (by kernel_rfl)
 have h3 := @run_callFunc_extern Tryz.prog 91 _ (ReflectliteValue.method (ReflectliteValue.valueError "reflectlite.Value.IsNil" 0) ReflectliteValue.isNil) Tryz.func91 (by kernel_rfl) (by kernel_rfl) (by kernel_rfl) (by kernel_rfl)
 have h4 := @run_callFunc_extern Tryz.prog 183 _ (ReflectliteType.abiMethod fun t => do pure (.int .u8 (← Rtype.kind t))) Tryz.func183 (by kernel_rfl) (by kernel_rfl) (by kernel_rfl) (by kernel_rfl)
 have h5 := @run_callFunc_extern Tryz.prog 205 _ (ReflectliteType.method ReflectliteType.elem) Tryz.func205 (by kernel_rfl) (by kernel_rfl) (by kernel_rfl) (by kernel_rfl)
 have h6 := @run_callFunc_extern Tryz.prog 206 _ (ReflectliteType.relation "Implements" ReflectliteType.implements_) Tryz.func206 (by kernel_rfl) (by kernel_rfl) (by kernel_rfl) (by kernel_rfl)
 have h7 := @run_callFunc_extern Tryz.prog 120 _ ReflectliteType.typeOf Tryz.func120 (by kernel_rfl) (by kernel_rfl) (by kernel_rfl) (by kernel_rfl)
 have h8 := @run_callFunc_extern Tryz.prog 203 _ (ReflectliteType.relation "AssignableTo" ReflectliteType.assignableTo) Tryz.func203 (by kernel_rfl) (by kernel_rfl) (by kernel_rfl) (by kernel_rfl)
 have h9 := @run_callFunc_extern Tryz.prog 121 _ (ReflectliteValue.method (ReflectliteValue.valueError "reflectlite.Value.Elem" 0) ReflectliteValue.elem) Tryz.func121 (by kernel_rfl) (by kernel_rfl) (by kernel_rfl) (by kernel_rfl)
 have h10 := @run_callFunc_extern Tryz.prog 122 _ ReflectliteValue.set Tryz.func122 (by kernel_rfl) (by kernel_rfl) (by kernel_rfl) (by kernel_rfl)
 have mk := mS
 have me := mE
 have mi := mI
 have ma := mA
 have f1 := vPw
 have f2 := tPw
 have f3 := kPw
 have f4 := kW
 have f5 := ePw
 have f6 := iW
 have f7 := toS
 have f8 := aSW
 have g0 := taS0
 have g1 := taS1
 have g2 := taS2
 have n8 := nPw ⟨w.heap.size, 0, none⟩ t ((w.alloc (.cells #[.pointer (some t)] 132)).alloc (.cells #[.pointer (some ⟨14, 132, none⟩), .pointer (some ⟨w.heap.size, 0, none⟩), .int .u64 150] 171)) (by simp)
 have hlt : 0 < w.heap.size := Lists.aQf hg
 have hg2 : ((w.alloc (.cells #[.pointer (some t)] 132)).alloc (.cells #[.pointer (some ⟨14, 132, none⟩), .pointer (some ⟨w.heap.size, 0, none⟩), .int .u64 150] 171)).cell? ⟨0, 0, none⟩ = some (.iface 225 (.agg #[.pointer (some ⟨14, 90, none⟩)])) := by
  rw [World.cell?_alloc_lt _ _ ⟨0, 0, none⟩ (by simp), World.cell?_alloc_lt _ _ ⟨0, 0, none⟩ hlt]; exact hg
 go_enter Tryz.func59, Tryz.ntmps59
 go_wp2
 refine wp_loop_rounds 1 ?_
 rw [rounds_succ]
 go_wp2
 go_ret
 refine ⟨rfl, ?_⟩
 exact aQ3 (aQ3 (gnA3 _ _) (gnA3 _ _)) (gnA3 _ _)
theorem as_miss_w (w : World) (t : Addr) (c : Int) (hg : w.cell? ⟨0, 0, none⟩ = some (.iface 225 (.agg #[.pointer (some ⟨14, 90, none⟩)]))) :
 Calls Tryz.prog 59 #[.iface 131 (.agg #[.int .i64 c]), .iface 130 (.pointer (some t))] w fun ev w' => ev = .returned (.bool false) ∧ w.grownBy w' none := by
 have h1 := @run_callFunc_extern Tryz.prog 89 _ (fun args => ReflectliteValue.unpack (args.getD 0 (.tuple #[]))) Tryz.func89 (by kernel_rfl) (by kernel_rfl) (by kernel_rfl) (by kernel_rfl)
 have h2 := @run_callFunc_extern Tryz.prog 90 _ (ReflectliteValue.methodAny (ReflectliteValue.valueError "reflectlite.Value.Type" 0) (fun t _ _ _ => ReflectliteType.toType t)) Tryz.func90 (by kernel_rfl) (by kernel_rfl) (by kernel_rfl) (by kernel_rfl)
 have h3 := @run_callFunc_extern Tryz.prog 91 _ (ReflectliteValue.method (ReflectliteValue.valueError "reflectlite.Value.IsNil" 0) ReflectliteValue.isNil) Tryz.func91 (by kernel_rfl) (by kernel_rfl) (by kernel_rfl) (by kernel_rfl)
 have h4 := @run_callFunc_extern Tryz.prog 183 _ (ReflectliteType.abiMethod fun t => do pure (.int .u8 (← Rtype.kind t))) Tryz.func183 (by kernel_rfl) (by kernel_rfl) (by kernel_rfl) (by kernel_rfl)
 have h5 := @run_callFunc_extern Tryz.prog 205 _ (ReflectliteType.method ReflectliteType.elem) Tryz.func205 (by kernel_rfl) (by kernel_rfl) (by kernel_rfl) (by kernel_rfl)
 have h6 := @run_callFunc_extern Tryz.prog 206 _ (ReflectliteType.relation "Implements" ReflectliteType.implements_) Tryz.func206 (by kernel_rfl) (by kernel_rfl) (by kernel_rfl) (by kernel_rfl)
 have h7 := @run_callFunc_extern Tryz.prog 120 _ ReflectliteType.typeOf Tryz.func120 (by kernel_rfl) (by kernel_rfl) (by kernel_rfl) (by kernel_rfl)
 have h8 := @run_callFunc_extern Tryz.prog 203 _ (ReflectliteType.relation "AssignableTo" ReflectliteType.assignableTo) Tryz.func203 (by kernel_rfl) (by kernel_rfl) (by kernel_rfl) (by kernel_rfl)
 have h9 := @run_callFunc_extern Tryz.prog 121 _ (ReflectliteValue.method (ReflectliteValue.valueError "reflectlite.Value.Elem" 0) ReflectliteValue.elem) Tryz.func121 (by kernel_rfl) (by kernel_rfl) (by kernel_rfl) (by kernel_rfl)
 have h10 := @run_callFunc_extern Tryz.prog 122 _ ReflectliteValue.set Tryz.func122 (by kernel_rfl) (by kernel_rfl) (by kernel_rfl) (by kernel_rfl)
 have mk := mS
 have me := mE
 have mi := mI
 have ma := mA
 have f1 := vPs
 have f2 := tPs
 have f3 := kPs
 have f4 := kS
 have f5 := ePs
 have f6 := iS
 have f7 := toW
 have f8 := aWS
 have g0 := taW0
 have g1 := taW1
 have g2 := taW2
 have n8 := nPs ⟨w.heap.size, 0, none⟩ t ((w.alloc (.cells #[.pointer (some t)] 130)).alloc (.cells #[.pointer (some ⟨14, 130, none⟩), .pointer (some ⟨w.heap.size, 0, none⟩), .int .u64 150] 171)) (by simp)
 have hlt : 0 < w.heap.size := Lists.aQf hg
 have hg2 : ((w.alloc (.cells #[.pointer (some t)] 130)).alloc (.cells #[.pointer (some ⟨14, 130, none⟩), .pointer (some ⟨w.heap.size, 0, none⟩), .int .u64 150] 171)).cell? ⟨0, 0, none⟩ = some (.iface 225 (.agg #[.pointer (some ⟨14, 90, none⟩)])) := by
  rw [World.cell?_alloc_lt _ _ ⟨0, 0, none⟩ (by simp), World.cell?_alloc_lt _ _ ⟨0, 0, none⟩ hlt]; exact hg
 go_enter Tryz.func59, Tryz.ntmps59
 go_wp2
 refine wp_loop_rounds 1 ?_
 rw [rounds_succ]
 go_wp2
 go_ret
 refine ⟨rfl, ?_⟩
 exact aQ3 (aQ3 (gnA3 _ _) (gnA3 _ _)) (gnA3 _ _)
open Go.RowKit Go.Extern.Stop Go.Stop Go.Extern
theorem addr_lt {w : World} {t : Addr} {v : Value} (h : w.cell? t = some v) : t.block < w.heap.size := by
 refine Decidable.byContradiction fun hn => ?_
 rw [World.cell?, Array.getElem?_eq_none (by omega)] at h
 simp at h
theorem frz1 (w : World) (t : Addr) (o : Obj) (h : t.block < w.heap.size) (hf : w.frozen? t = false) : (w.alloc o).frozen? t = false := by
 rw [← hf]
 unfold World.frozen?
 rw [heap_alloc_old w o h]
theorem frz4 (w : World) (t : Addr) (o1 o2 o3 o4 : Obj) (h : t.block < w.heap.size) (hf : w.frozen? t = false) : ((((w.alloc o1).alloc o2).alloc o3).alloc o4).frozen? t = false := by
 refine frz1 _ _ _ (by simp; omega) (frz1 _ _ _ (by simp; omega) (frz1 _ _ _ (by simp; omega) (frz1 _ _ _ h hf)))
theorem as_hit_s (w : World) (t : Addr) (hg : w.cell? ⟨0, 0, none⟩ = some (.iface 225 (.agg #[.pointer (some ⟨14, 90, none⟩)]))) :
 Calls Tryz.prog 59 #[.iface 128 (.agg #[]), .iface 130 (.pointer (some t))] w fun ev w' => ev = .returned (.bool true) ∧ w.grownBy w' none := by
 have h1 := @run_callFunc_extern Tryz.prog 89 _ (fun args => ReflectliteValue.unpack (args.getD 0 (.tuple #[]))) Tryz.func89 (by kernel_rfl) (by kernel_rfl) (by kernel_rfl) (by kernel_rfl)
 have h2 := @run_callFunc_extern Tryz.prog 90 _ (ReflectliteValue.methodAny (ReflectliteValue.valueError "reflectlite.Value.Type" 0) (fun t _ _ _ => ReflectliteType.toType t)) Tryz.func90 (by kernel_rfl) (by kernel_rfl) (by kernel_rfl) (by kernel_rfl)
 have h3 := @run_callFunc_extern Tryz.prog 91 _ (ReflectliteValue.method (ReflectliteValue.valueError "reflectlite.Value.IsNil" 0) ReflectliteValue.isNil) Tryz.func91 (by kernel_rfl) (by kernel_rfl) (by kernel_rfl) (by kernel_rfl)
 have h4 := @run_callFunc_extern Tryz.prog 183 _ (ReflectliteType.abiMethod fun t => do pure (.int .u8 (← Rtype.kind t))) Tryz.func183 (by kernel_rfl) (by kernel_rfl) (by kernel_rfl) (by kernel_rfl)
 have h5 := @run_callFunc_extern Tryz.prog 205 _ (ReflectliteType.method ReflectliteType.elem) Tryz.func205 (by kernel_rfl) (by kernel_rfl) (by kernel_rfl) (by kernel_rfl)
 have h6 := @run_callFunc_extern Tryz.prog 206 _ (ReflectliteType.relation "Implements" ReflectliteType.implements_) Tryz.func206 (by kernel_rfl) (by kernel_rfl) (by kernel_rfl) (by kernel_rfl)
 have h7 := @run_callFunc_extern Tryz.prog 120 _ ReflectliteType.typeOf Tryz.func120 (by kernel_rfl) (by kernel_rfl) (by kernel_rfl) (by kernel_rfl)
 have h8 := @run_callFunc_extern Tryz.prog 203 _ (ReflectliteType.relation "AssignableTo" ReflectliteType.assignableTo) Tryz.func203 (by kernel_rfl) (by kernel_rfl) (by kernel_rfl) (by kernel_rfl)
 have h9 := @run_callFunc_extern Tryz.prog 121 _ (ReflectliteValue.method (ReflectliteValue.valueError "reflectlite.Value.Elem" 0) ReflectliteValue.elem) Tryz.func121 (by kernel_rfl) (by kernel_rfl) (by kernel_rfl) (by kernel_rfl)
 have h10 := @run_callFunc_extern Tryz.prog 122 _ ReflectliteValue.set Tryz.func122 (by kernel_rfl) (by kernel_rfl) (by kernel_rfl) (by kernel_rfl)
 have mk := mS
 have me := mE
 have mi := mI
 have ma := mA
 have f1 := vPs
 have f2 := tPs
 have f3 := kPs
 have f4 := kS
 have f5 := ePs
 have f6 := iS
 have f7 := toS
 have f8 := aSS
 have g0 := taS0
 have g1 := taS1
 have g2 := taS2
 have n8 := nPs ⟨w.heap.size, 0, none⟩ t ((w.alloc (.cells #[.pointer (some t)] 130)).alloc (.cells #[.pointer (some ⟨14, 130, none⟩), .pointer (some ⟨w.heap.size, 0, none⟩), .int .u64 150] 171)) (by simp)
 have hlt : 0 < w.heap.size := Lists.aQf hg
 have hg2 : ((w.alloc (.cells #[.pointer (some t)] 130)).alloc (.cells #[.pointer (some ⟨14, 130, none⟩), .pointer (some ⟨w.heap.size, 0, none⟩), .int .u64 150] 171)).cell? ⟨0, 0, none⟩ = some (.iface 225 (.agg #[.pointer (some ⟨14, 90, none⟩)])) := by
  rw [World.cell?_alloc_lt _ _ ⟨0, 0, none⟩ (by simp), World.cell?_alloc_lt _ _ ⟨0, 0, none⟩ hlt]; exact hg
 have e9 := evS ⟨w.heap.size, 0, none⟩ t (((w.alloc (.cells #[.pointer (some t)] 130)).alloc (.cells #[.pointer (some ⟨14, 130, none⟩), .pointer (some ⟨w.heap.size, 0, none⟩), .int .u64 150] 171)).alloc (.cells #[.pointer (some ⟨14, 130, none⟩), .pointer (some ⟨w.heap.size, 0, none⟩), .int .u64 150] 171)) (by rw [World.cell?_alloc_lt _ _ ⟨w.heap.size, 0, none⟩ (by simp; omega)]; simp)
 have vv := vS
 have s9 := setS
 go_enter Tryz.func59, Tryz.ntmps59
 go_wp2
 refine wp_loop_rounds 1 ?_
 rw [rounds_succ]
 go_wp2
 go_ret
 refine ⟨rfl, ?_⟩
 exact aQ3 (aQ3 (aQ3 (gnA3 _ _) (gnA3 _ _)) (gnA3 _ _)) (gnA3 _ _)
theorem as_hit_w (w : World) (t : Addr) (c : Int) (old : Value) (ht : w.cell? t = some old) (hf : w.frozen? t = false) (hg : w.cell? ⟨0, 0, none⟩ = some (.iface 225 (.agg #[.pointer (some ⟨14, 90, none⟩)]))) :
 Calls Tryz.prog 59 #[.iface 131 (.agg #[.int .i64 c]), .iface 132 (.pointer (some t))] w fun ev w' => ev = .returned (.bool true) ∧ ∃ w1, w.grownBy w1 none ∧ w' = w1.setCell t (.int .i64 c) := by
 have h1 := @run_callFunc_extern Tryz.prog 89 _ (fun args => ReflectliteValue.unpack (args.getD 0 (.tuple #[]))) Tryz.func89 (by kernel_rfl) (by kernel_rfl) (by kernel_rfl) (by kernel_rfl)
 have h2 := @run_callFunc_extern Tryz.prog 90 _ (ReflectliteValue.methodAny (ReflectliteValue.valueError "reflectlite.Value.Type" 0) (fun t _ _ _ => ReflectliteType.toType t)) Tryz.func90 (by kernel_rfl) (by kernel_rfl) (by kernel_rfl) (by kernel_rfl)
 have h3 := @run_callFunc_extern Tryz.prog 91 _ (ReflectliteValue.method (ReflectliteValue.valueError "reflectlite.Value.IsNil" 0) ReflectliteValue.isNil) Tryz.func91 (by kernel_rfl) (by kernel_rfl) (by kernel_rfl) (by kernel_rfl)
 have h4 := @run_callFunc_extern Tryz.prog 183 _ (ReflectliteType.abiMethod fun t => do pure (.int .u8 (← Rtype.kind t))) Tryz.func183 (by kernel_rfl) (by kernel_rfl) (by kernel_rfl) (by kernel_rfl)
 have h5 := @run_callFunc_extern Tryz.prog 205 _ (ReflectliteType.method ReflectliteType.elem) Tryz.func205 (by kernel_rfl) (by kernel_rfl) (by kernel_rfl) (by kernel_rfl)
 have h6 := @run_callFunc_extern Tryz.prog 206 _ (ReflectliteType.relation "Implements" ReflectliteType.implements_) Tryz.func206 (by kernel_rfl) (by kernel_rfl) (by kernel_rfl) (by kernel_rfl)
 have h7 := @run_callFunc_extern Tryz.prog 120 _ ReflectliteType.typeOf Tryz.func120 (by kernel_rfl) (by kernel_rfl) (by kernel_rfl) (by kernel_rfl)
 have h8 := @run_callFunc_extern Tryz.prog 203 _ (ReflectliteType.relation "AssignableTo" ReflectliteType.assignableTo) Tryz.func203 (by kernel_rfl) (by kernel_rfl) (by kernel_rfl) (by kernel_rfl)
 have h9 := @run_callFunc_extern Tryz.prog 121 _ (ReflectliteValue.method (ReflectliteValue.valueError "reflectlite.Value.Elem" 0) ReflectliteValue.elem) Tryz.func121 (by kernel_rfl) (by kernel_rfl) (by kernel_rfl) (by kernel_rfl)
 have h10 := @run_callFunc_extern Tryz.prog 122 _ ReflectliteValue.set Tryz.func122 (by kernel_rfl) (by kernel_rfl) (by kernel_rfl) (by kernel_rfl)
 have mk := mS
 have me := mE
 have mi := mI
 have ma := mA
 have f1 := vPw
 have f2 := tPw
 have f3 := kPw
 have f4 := kW
 have f5 := ePw
 have f6 := iW
 have f7 := toW
 have f8 := aWW
 have g0 := taW0
 have g1 := taW1
 have g2 := taW2
 have n8 := nPw ⟨w.heap.size, 0, none⟩ t ((w.alloc (.cells #[.pointer (some t)] 132)).alloc (.cells #[.pointer (some ⟨14, 132, none⟩), .pointer (some ⟨w.heap.size, 0, none⟩), .int .u64 150] 171)) (by simp)
 have hlt : 0 < w.heap.size := Lists.aQf hg
 have hg2 : ((w.alloc (.cells #[.pointer (some t)] 132)).alloc (.cells #[.pointer (some ⟨14, 132, none⟩), .pointer (some ⟨w.heap.size, 0, none⟩), .int .u64 150] 171)).cell? ⟨0, 0, none⟩ = some (.iface 225 (.agg #[.pointer (some ⟨14, 90, none⟩)])) := by
  rw [World.cell?_alloc_lt _ _ ⟨0, 0, none⟩ (by simp), World.cell?_alloc_lt _ _ ⟨0, 0, none⟩ hlt]; exact hg
 have e9 := evW ⟨w.heap.size, 0, none⟩ t (((w.alloc (.cells #[.pointer (some t)] 132)).alloc (.cells #[.pointer (some ⟨14, 132, none⟩), .pointer (some ⟨w.heap.size, 0, none⟩), .int .u64 150] 171)).alloc (.cells #[.pointer (some ⟨14, 132, none⟩), .pointer (some ⟨w.heap.size, 0, none⟩), .int .u64 150] 171)) (by rw [World.cell?_alloc_lt _ _ ⟨w.heap.size, 0, none⟩ (by simp; omega)]; simp)
 have vv := vW
 have htl : t.block < w.heap.size := addr_lt ht
 have s9 := setW t ⟨w.heap.size + 1 + 1 + 1, 0, none⟩ c old ((((w.alloc (.cells #[.pointer (some t)] 132)).alloc (.cells #[.pointer (some ⟨14, 132, none⟩), .pointer (some ⟨w.heap.size, 0, none⟩), .int .u64 150] 171)).alloc (.cells #[.pointer (some ⟨14, 132, none⟩), .pointer (some ⟨w.heap.size, 0, none⟩), .int .u64 150] 171)).alloc (.cells #[.int .i64 c] 131)) (by rw [World.cell?_alloc_at _ _ _ _ (by simp)]; rfl) (by rw [World.cell?_alloc_lt _ _ t (by simp; omega), World.cell?_alloc_lt _ _ t (by simp; omega), World.cell?_alloc_lt _ _ t (by simp; omega), World.cell?_alloc_lt _ _ t htl]; exact ht) (frz4 w t _ _ _ _ htl hf)
 go_enter Tryz.func59, Tryz.ntmps59
 go_wp2
 refine wp_loop_rounds 1 ?_
 rw [rounds_succ]
 go_wp2
 go_ret
 refine ⟨rfl, _, aQ3 (aQ3 (aQ3 (gnA3 _ _) (gnA3 _ _)) (gnA3 _ _)) (gnA3 _ _), rfl⟩
open Go.RowKit Go.Extern.Stop Go.Stop Go.Extern Lists Plain10
def aV3 (w : World) : Prop := w.cell? ⟨0, 0, none⟩ = some (.iface 225 (.agg #[.pointer (some ⟨14, 90, none⟩)]))
theorem aV3.grow {w w' : World} (h : aV3 w) (hg : w.grownBy w' none) : aV3 w' :=
 aZ4 (hg.block _ (aQf h) (fun e => by cases e)) h
theorem bJk (w : World) (closed : Bool) (hg : aV3 w) :
 Calls Tryz.prog 30 #[errV 1, .bool closed] w fun e w' => e = .returned (.int .i64 (aZf 1 closed)) ∧ w.grownBy w' none := by
 have HG := aQ1 hg
 clear hg
 rw [aZ1]
 have h1 := as_hit_s (w.alloc (.cells #[] 128)) ⟨w.heap.size, 0, none⟩ (HG.out.grow (gnA3 _ _))
 cases closed with
 | false =>
  go_enter Tryz.func30, Tryz.ntmps30
  go_wp2_with fail
  refine h1.mono ?_
  rintro e w1 ⟨rfl, hg1⟩
  go_wp2
  go_ret
  exact ⟨rfl, aQ3 (gnA3 _ _) hg1⟩
 | true =>
  have h2 := fun (w1 : World) (hg1 : (w.alloc (.cells #[] 128)).grownBy w1 none) => as_miss_s (w1.alloc (.cells #[.int .i64 0] 131)) ⟨w1.heap.size, 0, none⟩ (((HG.out.grow (gnA3 _ _)).grow hg1).grow (gnA3 w1 _))
  go_enter Tryz.func30, Tryz.ntmps30
  go_wp2_with fail
  refine h1.mono ?_
  rintro e w1 ⟨rfl, hg1⟩
  have h3 := h2 w1 hg1
  clear h1 h2
  go_wp2_with fail
  refine h3.mono ?_
  rintro e w2 ⟨rfl, hg2⟩
  go_wp2
  go_ret
  exact ⟨rfl, aQ3 (aQ3 (aQ3 (gnA3 _ _) hg1) (gnA3 _ _)) hg2⟩
theorem bQ9 (w : World) (closed : Bool) (c : Int) (hg : aV3 w) :
 Calls Tryz.prog 30 #[.iface 131 (.agg #[.int .i64 c]), .bool closed] w fun e w' => e = .returned (.int .i64 c) ∧ w.grownBy w' none := by
 have HG := aQ1 hg
 clear hg
 have h1 := as_miss_w (w.alloc (.cells #[] 128)) ⟨w.heap.size, 0, none⟩ c (HG.out.grow (gnA3 _ _))
 have h2 := fun (w1 : World) (hg1 : (w.alloc (.cells #[] 128)).grownBy w1 none) => as_hit_w (w1.alloc (.cells #[.int .i64 0] 131)) ⟨w1.heap.size, 0, none⟩ c (.int .i64 0) (by simp) (by simp) (((HG.out.grow (gnA3 _ _)).grow hg1).grow (gnA3 w1 _))
 go_enter Tryz.func30, Tryz.ntmps30
 go_wp2_with fail
 refine h1.mono ?_
 rintro e w1 ⟨rfl, hg1⟩
 have h3 := h2 w1 hg1
 clear h1 h2
 go_wp2_with fail
 refine h3.mono ?_
 rintro e w2 ⟨rfl, w3, hg3, hw⟩
 have hc : w2.cell? ⟨w1.heap.size, 0, none⟩ = some (.int .i64 c) := by
  have hb := hg3.block w1.heap.size (by simp) (by simp)
  rw [hw]
  have h0 : (w1.alloc (.cells #[.int .i64 0] 131)).heap[w1.heap.size]? = some (.cells #[.int .i64 0] 131) := Below.heap_new _ _
  have h4 := set5 (hb.trans h0) 0 (.int .i64 c)
  simp [World.cell?, h4]
 have hgg : w.grownBy w2 none := by
  have h5 : w1.grownBy w2 none := by
   rw [hw]
   exact aJ1 (aQ3 (gnA3 _ _) hg3) (Nat.le_refl _) _
  exact aQ3 (aQ3 (gnA3 _ _) hg1) h5
 clear h3 hg3 hw
 go_wp2
 go_ret
 exact ⟨rfl, hgg⟩
theorem aQx (w : World) (f : Nat) (closed : Bool) (hf : f ≠ 0) (h3 : f ≤ 3) (hg : aV3 w) :
 Calls Tryz.prog 30 #[errV f, .bool closed] w fun e w' => e = .returned (.int .i64 (aZf f closed)) ∧ w.grownBy w' none := by
 have : f = 1 ∨ f = 2 ∨ f = 3 := by omega
 rcases this with rfl | rfl | rfl
 · exact bJk w closed hg
 · exact bQ9 w closed 3 hg
 · exact bQ9 w closed 6 hg
end Go.Proofs.YtdblemolaojebaaGreatDoor
