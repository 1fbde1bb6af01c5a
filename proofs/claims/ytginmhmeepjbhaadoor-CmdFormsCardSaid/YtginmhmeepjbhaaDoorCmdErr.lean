/- errors.As at the faults of package cmd, by contracts: Go's own text is walked. A fault is found by errors.As as it is. -/
import Derived.Test.YtginmhmeepjbhaaDoorEnvBare
import Derived.Test.YtginmhmeepjbhaaDoorBlocks
import Derived.WalkKit
import Derived.WalkMore
import Derived.LaidEql
import Derived.Stop.Asserts
import Derived.RowKitTokens
namespace Go.Proofs.YtginmhmeepjbhaaDoor.Cm
open Go Go.RowKit Go.Extern.Stop Go.Stop Go.Extern Go.Proofs.YtginmhmeepjbhaaDoor
set_option maxRecDepth 100000

/-- a fault's two cells -/
abbrev faultA (p : ByteArray) (n : Int) : Array Value := #[.string p, .int .i64 n]
/-- a fault as an error -/
abbrev faultV (p : ByteArray) (n : Int) : Value := .iface 50 (.agg (faultA p n))
/-- the handle of a type -/
abbrev hdl (t : Nat) : Value := .pointer (some ⟨2, t, none⟩)

theorem as_nil (t : Value) (w : World) :
    Calls Tryd.prog 23 #[.nilIface, t] w fun e w' => e = .returned (.bool false) ∧ w' = w := by
  go_enter Tryd.func23, Tryd.ntmps23
  go_wp2
  go_ret
  exact ⟨rfl, rfl⟩

/-! closed facts on the model's entries for internal/reflectlite -/
theorem valueOfPtr (t : Addr) (w : World) : (ReflectliteValue.unpack (.iface 52 (.pointer (some t)))).run Tryd.prog w
    = .ok (.agg #[hdl 52, .pointer (some ⟨w.heap.size, 0, none⟩), .int .u64 150]) (w.alloc (.cells #[.pointer (some t)] 52)) := by kernel_rfl
theorem typePtr (a : Addr) (w : World) : (ReflectliteValue.methodAny (ReflectliteValue.valueError "reflectlite.Value.Type" 0) (fun t _ _ _ => ReflectliteType.toType t) #[.agg #[hdl 52, .pointer (some a), .int .u64 150]]).run Tryd.prog w
    = .ok (.iface 79 (.agg #[hdl 52])) w := by kernel_rfl
theorem methodKind (h : Value) (w : World) : (Go.method 251 79 (.agg #[h]) "Kind").run Tryd.prog w = .ok (87, h) w := by kernel_rfl
theorem kindPtr (w : World) : ((ReflectliteType.abiMethod fun t => (fun a : Nat => Value.int IntKind.u8 (a : Int)) <$> Rtype.kind t) #[hdl 52]).run Tryd.prog w = .ok (.int .u8 22) w := by kernel_rfl
theorem kindFault (w : World) : ((ReflectliteType.abiMethod fun t => (fun a : Nat => Value.int IntKind.u8 (a : Int)) <$> Rtype.kind t) #[hdl 50]).run Tryd.prog w = .ok (.int .u8 25) w := by kernel_rfl

theorem partsPtr (a : Addr) (w : World) : (ReflectliteValue.parts (.agg #[hdl 52, .pointer (some a), .int .u64 150])).run Tryd.prog w = .ok (some (52, a, 150)) w := by kernel_rfl
theorem isNilPtr (a p : Addr) (W : World) (ha : W.cell? a = some (.pointer (some p))) :
    (ReflectliteValue.method (ReflectliteValue.valueError "reflectlite.Value.IsNil" 0) ReflectliteValue.isNil #[.agg #[hdl 52, .pointer (some a), .int .u64 150]]).run Tryd.prog W = .ok (.bool false) W := by
  show (bind (ReflectliteValue.parts (.agg #[hdl 52, .pointer (some a), .int .u64 150])) _ : Sem Value).run _ _ = _
  rw [Sem.run_bind, partsPtr, Result.andThen_ok]
  simp [ReflectliteValue.isNil, loadVar, isAgg, underlying, Tryd.underlying52, ha, Result.andThen]

theorem methodElem (h : Value) (w : World) : (Go.method 251 79 (.agg #[h]) "Elem").run Tryd.prog w = .ok (97, .agg #[h]) w := by kernel_rfl
theorem methodImplements (h : Value) (w : World) : (Go.method 251 79 (.agg #[h]) "Implements").run Tryd.prog w = .ok (98, .agg #[h]) w := by kernel_rfl
theorem methodAssignableTo (h : Value) (w : World) : (Go.method 251 79 (.agg #[h]) "AssignableTo").run Tryd.prog w = .ok (95, .agg #[h]) w := by kernel_rfl
theorem methodComparable (h : Value) (w : World) : (Go.method 251 79 (.agg #[h]) "Comparable").run Tryd.prog w = .ok (96, .agg #[h]) w := by kernel_rfl
theorem elemPtr (w : World) : (ReflectliteType.method ReflectliteType.elem #[.agg #[hdl 52]]).run Tryd.prog w = .ok (.iface 79 (.agg #[hdl 50])) w := by kernel_rfl
theorem implementsFault (w : World) : (ReflectliteType.relation "Implements" ReflectliteType.implements_ #[.agg #[hdl 50], handleV]).run Tryd.prog w = .ok (.bool true) w := by kernel_rfl
theorem typeOfFault (v : Value) (w : World) : (ReflectliteType.typeOf #[.iface 50 v]).run Tryd.prog w = .ok (.iface 79 (.agg #[hdl 50])) w := by kernel_rfl
theorem assignableFault (w : World) : (ReflectliteType.relation "AssignableTo" ReflectliteType.assignableTo #[.agg #[hdl 50], .iface 79 (.agg #[hdl 50])]).run Tryd.prog w = .ok (.bool true) w := by kernel_rfl
theorem valueOfFault (p : ByteArray) (n : Int) (w : World) : (ReflectliteValue.unpack (faultV p n)).run Tryd.prog w
    = .ok (.agg #[hdl 50, .pointer (some ⟨w.heap.size, 0, none⟩), .int .u64 153]) (w.alloc (.cells (faultA p n) 50)) := by kernel_rfl
theorem elemOfPtr (w : World) : (Rtype.elem? 52).run Tryd.prog w = .ok (some 50) w := by kernel_rfl
theorem mkFault (p : Addr) (w : World) : (ReflectliteValue.mk 50 p ReflectliteValue.flagAddr).run Tryd.prog w = .ok (.agg #[hdl 50, .pointer (some p), .int .u64 409]) w := by kernel_rfl
theorem elemV (a p : Addr) (W : World) (ha : W.cell? a = some (.pointer (some p))) :
    (ReflectliteValue.method (ReflectliteValue.valueError "reflectlite.Value.Elem" 0) ReflectliteValue.elem #[.agg #[hdl 52, .pointer (some a), .int .u64 150]]).run Tryd.prog W
      = .ok (.agg #[hdl 50, .pointer (some p), .int .u64 409]) W := by
  show (bind (ReflectliteValue.parts (.agg #[hdl 52, .pointer (some a), .int .u64 150])) _ : Sem Value).run _ _ = _
  rw [Sem.run_bind, partsPtr, Result.andThen_ok]
  simp [ReflectliteValue.elem, loadVar, isAgg, underlying, Tryd.underlying52, ha, Result.andThen, elemOfPtr, mkFault]
theorem partsDst (a : Addr) (w : World) : (ReflectliteValue.parts (.agg #[hdl 50, .pointer (some a), .int .u64 409])).run Tryd.prog w = .ok (some (50, a, 409)) w := by kernel_rfl
theorem partsSrc (a : Addr) (w : World) : (ReflectliteValue.parts (.agg #[hdl 50, .pointer (some a), .int .u64 153])).run Tryd.prog w = .ok (some (50, a, 153)) w := by kernel_rfl
theorem directFault (w : World) : (Rtype.directlyAssignable 50 50).run Tryd.prog w = .ok true w := by kernel_rfl
theorem sizeFault (w : World) : (sizeOf 50).run Tryd.prog w = .ok 2 w := by kernel_rfl
theorem aggFault (w : World) : (isAgg 50).run Tryd.prog w = .ok true w := by kernel_rfl
theorem loadFault {sb : Nat} {p : ByteArray} {n : Int} {ts : TypeId} {W : World} (hs : IsRow W sb ts (faultA p n)) :
    (loadVar 50 ⟨sb, 0, none⟩).run Tryd.prog W = .ok (.agg (faultA p n)) W := by
  have hl : (loadCells ⟨sb, 0, none⟩ 2).run Tryd.prog W = .ok (faultA p n) W := run_loadCells_list (P := Tryd.prog) W ⟨sb, 0, none⟩ [.string p, .int .i64 n] (fun j v hj => by
    rw [show (⟨sb, 0, none⟩ : Addr).add j = ⟨sb, j, none⟩ from by simp [Addr.add]; exact fun h => h.symm, hs.cell j]
    match j, hj with
    | 0, hj => exact hj
    | 1, hj => exact hj
    | j + 2, hj => simp at hj)
  unfold loadVar
  simp only [Sem.run_bind, aggFault, sizeFault, hl, Result.andThen_ok, if_true, Sem.run_pure]
theorem storeFault {tb : Nat} {p : ByteArray} {n : Int} {tt : TypeId} {o0 o1 : Value} {W : World} (ht : IsRow W tb tt #[o0, o1]) :
    (storeVar 50 ⟨tb, 0, none⟩ (.agg (faultA p n))).run Tryd.prog W = .ok () ((W.setCell ⟨tb, 0, none⟩ (.string p)).setCell ⟨tb, 1, none⟩ (.int .i64 n)) := by
  have t0 : W.cell? ⟨tb, 0, none⟩ = some o0 := ht.cell 0
  have f0 : W.frozen? ⟨tb, 0, none⟩ = false := ht.free 0
  have t1 : (W.setCell ⟨tb, 0, none⟩ (.string p)).cell? ⟨tb, 1, none⟩ = some o1 := (ht.set 0 _).cell 1
  have f1 : (W.setCell ⟨tb, 0, none⟩ (.string p)).frozen? ⟨tb, 1, none⟩ = false := (ht.set 0 _).free 1
  have e0 : (store ⟨tb, 0, none⟩ (.string p)).run Tryd.prog W = .ok () (W.setCell ⟨tb, 0, none⟩ (.string p)) := by
    rw [run_store Tryd.prog W _ _ _ (by rfl)]; simp [t0, f0]
  have e1 : (store ⟨tb, 1, none⟩ (.int .i64 n)).run Tryd.prog (W.setCell ⟨tb, 0, none⟩ (.string p)) = .ok () ((W.setCell ⟨tb, 0, none⟩ (.string p)).setCell ⟨tb, 1, none⟩ (.int .i64 n)) := by
    rw [run_store Tryd.prog _ _ _ _ (by rfl)]; simp [t1, f1]
  have hs : (storeCells ⟨tb, 0, none⟩ [.string p, .int .i64 n]).run Tryd.prog W = .ok () ((W.setCell ⟨tb, 0, none⟩ (.string p)).setCell ⟨tb, 1, none⟩ (.int .i64 n)) := by
    show (do store ⟨tb, 0, none⟩ (.string p); (do store ⟨tb, 1, none⟩ (.int .i64 n); pure ())).run Tryd.prog W = _
    simp only [Sem.run_bind, e0, e1, Result.andThen_ok, Sem.run_pure]
  have h2 : ¬ (Value.agg (faultA p n)).cells.size ≠ 2 := fun h => h rfl
  unfold storeVar
  simp only [Sem.run_bind, sizeFault, Result.andThen_ok]
  simp only [if_neg h2]
  exact hs
theorem setFault (tb sb : Nat) (p : ByteArray) (n : Int) (tt ts : TypeId) (o0 o1 : Value) (W : World) (hs : IsRow W sb ts (faultA p n)) (ht : IsRow W tb tt #[o0, o1]) :
    (ReflectliteValue.set #[.agg #[hdl 50, .pointer (some ⟨tb, 0, none⟩), .int .u64 409], .agg #[hdl 50, .pointer (some ⟨sb, 0, none⟩), .int .u64 153]]).run Tryd.prog W
      = .ok (.tuple #[]) ((W.setCell ⟨tb, 0, none⟩ (.string p)).setCell ⟨tb, 1, none⟩ (.int .i64 n)) := by
  have hl := loadFault hs
  have hst := storeFault (p := p) (n := n) ht
  show (bind (ReflectliteValue.parts (.agg #[hdl 50, .pointer (some ⟨tb, 0, none⟩), .int .u64 409])) _ : Sem Value).run _ _ = _
  rw [Sem.run_bind, partsDst, Result.andThen_ok]
  show (bind (ReflectliteValue.parts (.agg #[hdl 50, .pointer (some ⟨sb, 0, none⟩), .int .u64 153])) _ : Sem Value).run _ _ = _
  rw [Sem.run_bind, partsSrc, Result.andThen_ok]
  simp [ReflectliteValue.flagAddr, hl, hst, Result.andThen, directFault]

set_option maxHeartbeats 4000000 in
/-- errors.As of a fault, at a variable of its type: found, and laid there -/
theorem as_hit (tb : Nat) (p : ByteArray) (n : Int) (tt : TypeId) (o0 o1 : Value) (w : World) (hg : w.cell? ⟨0, 0, none⟩ = some handleV) (ht : IsRow w tb tt #[o0, o1]) :
    Calls Tryd.prog 23 #[faultV p n, .iface 52 (.pointer (some ⟨tb, 0, none⟩))] w fun ev w' => ev = .returned (.bool true) ∧ IsRow w' tb tt (faultA p n) ∧ Below tb w w' := by
  have h51 := @run_callFunc_extern Tryd.prog 33 _ (fun args => ReflectliteValue.unpack (args.getD 0 (.tuple #[]))) Tryd.func33 (by kernel_rfl) (by kernel_rfl) (by kernel_rfl) (by kernel_rfl)
  have h52 := @run_callFunc_extern Tryd.prog 34 _ (ReflectliteValue.methodAny (ReflectliteValue.valueError "reflectlite.Value.Type" 0) (fun t _ _ _ => ReflectliteType.toType t)) Tryd.func34 (by kernel_rfl) (by kernel_rfl) (by kernel_rfl) (by kernel_rfl)
  have h53 := @run_callFunc_extern Tryd.prog 35 _ (ReflectliteValue.method (ReflectliteValue.valueError "reflectlite.Value.IsNil" 0) ReflectliteValue.isNil) Tryd.func35 (by kernel_rfl) (by kernel_rfl) (by kernel_rfl) (by kernel_rfl)
  have hK := @run_callFunc_extern Tryd.prog 87 _ (ReflectliteType.abiMethod fun t => do pure (.int .u8 (← Rtype.kind t))) Tryd.func87 (by kernel_rfl) (by kernel_rfl) (by kernel_rfl) (by kernel_rfl)
  have hE := @run_callFunc_extern Tryd.prog 97 _ (ReflectliteType.method ReflectliteType.elem) Tryd.func97 (by kernel_rfl) (by kernel_rfl) (by kernel_rfl) (by kernel_rfl)
  have hI := @run_callFunc_extern Tryd.prog 98 _ (ReflectliteType.relation "Implements" ReflectliteType.implements_) Tryd.func98 (by kernel_rfl) (by kernel_rfl) (by kernel_rfl) (by kernel_rfl)
  have h55 := @run_callFunc_extern Tryd.prog 42 _ ReflectliteType.typeOf Tryd.func42 (by kernel_rfl) (by kernel_rfl) (by kernel_rfl) (by kernel_rfl)
  have hA := @run_callFunc_extern Tryd.prog 95 _ (ReflectliteType.relation "AssignableTo" ReflectliteType.assignableTo) Tryd.func95 (by kernel_rfl) (by kernel_rfl) (by kernel_rfl) (by kernel_rfl)
  have h66 := @run_callFunc_extern Tryd.prog 43 _ (ReflectliteValue.method (ReflectliteValue.valueError "reflectlite.Value.Elem" 0) ReflectliteValue.elem) Tryd.func43 (by kernel_rfl) (by kernel_rfl) (by kernel_rfl) (by kernel_rfl)
  have h67 := @run_callFunc_extern Tryd.prog 44 _ ReflectliteValue.set Tryd.func44 (by kernel_rfl) (by kernel_rfl) (by kernel_rfl) (by kernel_rfl)
  have tO := typeOfFault
  have mA := methodAssignableTo
  have aF := assignableFault
  have vF := valueOfFault
  have vP := valueOfPtr
  have tP := typePtr
  have mK := methodKind
  have mE := methodElem
  have mI := methodImplements
  have kP := kindPtr
  have kF := kindFault
  have eP := elemPtr
  have iF := implementsFault
  have hlt := World.block_lt_of_cell? w _ hg
  have htl := ht.lt
  have n8 := isNilPtr ⟨w.heap.size, 0, none⟩ ⟨tb, 0, none⟩ ((w.alloc (.cells #[.pointer (some ⟨tb, 0, none⟩)] 52)).alloc (.cells #[hdl 52, .pointer (some ⟨w.heap.size, 0, none⟩), .int .u64 150] 67)) (by simp)
  have hg2 : ((w.alloc (.cells #[.pointer (some ⟨tb, 0, none⟩)] 52)).alloc (.cells #[hdl 52, .pointer (some ⟨w.heap.size, 0, none⟩), .int .u64 150] 67)).cell? ⟨0, 0, none⟩ = some handleV := by
    rw [World.cell?_alloc_lt _ _ ⟨0, 0, none⟩ (Nat.lt_of_lt_of_le hlt (by simp)), World.cell?_alloc_lt _ _ ⟨0, 0, none⟩ hlt]; exact hg
  have el := elemV ⟨w.heap.size, 0, none⟩ ⟨tb, 0, none⟩ (((w.alloc (.cells #[.pointer (some ⟨tb, 0, none⟩)] 52)).alloc (.cells #[hdl 52, .pointer (some ⟨w.heap.size, 0, none⟩), .int .u64 150] 67)).alloc (.cells #[hdl 52, .pointer (some ⟨w.heap.size, 0, none⟩), .int .u64 150] 67)) (by rw [World.cell?_alloc_lt _ _ ⟨w.heap.size, 0, none⟩ (by simp; omega)]; simp)
  have hrow := (((ht.alloc (.cells #[.pointer (some ⟨tb, 0, none⟩)] 52)).alloc (.cells #[hdl 52, .pointer (some ⟨w.heap.size, 0, none⟩), .int .u64 150] 67)).alloc (.cells #[hdl 52, .pointer (some ⟨w.heap.size, 0, none⟩), .int .u64 150] 67)).alloc (.cells (faultA p n) 50)
  have st := setFault tb (w.heap.size + 1 + 1 + 1) p n tt 50 o0 o1 ((((w.alloc (.cells #[.pointer (some ⟨tb, 0, none⟩)] 52)).alloc (.cells #[hdl 52, .pointer (some ⟨w.heap.size, 0, none⟩), .int .u64 150] 67)).alloc (.cells #[hdl 52, .pointer (some ⟨w.heap.size, 0, none⟩), .int .u64 150] 67)).alloc (.cells (faultA p n) 50))
    (by have := IsRow.made (((w.alloc (.cells #[.pointer (some ⟨tb, 0, none⟩)] 52)).alloc (.cells #[hdl 52, .pointer (some ⟨w.heap.size, 0, none⟩), .int .u64 150] 67)).alloc (.cells #[hdl 52, .pointer (some ⟨w.heap.size, 0, none⟩), .int .u64 150] 67)) 50 (faultA p n); simpa using this) hrow
  go_enter Tryd.func23, Tryd.ntmps23
  go_wp2
  refine wp_loop_rounds 1 ?_
  rw [rounds_succ]
  go_wp2
  go_ret
  refine ⟨rfl, (hrow.set 0 _).set 1 _, ?_⟩
  have q1 : ∀ o, Below tb w (w.alloc o) := fun o => (Below.refl tb w).alloc (by omega) o
  have q2 : ∀ o1 o2, Below tb w ((w.alloc o1).alloc o2) := fun o1 o2 => (q1 o1).alloc (by simp; omega) o2
  have q3 : ∀ o1 o2 o3, Below tb w (((w.alloc o1).alloc o2).alloc o3) := fun o1 o2 o3 => (q2 o1 o2).alloc (by simp; omega) o3
  have q4 : ∀ o1 o2 o3 o4, Below tb w ((((w.alloc o1).alloc o2).alloc o3).alloc o4) := fun o1 o2 o3 o4 => (q3 o1 o2 o3).alloc (by simp; omega) o4
  exact ((q4 _ _ _ _).setCell (Nat.le_refl _) _).setCell (Nat.le_refl _) _

end Go.Proofs.YtginmhmeepjbhaaDoor.Cm
