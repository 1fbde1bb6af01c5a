/- errors.As and errors.Is at the errors of package conf, by contracts: Go's own text is walked. A fault is found by errors.As as it is; errors.Is finds in it the error that it wraps. -/
import Derived.Test.YtmodmfkcigibpaaDoorEnvBare
import Derived.Test.YtmodmfkcigibpaaDoorBlocks
import Derived.WalkKit
import Derived.WalkMore
import Derived.LaidEql
import Derived.Stop.Asserts
import Derived.RowKitTokens
namespace Go.Proofs.YtmodmfkcigibpaaDoor.Co
open Go Go.RowKit Go.Extern.Stop Go.Stop Go.Extern Go.Proofs.YtmodmfkcigibpaaDoor
set_option maxRecDepth 100000
set_option linter.unusedSimpArgs false
set_option linter.unusedVariables false

/-- a fault's two cells -/
abbrev faultA (p : Int) (a : Addr) : Array Value := #[.int .i64 p, newV a]
/-- a fault as an error -/
abbrev faultV (p : Int) (a : Addr) : Value := .iface 46 (.agg (faultA p a))
/-- the handle of a type -/
abbrev hdl (t : Nat) : Value := .pointer (some ⟨7, t, none⟩)

theorem as_nil (t : Value) (w : World) :
    Calls Tryd.prog 18 #[.nilIface, t] w fun e w' => e = .returned (.bool false) ∧ w' = w := by
  go_enter Tryd.func18, Tryd.ntmps18
  go_wp2
  go_ret
  exact ⟨rfl, rfl⟩

/-! closed facts on the model's entries for internal/reflectlite -/
theorem valueOfPtr (t : Addr) (w : World) : (ReflectliteValue.unpack (.iface 48 (.pointer (some t)))).run Tryd.prog w
    = .ok (.agg #[hdl 48, .pointer (some ⟨w.heap.size, 0, none⟩), .int .u64 150]) (w.alloc (.cells #[.pointer (some t)] 48)) := by kernel_rfl
theorem typePtr (a : Addr) (w : World) : (ReflectliteValue.methodAny (ReflectliteValue.valueError "reflectlite.Value.Type" 0) (fun t _ _ _ => ReflectliteType.toType t) #[.agg #[hdl 48, .pointer (some a), .int .u64 150]]).run Tryd.prog w
    = .ok (.iface 73 (.agg #[hdl 48])) w := by kernel_rfl
theorem methodKind (h : Value) (w : World) : (Go.method 258 73 (.agg #[h]) "Kind").run Tryd.prog w = .ok (98, h) w := by kernel_rfl
theorem kindPtr (w : World) : ((ReflectliteType.abiMethod fun t => (fun a : Nat => Value.int IntKind.u8 (a : Int)) <$> Rtype.kind t) #[hdl 48]).run Tryd.prog w = .ok (.int .u8 22) w := by kernel_rfl
theorem kindFault (w : World) : ((ReflectliteType.abiMethod fun t => (fun a : Nat => Value.int IntKind.u8 (a : Int)) <$> Rtype.kind t) #[hdl 46]).run Tryd.prog w = .ok (.int .u8 25) w := by kernel_rfl

theorem partsPtr (a : Addr) (w : World) : (ReflectliteValue.parts (.agg #[hdl 48, .pointer (some a), .int .u64 150])).run Tryd.prog w = .ok (some (48, a, 150)) w := by kernel_rfl
theorem isNilPtr (a p : Addr) (W : World) (ha : W.cell? a = some (.pointer (some p))) :
    (ReflectliteValue.method (ReflectliteValue.valueError "reflectlite.Value.IsNil" 0) ReflectliteValue.isNil #[.agg #[hdl 48, .pointer (some a), .int .u64 150]]).run Tryd.prog W = .ok (.bool false) W := by
  show (bind (ReflectliteValue.parts (.agg #[hdl 48, .pointer (some a), .int .u64 150])) _ : Sem Value).run _ _ = _
  rw [Sem.run_bind, partsPtr, Result.andThen_ok]
  simp [ReflectliteValue.isNil, loadVar, isAgg, underlying, Tryd.underlying48, ha, Result.andThen]

theorem methodElem (h : Value) (w : World) : (Go.method 258 73 (.agg #[h]) "Elem").run Tryd.prog w = .ok (109, .agg #[h]) w := by kernel_rfl
theorem methodImplements (h : Value) (w : World) : (Go.method 258 73 (.agg #[h]) "Implements").run Tryd.prog w = .ok (110, .agg #[h]) w := by kernel_rfl
theorem methodAssignableTo (h : Value) (w : World) : (Go.method 258 73 (.agg #[h]) "AssignableTo").run Tryd.prog w = .ok (107, .agg #[h]) w := by kernel_rfl
theorem methodComparable (h : Value) (w : World) : (Go.method 258 73 (.agg #[h]) "Comparable").run Tryd.prog w = .ok (108, .agg #[h]) w := by kernel_rfl
theorem elemPtr (w : World) : (ReflectliteType.method ReflectliteType.elem #[.agg #[hdl 48]]).run Tryd.prog w = .ok (.iface 73 (.agg #[hdl 46])) w := by kernel_rfl
theorem implementsFault (w : World) : (ReflectliteType.relation "Implements" ReflectliteType.implements_ #[.agg #[hdl 46], handleV]).run Tryd.prog w = .ok (.bool true) w := by kernel_rfl
theorem typeOfFault (v : Value) (w : World) : (ReflectliteType.typeOf #[.iface 46 v]).run Tryd.prog w = .ok (.iface 73 (.agg #[hdl 46])) w := by kernel_rfl
theorem assignableFault (w : World) : (ReflectliteType.relation "AssignableTo" ReflectliteType.assignableTo #[.agg #[hdl 46], .iface 73 (.agg #[hdl 46])]).run Tryd.prog w = .ok (.bool true) w := by kernel_rfl
theorem valueOfFault (p : Int) (a : Addr) (w : World) : (ReflectliteValue.unpack (faultV p a)).run Tryd.prog w
    = .ok (.agg #[hdl 46, .pointer (some ⟨w.heap.size, 0, none⟩), .int .u64 153]) (w.alloc (.cells (faultA p a) 46)) := by kernel_rfl
theorem elemOfPtr (w : World) : (Rtype.elem? 48).run Tryd.prog w = .ok (some 46) w := by kernel_rfl
theorem mkFault (p : Addr) (w : World) : (ReflectliteValue.mk 46 p ReflectliteValue.flagAddr).run Tryd.prog w = .ok (.agg #[hdl 46, .pointer (some p), .int .u64 409]) w := by kernel_rfl
theorem elemV (a p : Addr) (W : World) (ha : W.cell? a = some (.pointer (some p))) :
    (ReflectliteValue.method (ReflectliteValue.valueError "reflectlite.Value.Elem" 0) ReflectliteValue.elem #[.agg #[hdl 48, .pointer (some a), .int .u64 150]]).run Tryd.prog W
      = .ok (.agg #[hdl 46, .pointer (some p), .int .u64 409]) W := by
  show (bind (ReflectliteValue.parts (.agg #[hdl 48, .pointer (some a), .int .u64 150])) _ : Sem Value).run _ _ = _
  rw [Sem.run_bind, partsPtr, Result.andThen_ok]
  simp [ReflectliteValue.elem, loadVar, isAgg, underlying, Tryd.underlying48, ha, Result.andThen, elemOfPtr, mkFault]
theorem partsDst (a : Addr) (w : World) : (ReflectliteValue.parts (.agg #[hdl 46, .pointer (some a), .int .u64 409])).run Tryd.prog w = .ok (some (46, a, 409)) w := by kernel_rfl
theorem partsSrc (a : Addr) (w : World) : (ReflectliteValue.parts (.agg #[hdl 46, .pointer (some a), .int .u64 153])).run Tryd.prog w = .ok (some (46, a, 153)) w := by kernel_rfl
theorem directFault (w : World) : (Rtype.directlyAssignable 46 46).run Tryd.prog w = .ok true w := by kernel_rfl
theorem sizeFault (w : World) : (sizeOf 46).run Tryd.prog w = .ok 2 w := by kernel_rfl
theorem aggFault (w : World) : (isAgg 46).run Tryd.prog w = .ok true w := by kernel_rfl
theorem loadFault {sb : Nat} {p : Int} {a : Addr} {ts : TypeId} {W : World} (hs : IsRow W sb ts (faultA p a)) :
    (loadVar 46 ⟨sb, 0, none⟩).run Tryd.prog W = .ok (.agg (faultA p a)) W := by
  have hl : (loadCells ⟨sb, 0, none⟩ 2).run Tryd.prog W = .ok (faultA p a) W := run_loadCells_list (P := Tryd.prog) W ⟨sb, 0, none⟩ [.int .i64 p, newV a] (fun j v hj => by
    rw [show (⟨sb, 0, none⟩ : Addr).add j = ⟨sb, j, none⟩ from by simp [Addr.add]; exact fun h => h.symm, hs.cell j]
    match j, hj with
    | 0, hj => exact hj
    | 1, hj => exact hj
    | j + 2, hj => simp at hj)
  unfold loadVar
  simp only [Sem.run_bind, aggFault, sizeFault, hl, Result.andThen_ok, if_true, Sem.run_pure]
theorem storeFault {tb : Nat} {p : Int} {a : Addr} {tt : TypeId} {o0 o1 : Value} {W : World} (ht : IsRow W tb tt #[o0, o1]) :
    (storeVar 46 ⟨tb, 0, none⟩ (.agg (faultA p a))).run Tryd.prog W = .ok () ((W.setCell ⟨tb, 0, none⟩ (.int .i64 p)).setCell ⟨tb, 1, none⟩ (newV a)) := by
  have t0 : W.cell? ⟨tb, 0, none⟩ = some o0 := ht.cell 0
  have f0 : W.frozen? ⟨tb, 0, none⟩ = false := ht.free 0
  have t1 : (W.setCell ⟨tb, 0, none⟩ (.int .i64 p)).cell? ⟨tb, 1, none⟩ = some o1 := (ht.set 0 _).cell 1
  have f1 : (W.setCell ⟨tb, 0, none⟩ (.int .i64 p)).frozen? ⟨tb, 1, none⟩ = false := (ht.set 0 _).free 1
  have e0 : (store ⟨tb, 0, none⟩ (.int .i64 p)).run Tryd.prog W = .ok () (W.setCell ⟨tb, 0, none⟩ (.int .i64 p)) := by
    rw [run_store Tryd.prog W _ _ _ (by rfl)]; simp [t0, f0]
  have e1 : (store ⟨tb, 1, none⟩ (newV a)).run Tryd.prog (W.setCell ⟨tb, 0, none⟩ (.int .i64 p)) = .ok () ((W.setCell ⟨tb, 0, none⟩ (.int .i64 p)).setCell ⟨tb, 1, none⟩ (newV a)) := by
    rw [run_store Tryd.prog _ _ _ _ (by rfl)]; simp [t1, f1]
  have hs : (storeCells ⟨tb, 0, none⟩ [.int .i64 p, newV a]).run Tryd.prog W = .ok () ((W.setCell ⟨tb, 0, none⟩ (.int .i64 p)).setCell ⟨tb, 1, none⟩ (newV a)) := by
    show (do store ⟨tb, 0, none⟩ (.int .i64 p); (do store ⟨tb, 1, none⟩ (newV a); pure ())).run Tryd.prog W = _
    simp only [Sem.run_bind, e0, e1, Result.andThen_ok, Sem.run_pure]
  have h2 : ¬ (Value.agg (faultA p a)).cells.size ≠ 2 := fun h => h rfl
  unfold storeVar
  simp only [Sem.run_bind, sizeFault, Result.andThen_ok]
  simp only [if_neg h2]
  exact hs
theorem setFault (tb sb : Nat) (p : Int) (a : Addr) (tt ts : TypeId) (o0 o1 : Value) (W : World) (hs : IsRow W sb ts (faultA p a)) (ht : IsRow W tb tt #[o0, o1]) :
    (ReflectliteValue.set #[.agg #[hdl 46, .pointer (some ⟨tb, 0, none⟩), .int .u64 409], .agg #[hdl 46, .pointer (some ⟨sb, 0, none⟩), .int .u64 153]]).run Tryd.prog W
      = .ok (.tuple #[]) ((W.setCell ⟨tb, 0, none⟩ (.int .i64 p)).setCell ⟨tb, 1, none⟩ (newV a)) := by
  have hl := loadFault hs
  have hst := storeFault (p := p) (a := a) ht
  show (bind (ReflectliteValue.parts (.agg #[hdl 46, .pointer (some ⟨tb, 0, none⟩), .int .u64 409])) _ : Sem Value).run _ _ = _
  rw [Sem.run_bind, partsDst, Result.andThen_ok]
  show (bind (ReflectliteValue.parts (.agg #[hdl 46, .pointer (some ⟨sb, 0, none⟩), .int .u64 153])) _ : Sem Value).run _ _ = _
  rw [Sem.run_bind, partsSrc, Result.andThen_ok]
  simp [ReflectliteValue.flagAddr, hl, hst, Result.andThen, directFault]

set_option maxHeartbeats 4000000 in
/-- errors.As of a fault, at a variable of its type: found, and laid there -/
theorem as_hit (tb : Nat) (p : Int) (a : Addr) (tt : TypeId) (o0 o1 : Value) (w : World) (hg : w.cell? ⟨3, 0, none⟩ = some handleV) (ht : IsRow w tb tt #[o0, o1]) :
    Calls Tryd.prog 18 #[faultV p a, .iface 48 (.pointer (some ⟨tb, 0, none⟩))] w fun ev w' => ev = .returned (.bool true) ∧ IsRow w' tb tt (faultA p a) ∧ Below tb w w' := by
  have h51 := @run_callFunc_extern Tryd.prog 30 _ (fun args => ReflectliteValue.unpack (args.getD 0 (.tuple #[]))) Tryd.func30 (by kernel_rfl) (by kernel_rfl) (by kernel_rfl) (by kernel_rfl)
  have h52 := @run_callFunc_extern Tryd.prog 31 _ (ReflectliteValue.methodAny (ReflectliteValue.valueError "reflectlite.Value.Type" 0) (fun t _ _ _ => ReflectliteType.toType t)) Tryd.func31 (by kernel_rfl) (by kernel_rfl) (by kernel_rfl) (by kernel_rfl)
  have h53 := @run_callFunc_extern Tryd.prog 32 _ (ReflectliteValue.method (ReflectliteValue.valueError "reflectlite.Value.IsNil" 0) ReflectliteValue.isNil) Tryd.func32 (by kernel_rfl) (by kernel_rfl) (by kernel_rfl) (by kernel_rfl)
  have hK := @run_callFunc_extern Tryd.prog 98 _ (ReflectliteType.abiMethod fun t => do pure (.int .u8 (← Rtype.kind t))) Tryd.func98 (by kernel_rfl) (by kernel_rfl) (by kernel_rfl) (by kernel_rfl)
  have hE := @run_callFunc_extern Tryd.prog 109 _ (ReflectliteType.method ReflectliteType.elem) Tryd.func109 (by kernel_rfl) (by kernel_rfl) (by kernel_rfl) (by kernel_rfl)
  have hI := @run_callFunc_extern Tryd.prog 110 _ (ReflectliteType.relation "Implements" ReflectliteType.implements_) Tryd.func110 (by kernel_rfl) (by kernel_rfl) (by kernel_rfl) (by kernel_rfl)
  have h55 := @run_callFunc_extern Tryd.prog 28 _ ReflectliteType.typeOf Tryd.func28 (by kernel_rfl) (by kernel_rfl) (by kernel_rfl) (by kernel_rfl)
  have hA := @run_callFunc_extern Tryd.prog 107 _ (ReflectliteType.relation "AssignableTo" ReflectliteType.assignableTo) Tryd.func107 (by kernel_rfl) (by kernel_rfl) (by kernel_rfl) (by kernel_rfl)
  have h66 := @run_callFunc_extern Tryd.prog 44 _ (ReflectliteValue.method (ReflectliteValue.valueError "reflectlite.Value.Elem" 0) ReflectliteValue.elem) Tryd.func44 (by kernel_rfl) (by kernel_rfl) (by kernel_rfl) (by kernel_rfl)
  have h67 := @run_callFunc_extern Tryd.prog 45 _ ReflectliteValue.set Tryd.func45 (by kernel_rfl) (by kernel_rfl) (by kernel_rfl) (by kernel_rfl)
  have tO := typeOfFault
  have mA := methodAssignableTo
  have aF := assignableFault
  have vF := valueOfFault
  have vP := valueOfPtr
  have tP := typePtr
  have mK := methodKind
  have mE := methodElem
  have mI := methodImplements
  have kP := kindPtr
  have kF := kindFault
  have eP := elemPtr
  have iF := implementsFault
  have hlt := World.block_lt_of_cell? w _ hg
  have htl := ht.lt
  have n8 := isNilPtr ⟨w.heap.size, 0, none⟩ ⟨tb, 0, none⟩ ((w.alloc (.cells #[.pointer (some ⟨tb, 0, none⟩)] 48)).alloc (.cells #[hdl 48, .pointer (some ⟨w.heap.size, 0, none⟩), .int .u64 150] 60)) (by simp)
  have hg2 : ((w.alloc (.cells #[.pointer (some ⟨tb, 0, none⟩)] 48)).alloc (.cells #[hdl 48, .pointer (some ⟨w.heap.size, 0, none⟩), .int .u64 150] 60)).cell? ⟨3, 0, none⟩ = some handleV := by
    rw [World.cell?_alloc_lt _ _ ⟨3, 0, none⟩ (Nat.lt_of_lt_of_le hlt (by simp)), World.cell?_alloc_lt _ _ ⟨3, 0, none⟩ hlt]; exact hg
  have el := elemV ⟨w.heap.size, 0, none⟩ ⟨tb, 0, none⟩ (((w.alloc (.cells #[.pointer (some ⟨tb, 0, none⟩)] 48)).alloc (.cells #[hdl 48, .pointer (some ⟨w.heap.size, 0, none⟩), .int .u64 150] 60)).alloc (.cells #[hdl 48, .pointer (some ⟨w.heap.size, 0, none⟩), .int .u64 150] 60)) (by rw [World.cell?_alloc_lt _ _ ⟨w.heap.size, 0, none⟩ (by simp; omega)]; simp)
  have hrow := (((ht.alloc (.cells #[.pointer (some ⟨tb, 0, none⟩)] 48)).alloc (.cells #[hdl 48, .pointer (some ⟨w.heap.size, 0, none⟩), .int .u64 150] 60)).alloc (.cells #[hdl 48, .pointer (some ⟨w.heap.size, 0, none⟩), .int .u64 150] 60)).alloc (.cells (faultA p a) 46)
  have st := setFault tb (w.heap.size + 1 + 1 + 1) p a tt 46 o0 o1 ((((w.alloc (.cells #[.pointer (some ⟨tb, 0, none⟩)] 48)).alloc (.cells #[hdl 48, .pointer (some ⟨w.heap.size, 0, none⟩), .int .u64 150] 60)).alloc (.cells #[hdl 48, .pointer (some ⟨w.heap.size, 0, none⟩), .int .u64 150] 60)).alloc (.cells (faultA p a) 46))
    (by have := IsRow.made (((w.alloc (.cells #[.pointer (some ⟨tb, 0, none⟩)] 48)).alloc (.cells #[hdl 48, .pointer (some ⟨w.heap.size, 0, none⟩), .int .u64 150] 60)).alloc (.cells #[hdl 48, .pointer (some ⟨w.heap.size, 0, none⟩), .int .u64 150] 60)) 46 (faultA p a); simpa using this) hrow
  go_enter Tryd.func18, Tryd.ntmps18
  go_wp2
  refine wp_loop_rounds 1 ?_
  rw [rounds_succ]
  go_wp2
  go_ret
  refine ⟨rfl, (hrow.set 0 _).set 1 _, ?_⟩
  have q1 : ∀ o, Below tb w (w.alloc o) := fun o => (Below.refl tb w).alloc (by omega) o
  have q2 : ∀ o1 o2, Below tb w ((w.alloc o1).alloc o2) := fun o1 o2 => (q1 o1).alloc (by simp; omega) o2
  have q3 : ∀ o1 o2 o3, Below tb w (((w.alloc o1).alloc o2).alloc o3) := fun o1 o2 o3 => (q2 o1 o2).alloc (by simp; omega) o3
  have q4 : ∀ o1 o2 o3 o4, Below tb w ((((w.alloc o1).alloc o2).alloc o3).alloc o4) := fun o1 o2 o3 o4 => (q3 o1 o2 o3).alloc (by simp; omega) o4
  exact ((q4 _ _ _ _).setCell (Nat.le_refl _) _).setCell (Nat.le_refl _) _

theorem isTypeOf (v : Value) (w : World) : (ReflectliteType.typeOf #[.iface 125 v]).run Tryd.prog w = .ok (.iface 73 (.agg #[hdl 125])) w := by kernel_rfl
/-- the model's entry at (rtype).Comparable: an error of errors.New's make can be compared -/
theorem cmp_entry : ∃ m, Extern.find Tryd.f108 = some m ∧ ∀ w, (m #[.agg #[hdl 125]]).run Tryd.prog w = .ok (.bool true) w :=
  ⟨(Extern.find Tryd.f108).get (by kernel_rfl), (Option.some_get _).symm, fun w => by kernel_rfl⟩
theorem isComp : (Tryd.prog.info? 125).map (·.comparable) = some true := by kernel_rfl
theorem isSize : (Tryd.prog.info? 146).map (·.size) = some 1 := by kernel_rfl
theorem noIsE (v : Value) (xT : TypeId) (w : World) : (Instr.typeAssert (.iface 125 v) xT 75 true).run Tryd.prog w = .ok (.tuple #[.nilIface, .bool false]) w := run_typeAssert_lacksB Tryd.underlying75 (by kernel_rfl) (by kernel_rfl) v xT w
theorem noUnwrapE (v : Value) (xT : TypeId) (w : World) : (Instr.typeAssert (.iface 125 v) xT 78 true).run Tryd.prog w = .ok (.tuple #[.nilIface, .bool false]) w := run_typeAssert_lacksB Tryd.underlying78 (by kernel_rfl) (by kernel_rfl) v xT w
theorem noUnwrapsE (v : Value) (xT : TypeId) (w : World) : (Instr.typeAssert (.iface 125 v) xT 80 true).run Tryd.prog w = .ok (.tuple #[.nilIface, .bool false]) w := run_typeAssert_lacksB Tryd.underlying80 (by kernel_rfl) (by kernel_rfl) v xT w
theorem noIsF (v : Value) (xT : TypeId) (w : World) : (Instr.typeAssert (.iface 46 v) xT 75 true).run Tryd.prog w = .ok (.tuple #[.nilIface, .bool false]) w := run_typeAssert_lacksB Tryd.underlying75 (by kernel_rfl) (by kernel_rfl) v xT w
theorem hasUnwrapF (v : Value) (xT : TypeId) (w : World) : (Instr.typeAssert (.iface 46 v) xT 78 true).run Tryd.prog w = .ok (.tuple #[.iface 46 v, .bool true]) w := run_typeAssert_hasB Tryd.underlying78 (by kernel_rfl) v xT w
theorem methodUnwrap (v : Value) (w : World) : (Go.method 258 46 v "Unwrap").run Tryd.prog w = .ok (102, v) w := by kernel_rfl

set_option maxHeartbeats 1000000 in
theorem unwrap_any (p : Int) (a : Addr) (w : World) :
    Calls Tryd.prog 102 #[.agg (faultA p a)] w fun e w' => e = .returned (newV a) ∧ Below w.heap.size w w' := by
  go_enter Tryd.func102, Tryd.ntmps102
  go_wp2
  go_ret
  exact ⟨rfl, (Below.refl _ _).alloc (Nat.le_refl _) _⟩

set_option maxHeartbeats 4000000 in
theorem is_same (p : Int) (a : Addr) (w : World) :
    Calls Tryd.prog 16 #[faultV p a, newV a] w fun e w' => e = .returned (.bool true) ∧ Below w.heap.size w w' := by
  obtain ⟨i, hi, hcmp⟩ := Option.map_eq_some_iff.1 isComp
  obtain ⟨j, hj, hjs⟩ := Option.map_eq_some_iff.1 isSize
  have h55 := @run_callFunc_extern Tryd.prog 28 _ ReflectliteType.typeOf Tryd.func28 (by kernel_rfl) (by kernel_rfl) (by kernel_rfl) (by kernel_rfl)
  obtain ⟨m, hm, cT⟩ := cmp_entry
  have hC := @run_callFunc_extern Tryd.prog 108 _ m Tryd.func108 (by kernel_rfl) (by kernel_rfl) (by kernel_rfl) hm
  have tT := isTypeOf
  have mR := methodComparable
  have nE := noIsE
  have uE := noUnwrapE
  have vE := noUnwrapsE
  have nW := noIsF
  have uW := hasUnwrapF
  have mU := methodUnwrap
  have hty := run_eql_iface_types (P := Tryd.prog) 46 125 (.agg (faultA p a)) (.pointer (some a)) Tryd.underlying32 (by decide) w
  have heq := run_eql_iface_ptr_same (P := Tryd.prog) (w.alloc (.cells (faultA p a) 46)) a Tryd.underlying32 Tryd.underlying125 hi hcmp hj
  go_enter Tryd.func16, Tryd.ntmps16
  go_wp2
  refine wp_loop_rounds 2 ?_
  rw [rounds_succ]
  go_wp2
  rw [rounds_succ]
  go_wp2
  go_ret
  exact ⟨rfl, (Below.refl _ _).alloc (Nat.le_refl _) _⟩

set_option maxHeartbeats 4000000 in
theorem is_other (p : Int) (a b : Addr) (w : World) (hne : a ≠ b) (hA : ∃ c t, w.heap[a.block]? = some (.cells c t (0, 0))) (hB : ∃ c t, w.heap[b.block]? = some (.cells c t (0, 0))) :
    Calls Tryd.prog 16 #[faultV p a, newV b] w fun e w' => e = .returned (.bool false) ∧ Below w.heap.size w w' := by
  obtain ⟨ca, ta, hA⟩ := hA
  obtain ⟨cb, tb, hB⟩ := hB
  have hA' := block_below hA ((Below.refl w.heap.size w).alloc (Nat.le_refl _) (.cells (faultA p a) 46))
  have hB' := block_below hB ((Below.refl w.heap.size w).alloc (Nat.le_refl _) (.cells (faultA p a) 46))
  obtain ⟨i, hi, hcmp⟩ := Option.map_eq_some_iff.1 isComp
  obtain ⟨j, hj, hjs⟩ := Option.map_eq_some_iff.1 isSize
  have h55 := @run_callFunc_extern Tryd.prog 28 _ ReflectliteType.typeOf Tryd.func28 (by kernel_rfl) (by kernel_rfl) (by kernel_rfl) (by kernel_rfl)
  obtain ⟨m, hm, cT⟩ := cmp_entry
  have hC := @run_callFunc_extern Tryd.prog 108 _ m Tryd.func108 (by kernel_rfl) (by kernel_rfl) (by kernel_rfl) hm
  have tT := isTypeOf
  have mR := methodComparable
  have nE := noIsE
  have uE := noUnwrapE
  have vE := noUnwrapsE
  have nW := noIsF
  have uW := hasUnwrapF
  have mU := methodUnwrap
  have hty := run_eql_iface_types (P := Tryd.prog) 46 125 (.agg (faultA p a)) (.pointer (some b)) Tryd.underlying32 (by decide) w
  have heq := run_eql_iface_ptr_other (P := Tryd.prog) (w.alloc (.cells (faultA p a) 46)) Tryd.underlying32 Tryd.underlying125 hi hcmp hj (by rw [hjs]; decide) hne hA' hB'
  clear hA hB hA' hB'
  go_enter Tryd.func16, Tryd.ntmps16
  go_wp2
  refine wp_loop_rounds 2 ?_
  rw [rounds_succ]
  go_wp2
  rw [rounds_succ]
  go_wp2
  go_ret
  exact ⟨rfl, (Below.refl _ _).alloc (Nat.le_refl _) _⟩

#print axioms as_hit
#print axioms is_same
#print axioms is_other
end Go.Proofs.YtmodmfkcigibpaaDoor.Co
