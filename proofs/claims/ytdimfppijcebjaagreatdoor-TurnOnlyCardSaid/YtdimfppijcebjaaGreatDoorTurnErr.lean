/- errors.As and errors.Is at the errors of package turn, by contracts: Go's own text is walked. A fault is found by errors.As as it is; errors.Is finds in it the error that it wraps. -/
import Derived.Test.YtdimfppijcebjaaGreatDoorEnv
import Derived.Test.YtdimfppijcebjaaGreatDoorBlocks
import Derived.WalkKit
import Derived.WalkMore
import Derived.LaidEql
import Derived.Stop.Asserts
import Derived.RowKitTokens
namespace Go.Proofs.YtdimfppijcebjaaGreatDoor.Tu
open Go Go.RowKit Go.Extern.Stop Go.Stop Go.Extern Go.Proofs.YtdimfppijcebjaaGreatDoor

/-- a fault's two cells -/
abbrev faultA (p : ByteArray) (a : Addr) : Array Value := #[.string p, newV a]
/-- a fault as an error -/
abbrev faultV (p : ByteArray) (a : Addr) : Value := .iface 76 (.agg (faultA p a))
/-- the handle of a type -/
abbrev hdl (t : Nat) : Value := .pointer (some ⟨15, t, none⟩)

theorem as_nil (t : Value) (w : World) :
    Calls Tryz.prog 70 #[.nilIface, t] w fun e w' => e = .returned (.bool false) ∧ w' = w := by
  go_enter Tryz.func70, Tryz.ntmps70
  go_wp2
  go_ret
  exact ⟨rfl, rfl⟩

/-! closed facts on the model's entries for internal/reflectlite -/
theorem valueOfPtr (t : Addr) (w : World) : (ReflectliteValue.unpack (.iface 103 (.pointer (some t)))).run Tryz.prog w
    = .ok (.agg #[hdl 103, .pointer (some ⟨w.heap.size, 0, none⟩), .int .u64 150]) (w.alloc (.cells #[.pointer (some t)] 103)) := by kernel_rfl
theorem typePtr (a : Addr) (w : World) : (ReflectliteValue.methodAny (ReflectliteValue.valueError "reflectlite.Value.Type" 0) (fun t _ _ _ => ReflectliteType.toType t) #[.agg #[hdl 103, .pointer (some a), .int .u64 150]]).run Tryz.prog w
    = .ok (.iface 145 (.agg #[hdl 103])) w := by kernel_rfl
theorem methodKind (h : Value) (w : World) : (Go.method 332 145 (.agg #[h]) "Kind").run Tryz.prog w = .ok (163, h) w := by kernel_rfl
theorem kindPtr (w : World) : ((ReflectliteType.abiMethod fun t => (fun a : Nat => Value.int IntKind.u8 (a : Int)) <$> Rtype.kind t) #[hdl 103]).run Tryz.prog w = .ok (.int .u8 22) w := by kernel_rfl
theorem kindFault (w : World) : ((ReflectliteType.abiMethod fun t => (fun a : Nat => Value.int IntKind.u8 (a : Int)) <$> Rtype.kind t) #[hdl 76]).run Tryz.prog w = .ok (.int .u8 25) w := by kernel_rfl

theorem partsPtr (a : Addr) (w : World) : (ReflectliteValue.parts (.agg #[hdl 103, .pointer (some a), .int .u64 150])).run Tryz.prog w = .ok (some (103, a, 150)) w := by kernel_rfl
theorem isNilPtr (a p : Addr) (W : World) (ha : W.cell? a = some (.pointer (some p))) :
    (ReflectliteValue.method (ReflectliteValue.valueError "reflectlite.Value.IsNil" 0) ReflectliteValue.isNil #[.agg #[hdl 103, .pointer (some a), .int .u64 150]]).run Tryz.prog W = .ok (.bool false) W := by
  show (bind (ReflectliteValue.parts (.agg #[hdl 103, .pointer (some a), .int .u64 150])) _ : Sem Value).run _ _ = _
  rw [Sem.run_bind, partsPtr, Result.andThen_ok]
  simp [ReflectliteValue.isNil, loadVar, isAgg, underlying, Tryz.underlying103, ha, Result.andThen]

theorem methodElem (h : Value) (w : World) : (Go.method 332 145 (.agg #[h]) "Elem").run Tryz.prog w = .ok (177, .agg #[h]) w := by kernel_rfl
theorem methodImplements (h : Value) (w : World) : (Go.method 332 145 (.agg #[h]) "Implements").run Tryz.prog w = .ok (178, .agg #[h]) w := by kernel_rfl
theorem methodAssignableTo (h : Value) (w : World) : (Go.method 332 145 (.agg #[h]) "AssignableTo").run Tryz.prog w = .ok (175, .agg #[h]) w := by kernel_rfl
theorem methodComparable (h : Value) (w : World) : (Go.method 332 145 (.agg #[h]) "Comparable").run Tryz.prog w = .ok (176, .agg #[h]) w := by kernel_rfl
theorem elemPtr (w : World) : (ReflectliteType.method ReflectliteType.elem #[.agg #[hdl 103]]).run Tryz.prog w = .ok (.iface 145 (.agg #[hdl 76])) w := by kernel_rfl
theorem implementsFault (w : World) : (ReflectliteType.relation "Implements" ReflectliteType.implements_ #[.agg #[hdl 76], handleV]).run Tryz.prog w = .ok (.bool true) w := by kernel_rfl
theorem typeOfFault (v : Value) (w : World) : (ReflectliteType.typeOf #[.iface 76 v]).run Tryz.prog w = .ok (.iface 145 (.agg #[hdl 76])) w := by kernel_rfl
theorem assignableFault (w : World) : (ReflectliteType.relation "AssignableTo" ReflectliteType.assignableTo #[.agg #[hdl 76], .iface 145 (.agg #[hdl 76])]).run Tryz.prog w = .ok (.bool true) w := by kernel_rfl
theorem valueOfFault (p : ByteArray) (a : Addr) (w : World) : (ReflectliteValue.unpack (faultV p a)).run Tryz.prog w
    = .ok (.agg #[hdl 76, .pointer (some ⟨w.heap.size, 0, none⟩), .int .u64 153]) (w.alloc (.cells (faultA p a) 76)) := by kernel_rfl
theorem elemOfPtr (w : World) : (Rtype.elem? 103).run Tryz.prog w = .ok (some 76) w := by kernel_rfl
theorem mkFault (p : Addr) (w : World) : (ReflectliteValue.mk 76 p ReflectliteValue.flagAddr).run Tryz.prog w = .ok (.agg #[hdl 76, .pointer (some p), .int .u64 409]) w := by kernel_rfl
theorem elemV (a p : Addr) (W : World) (ha : W.cell? a = some (.pointer (some p))) :
    (ReflectliteValue.method (ReflectliteValue.valueError "reflectlite.Value.Elem" 0) ReflectliteValue.elem #[.agg #[hdl 103, .pointer (some a), .int .u64 150]]).run Tryz.prog W
      = .ok (.agg #[hdl 76, .pointer (some p), .int .u64 409]) W := by
  show (bind (ReflectliteValue.parts (.agg #[hdl 103, .pointer (some a), .int .u64 150])) _ : Sem Value).run _ _ = _
  rw [Sem.run_bind, partsPtr, Result.andThen_ok]
  simp [ReflectliteValue.elem, loadVar, isAgg, underlying, Tryz.underlying103, ha, Result.andThen, elemOfPtr, mkFault]
theorem partsDst (a : Addr) (w : World) : (ReflectliteValue.parts (.agg #[hdl 76, .pointer (some a), .int .u64 409])).run Tryz.prog w = .ok (some (76, a, 409)) w := by kernel_rfl
theorem partsSrc (a : Addr) (w : World) : (ReflectliteValue.parts (.agg #[hdl 76, .pointer (some a), .int .u64 153])).run Tryz.prog w = .ok (some (76, a, 153)) w := by kernel_rfl
theorem directFault (w : World) : (Rtype.directlyAssignable 76 76).run Tryz.prog w = .ok true w := by kernel_rfl
theorem sizeFault (w : World) : (sizeOf 76).run Tryz.prog w = .ok 2 w := by kernel_rfl
theorem aggFault (w : World) : (isAgg 76).run Tryz.prog w = .ok true w := by kernel_rfl
theorem loadFault {sb : Nat} {p : ByteArray} {a : Addr} {ts : TypeId} {W : World} (hs : IsRow W sb ts (faultA p a)) :
    (loadVar 76 ⟨sb, 0, none⟩).run Tryz.prog W = .ok (.agg (faultA p a)) W := by
  have hl : (loadCells ⟨sb, 0, none⟩ 2).run Tryz.prog W = .ok (faultA p a) W := run_loadCells_list (P := Tryz.prog) W ⟨sb, 0, none⟩ [.string p, newV a] (fun j v hj => by
    rw [show (⟨sb, 0, none⟩ : Addr).add j = ⟨sb, j, none⟩ from by simp [Addr.add]; exact fun h => h.symm, hs.cell j]
    match j, hj with
    | 0, hj => exact hj
    | 1, hj => exact hj
    | j + 2, hj => simp at hj)
  unfold loadVar
  simp only [Sem.run_bind, aggFault, sizeFault, hl, Result.andThen_ok, if_true, Sem.run_pure]
theorem storeFault {tb : Nat} {p : ByteArray} {a : Addr} {tt : TypeId} {o0 o1 : Value} {W : World} (ht : IsRow W tb tt #[o0, o1]) :
    (storeVar 76 ⟨tb, 0, none⟩ (.agg (faultA p a))).run Tryz.prog W = .ok () ((W.setCell ⟨tb, 0, none⟩ (.string p)).setCell ⟨tb, 1, none⟩ (newV a)) := by
  have t0 : W.cell? ⟨tb, 0, none⟩ = some o0 := ht.cell 0
  have f0 : W.frozen? ⟨tb, 0, none⟩ = false := ht.free 0
  have t1 : (W.setCell ⟨tb, 0, none⟩ (.string p)).cell? ⟨tb, 1, none⟩ = some o1 := (ht.set 0 _).cell 1
  have f1 : (W.setCell ⟨tb, 0, none⟩ (.string p)).frozen? ⟨tb, 1, none⟩ = false := (ht.set 0 _).free 1
  have e0 : (store ⟨tb, 0, none⟩ (.string p)).run Tryz.prog W = .ok () (W.setCell ⟨tb, 0, none⟩ (.string p)) := by
    rw [run_store Tryz.prog W _ _ _ (by rfl)]; simp [t0, f0]
  have e1 : (store ⟨tb, 1, none⟩ (newV a)).run Tryz.prog (W.setCell ⟨tb, 0, none⟩ (.string p)) = .ok () ((W.setCell ⟨tb, 0, none⟩ (.string p)).setCell ⟨tb, 1, none⟩ (newV a)) := by
    rw [run_store Tryz.prog _ _ _ _ (by rfl)]; simp [t1, f1]
  have hs : (storeCells ⟨tb, 0, none⟩ [.string p, newV a]).run Tryz.prog W = .ok () ((W.setCell ⟨tb, 0, none⟩ (.string p)).setCell ⟨tb, 1, none⟩ (newV a)) := by
    show (do store ⟨tb, 0, none⟩ (.string p); (do store ⟨tb, 1, none⟩ (newV a); pure ())).run Tryz.prog W = _
    simp only [Sem.run_bind, e0, e1, Result.andThen_ok, Sem.run_pure]
  have h2 : ¬ (Value.agg (faultA p a)).cells.size ≠ 2 := fun h => h rfl
  unfold storeVar
  simp only [Sem.run_bind, sizeFault, Result.andThen_ok]
  simp only [if_neg h2]
  exact hs
theorem setFault (tb sb : Nat) (p : ByteArray) (a : Addr) (tt ts : TypeId) (o0 o1 : Value) (W : World) (hs : IsRow W sb ts (faultA p a)) (ht : IsRow W tb tt #[o0, o1]) :
    (ReflectliteValue.set #[.agg #[hdl 76, .pointer (some ⟨tb, 0, none⟩), .int .u64 409], .agg #[hdl 76, .pointer (some ⟨sb, 0, none⟩), .int .u64 153]]).run Tryz.prog W
      = .ok (.tuple #[]) ((W.setCell ⟨tb, 0, none⟩ (.string p)).setCell ⟨tb, 1, none⟩ (newV a)) := by
  have hl := loadFault hs
  have hst := storeFault (p := p) (a := a) ht
  show (bind (ReflectliteValue.parts (.agg #[hdl 76, .pointer (some ⟨tb, 0, none⟩), .int .u64 409])) _ : Sem Value).run _ _ = _
  rw [Sem.run_bind, partsDst, Result.andThen_ok]
  show (bind (ReflectliteValue.parts (.agg #[hdl 76, .pointer (some ⟨sb, 0, none⟩), .int .u64 153])) _ : Sem Value).run _ _ = _
  rw [Sem.run_bind, partsSrc, Result.andThen_ok]
  simp [ReflectliteValue.flagAddr, hl, hst, Result.andThen, directFault]

set_option maxHeartbeats 4000000 in
/-- errors.As of a fault, at a variable of its type: found, and laid there -/
theorem as_hit (tb : Nat) (p : ByteArray) (a : Addr) (tt : TypeId) (o0 o1 : Value) (w : World) (hg : w.cell? ⟨4, 0, none⟩ = some handleV) (ht : IsRow w tb tt #[o0, o1]) :
    Calls Tryz.prog 70 #[faultV p a, .iface 103 (.pointer (some ⟨tb, 0, none⟩))] w fun ev w' => ev = .returned (.bool true) ∧ IsRow w' tb tt (faultA p a) ∧ Below tb w w' := by
  have h51 := @run_callFunc_extern Tryz.prog 85 _ (fun args => ReflectliteValue.unpack (args.getD 0 (.tuple #[]))) Tryz.func85 (by kernel_rfl) (by kernel_rfl) (by kernel_rfl) (by kernel_rfl)
  have h52 := @run_callFunc_extern Tryz.prog 86 _ (ReflectliteValue.methodAny (ReflectliteValue.valueError "reflectlite.Value.Type" 0) (fun t _ _ _ => ReflectliteType.toType t)) Tryz.func86 (by kernel_rfl) (by kernel_rfl) (by kernel_rfl) (by kernel_rfl)
  have h53 := @run_callFunc_extern Tryz.prog 87 _ (ReflectliteValue.method (ReflectliteValue.valueError "reflectlite.Value.IsNil" 0) ReflectliteValue.isNil) Tryz.func87 (by kernel_rfl) (by kernel_rfl) (by kernel_rfl) (by kernel_rfl)
  have hK := @run_callFunc_extern Tryz.prog 163 _ (ReflectliteType.abiMethod fun t => do pure (.int .u8 (← Rtype.kind t))) Tryz.func163 (by kernel_rfl) (by kernel_rfl) (by kernel_rfl) (by kernel_rfl)
  have hE := @run_callFunc_extern Tryz.prog 177 _ (ReflectliteType.method ReflectliteType.elem) Tryz.func177 (by kernel_rfl) (by kernel_rfl) (by kernel_rfl) (by kernel_rfl)
  have hI := @run_callFunc_extern Tryz.prog 178 _ (ReflectliteType.relation "Implements" ReflectliteType.implements_) Tryz.func178 (by kernel_rfl) (by kernel_rfl) (by kernel_rfl) (by kernel_rfl)
  have h55 := @run_callFunc_extern Tryz.prog 89 _ ReflectliteType.typeOf Tryz.func89 (by kernel_rfl) (by kernel_rfl) (by kernel_rfl) (by kernel_rfl)
  have hA := @run_callFunc_extern Tryz.prog 175 _ (ReflectliteType.relation "AssignableTo" ReflectliteType.assignableTo) Tryz.func175 (by kernel_rfl) (by kernel_rfl) (by kernel_rfl) (by kernel_rfl)
  have h66 := @run_callFunc_extern Tryz.prog 107 _ (ReflectliteValue.method (ReflectliteValue.valueError "reflectlite.Value.Elem" 0) ReflectliteValue.elem) Tryz.func107 (by kernel_rfl) (by kernel_rfl) (by kernel_rfl) (by kernel_rfl)
  have h67 := @run_callFunc_extern Tryz.prog 108 _ ReflectliteValue.set Tryz.func108 (by kernel_rfl) (by kernel_rfl) (by kernel_rfl) (by kernel_rfl)
  have tO := typeOfFault
  have mA := methodAssignableTo
  have aF := assignableFault
  have vF := valueOfFault
  have vP := valueOfPtr
  have tP := typePtr
  have mK := methodKind
  have mE := methodElem
  have mI := methodImplements
  have kP := kindPtr
  have kF := kindFault
  have eP := elemPtr
  have iF := implementsFault
  have hlt := World.block_lt_of_cell? w _ hg
  have htl := ht.lt
  have n8 := isNilPtr ⟨w.heap.size, 0, none⟩ ⟨tb, 0, none⟩ ((w.alloc (.cells #[.pointer (some ⟨tb, 0, none⟩)] 103)).alloc (.cells #[hdl 103, .pointer (some ⟨w.heap.size, 0, none⟩), .int .u64 150] 120)) (by simp)
  have hg2 : ((w.alloc (.cells #[.pointer (some ⟨tb, 0, none⟩)] 103)).alloc (.cells #[hdl 103, .pointer (some ⟨w.heap.size, 0, none⟩), .int .u64 150] 120)).cell? ⟨4, 0, none⟩ = some handleV := by
    rw [World.cell?_alloc_lt _ _ ⟨4, 0, none⟩ (by simp at hlt ⊢; omega), World.cell?_alloc_lt _ _ ⟨4, 0, none⟩ hlt]; exact hg
  have el := elemV ⟨w.heap.size, 0, none⟩ ⟨tb, 0, none⟩ (((w.alloc (.cells #[.pointer (some ⟨tb, 0, none⟩)] 103)).alloc (.cells #[hdl 103, .pointer (some ⟨w.heap.size, 0, none⟩), .int .u64 150] 120)).alloc (.cells #[hdl 103, .pointer (some ⟨w.heap.size, 0, none⟩), .int .u64 150] 120)) (by rw [World.cell?_alloc_lt _ _ ⟨w.heap.size, 0, none⟩ (by simp; omega)]; simp)
  have hrow := (((ht.alloc (.cells #[.pointer (some ⟨tb, 0, none⟩)] 103)).alloc (.cells #[hdl 103, .pointer (some ⟨w.heap.size, 0, none⟩), .int .u64 150] 120)).alloc (.cells #[hdl 103, .pointer (some ⟨w.heap.size, 0, none⟩), .int .u64 150] 120)).alloc (.cells (faultA p a) 76)
  have st := setFault tb (w.heap.size + 1 + 1 + 1) p a tt 76 o0 o1 ((((w.alloc (.cells #[.pointer (some ⟨tb, 0, none⟩)] 103)).alloc (.cells #[hdl 103, .pointer (some ⟨w.heap.size, 0, none⟩), .int .u64 150] 120)).alloc (.cells #[hdl 103, .pointer (some ⟨w.heap.size, 0, none⟩), .int .u64 150] 120)).alloc (.cells (faultA p a) 76))
    (by have := IsRow.made (((w.alloc (.cells #[.pointer (some ⟨tb, 0, none⟩)] 103)).alloc (.cells #[hdl 103, .pointer (some ⟨w.heap.size, 0, none⟩), .int .u64 150] 120)).alloc (.cells #[hdl 103, .pointer (some ⟨w.heap.size, 0, none⟩), .int .u64 150] 120)) 76 (faultA p a); simpa using this) hrow
  go_enter Tryz.func70, Tryz.ntmps70
  go_wp2
  refine wp_loop_rounds 1 ?_
  rw [rounds_succ]
  go_wp2
  go_ret
  refine ⟨rfl, (hrow.set 0 _).set 1 _, ?_⟩
  have q1 : ∀ o, Below tb w (w.alloc o) := fun o => (Below.refl tb w).alloc (by omega) o
  have q2 : ∀ o1 o2, Below tb w ((w.alloc o1).alloc o2) := fun o1 o2 => (q1 o1).alloc (by simp; omega) o2
  have q3 : ∀ o1 o2 o3, Below tb w (((w.alloc o1).alloc o2).alloc o3) := fun o1 o2 o3 => (q2 o1 o2).alloc (by simp; omega) o3
  have q4 : ∀ o1 o2 o3 o4, Below tb w ((((w.alloc o1).alloc o2).alloc o3).alloc o4) := fun o1 o2 o3 o4 => (q3 o1 o2 o3).alloc (by simp; omega) o4
  exact ((q4 _ _ _ _).setCell (Nat.le_refl _) _).setCell (Nat.le_refl _) _

end Go.Proofs.YtdimfppijcebjaaGreatDoor.Tu
