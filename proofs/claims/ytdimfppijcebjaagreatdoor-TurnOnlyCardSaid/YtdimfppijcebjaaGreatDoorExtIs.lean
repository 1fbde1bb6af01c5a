/- errors.Is at a fault: it has no Is, it is unwrapped once, and what it wraps is the error that is asked for, or not; and the contract of ext.number. -/
import Derived.Test.YtdimfppijcebjaaGreatDoorExtErr
namespace Go.Proofs.YtdimfppijcebjaaGreatDoor.Ext
open Go Go.RowKit Go.Extern.Stop Go.Stop Go.Extern Go.Proofs.YtdimfppijcebjaaGreatDoor

theorem isTypeOf (v : Value) (w : World) : (ReflectliteType.typeOf #[.iface 199 v]).run Tryz.prog w = .ok (.iface 145 (.agg #[hdl 199])) w := by kernel_rfl
/-- the model's entry at (rtype).Comparable: an error of errors.New's make can be compared -/
theorem cmp_entry : ∃ m, Extern.find Tryz.f176 = some m ∧ ∀ w, (m #[.agg #[hdl 199]]).run Tryz.prog w = .ok (.bool true) w :=
  ⟨(Extern.find Tryz.f176).get (by kernel_rfl), (Option.some_get _).symm, fun w => by kernel_rfl⟩
theorem isComp : (Tryz.prog.info? 199).map (·.comparable) = some true := by kernel_rfl
theorem isSize : (Tryz.prog.info? 201).map (·.size) = some 1 := by kernel_rfl
theorem noIsE (v : Value) (xT : TypeId) (w : World) : (Instr.typeAssert (.iface 199 v) xT 157 true).run Tryz.prog w = .ok (.tuple #[.nilIface, .bool false]) w := run_typeAssert_lacksB Tryz.underlying157 (by kernel_rfl) (by kernel_rfl) v xT w
theorem noUnwrapE (v : Value) (xT : TypeId) (w : World) : (Instr.typeAssert (.iface 199 v) xT 152 true).run Tryz.prog w = .ok (.tuple #[.nilIface, .bool false]) w := run_typeAssert_lacksB Tryz.underlying152 (by kernel_rfl) (by kernel_rfl) v xT w
theorem noUnwrapsE (v : Value) (xT : TypeId) (w : World) : (Instr.typeAssert (.iface 199 v) xT 154 true).run Tryz.prog w = .ok (.tuple #[.nilIface, .bool false]) w := run_typeAssert_lacksB Tryz.underlying154 (by kernel_rfl) (by kernel_rfl) v xT w
theorem noIsF (v : Value) (xT : TypeId) (w : World) : (Instr.typeAssert (.iface 135 v) xT 157 true).run Tryz.prog w = .ok (.tuple #[.nilIface, .bool false]) w := run_typeAssert_lacksB Tryz.underlying157 (by kernel_rfl) (by kernel_rfl) v xT w
theorem hasUnwrapF (v : Value) (xT : TypeId) (w : World) : (Instr.typeAssert (.iface 135 v) xT 152 true).run Tryz.prog w = .ok (.tuple #[.iface 135 v, .bool true]) w := run_typeAssert_hasB Tryz.underlying152 (by kernel_rfl) v xT w
theorem methodUnwrap (v : Value) (w : World) : (Go.method 332 135 v "Unwrap").run Tryz.prog w = .ok (173, v) w := by kernel_rfl

set_option maxHeartbeats 1000000 in
theorem unwrap_any (p : ByteArray) (a : Addr) (w : World) :
    Calls Tryz.prog 173 #[.agg (faultA p a)] w fun e w' => e = .returned (newV a) ∧ Below w.heap.size w w' := by
  go_enter Tryz.func173, Tryz.ntmps173
  go_wp2
  go_ret
  exact ⟨rfl, (Below.refl _ _).alloc (Nat.le_refl _) _⟩

set_option maxHeartbeats 4000000 in
theorem is_same (p : ByteArray) (a : Addr) (w : World) :
    Calls Tryz.prog 71 #[faultV p a, newV a] w fun e w' => e = .returned (.bool true) ∧ Below w.heap.size w w' := by
  obtain ⟨i, hi, hcmp⟩ := Option.map_eq_some_iff.1 isComp
  obtain ⟨j, hj, hjs⟩ := Option.map_eq_some_iff.1 isSize
  have h55 := @run_callFunc_extern Tryz.prog 89 _ ReflectliteType.typeOf Tryz.func89 (by kernel_rfl) (by kernel_rfl) (by kernel_rfl) (by kernel_rfl)
  obtain ⟨m, hm, cT⟩ := cmp_entry
  have hC := @run_callFunc_extern Tryz.prog 176 _ m Tryz.func176 (by kernel_rfl) (by kernel_rfl) (by kernel_rfl) hm
  have tT := isTypeOf
  have mR := methodComparable
  have nE := noIsE
  have uE := noUnwrapE
  have vE := noUnwrapsE
  have nW := noIsF
  have uW := hasUnwrapF
  have mU := methodUnwrap
  have hty := run_eql_iface_types (P := Tryz.prog) 135 199 (.agg (faultA p a)) (.pointer (some a)) Tryz.underlying49 (by decide) w
  have heq := run_eql_iface_ptr_same (P := Tryz.prog) (w.alloc (.cells (faultA p a) 135)) a Tryz.underlying49 Tryz.underlying199 hi hcmp hj
  go_enter Tryz.func71, Tryz.ntmps71
  go_wp2
  refine wp_loop_rounds 2 ?_
  rw [rounds_succ]
  go_wp2
  rw [rounds_succ]
  go_wp2
  go_ret
  exact ⟨rfl, (Below.refl _ _).alloc (Nat.le_refl _) _⟩

set_option maxHeartbeats 4000000 in
theorem is_other (p : ByteArray) (a b : Addr) (w : World) (hne : a ≠ b) (hA : ∃ c t, w.heap[a.block]? = some (.cells c t (0, 0))) (hB : ∃ c t, w.heap[b.block]? = some (.cells c t (0, 0))) :
    Calls Tryz.prog 71 #[faultV p a, newV b] w fun e w' => e = .returned (.bool false) ∧ Below w.heap.size w w' := by
  obtain ⟨ca, ta, hA⟩ := hA
  obtain ⟨cb, tb, hB⟩ := hB
  have hA' := block_below hA ((Below.refl w.heap.size w).alloc (Nat.le_refl _) (.cells (faultA p a) 135))
  have hB' := block_below hB ((Below.refl w.heap.size w).alloc (Nat.le_refl _) (.cells (faultA p a) 135))
  obtain ⟨i, hi, hcmp⟩ := Option.map_eq_some_iff.1 isComp
  obtain ⟨j, hj, hjs⟩ := Option.map_eq_some_iff.1 isSize
  have h55 := @run_callFunc_extern Tryz.prog 89 _ ReflectliteType.typeOf Tryz.func89 (by kernel_rfl) (by kernel_rfl) (by kernel_rfl) (by kernel_rfl)
  obtain ⟨m, hm, cT⟩ := cmp_entry
  have hC := @run_callFunc_extern Tryz.prog 176 _ m Tryz.func176 (by kernel_rfl) (by kernel_rfl) (by kernel_rfl) hm
  have tT := isTypeOf
  have mR := methodComparable
  have nE := noIsE
  have uE := noUnwrapE
  have vE := noUnwrapsE
  have nW := noIsF
  have uW := hasUnwrapF
  have mU := methodUnwrap
  have hty := run_eql_iface_types (P := Tryz.prog) 135 199 (.agg (faultA p a)) (.pointer (some b)) Tryz.underlying49 (by decide) w
  have heq := run_eql_iface_ptr_other (P := Tryz.prog) (w.alloc (.cells (faultA p a) 135)) Tryz.underlying49 Tryz.underlying199 hi hcmp hj (by rw [hjs]; decide) hne hA' hB'
  clear hA hB hA' hB'
  go_enter Tryz.func71, Tryz.ntmps71
  go_wp2
  refine wp_loop_rounds 2 ?_
  rw [rounds_succ]
  go_wp2
  rw [rounds_succ]
  go_wp2
  go_ret
  exact ⟨rfl, (Below.refl _ _).alloc (Nat.le_refl _) _⟩

/-! the number of an error -/
theorem number_nil (w : World) :
    Calls Tryz.prog 75 #[.nilIface] w fun e w' => e = .returned (.int .i64 0) ∧ Below w.heap.size w w' := by
  go_enter Tryz.func75, Tryz.ntmps75
  go_wp2_with (go_at_call 70; refine (as_nil _ _).mono ?_; rintro e w' ⟨rfl, rfl⟩)
  go_ret
  exact ⟨rfl, (Below.refl _ _).alloc (Nat.le_refl _) _⟩

set_option maxHeartbeats 1000000 in
theorem number_form (p : ByteArray) (aF aK : Addr) (w : World) (R : Errs aF aK w) :
    Calls Tryz.prog 75 #[faultV p aF] w fun e w' => e = .returned (.int .i64 2) ∧ Below w.heap.size w w' := by
  go_enter Tryz.func75, Tryz.ntmps75
  go_wp2_with (go_at_call 70; refine (as_hit w.heap.size p aF 135 (.string ⟨#[]⟩) .nilIface _ ?_ ?_).mono ?_)
  · exact (R.alloc _).et
  · exact IsRow.made _ _ _
  rintro e w1 ⟨rfl, hr, hb⟩
  have B1 : Below w.heap.size w w1 := ((Below.refl _ _).alloc (Nat.le_refl _) _).trans hb
  have R1 := R.below B1
  have c0 : w1.cell? ⟨w.heap.size, 0, none⟩ = some (.string p) := hr.cell 0
  have c1 : w1.cell? ⟨w.heap.size, 1, none⟩ = some (newV aF) := hr.cell 1
  have k := R1.kind
  clear hb
  go_wp2_with (go_at_call 71; refine (is_other p aF aK _ ?_ ?_ ?_).mono ?_)
  · exact R.ne
  · exact R1.rowF
  · exact R1.rowK
  rintro e w2 ⟨rfl, b2⟩
  go_wp2_with fail
  go_ret
  exact ⟨rfl, below_trans B1 b2⟩

set_option maxHeartbeats 1000000 in
theorem number_kind (p : ByteArray) (aF aK : Addr) (w : World) (R : Errs aF aK w) :
    Calls Tryz.prog 75 #[faultV p aK] w fun e w' => e = .returned (.int .i64 8) ∧ Below w.heap.size w w' := by
  go_enter Tryz.func75, Tryz.ntmps75
  go_wp2_with (go_at_call 70; refine (as_hit w.heap.size p aK 135 (.string ⟨#[]⟩) .nilIface _ ?_ ?_).mono ?_)
  · exact (R.alloc _).et
  · exact IsRow.made _ _ _
  rintro e w1 ⟨rfl, hr, hb⟩
  have B1 : Below w.heap.size w w1 := ((Below.refl _ _).alloc (Nat.le_refl _) _).trans hb
  have R1 := R.below B1
  have c0 : w1.cell? ⟨w.heap.size, 0, none⟩ = some (.string p) := hr.cell 0
  have c1 : w1.cell? ⟨w.heap.size, 1, none⟩ = some (newV aK) := hr.cell 1
  have k := R1.kind
  clear hb
  go_wp2_with (go_at_call 71; refine (is_same p aK _).mono ?_)
  rintro e w2 ⟨rfl, b2⟩
  go_wp2_with fail
  go_ret
  exact ⟨rfl, below_trans B1 b2⟩

#print axioms number_form
#print axioms number_kind
end Go.Proofs.YtdimfppijcebjaaGreatDoor.Ext
