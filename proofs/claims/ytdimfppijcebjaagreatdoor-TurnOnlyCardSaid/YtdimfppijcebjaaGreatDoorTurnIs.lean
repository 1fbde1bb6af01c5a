/- errors.Is at a fault: it has no Is, it is unwrapped once, and what it wraps is the error that is asked for, or not; and the contract of turn.number. -/
import Derived.Test.YtdimfppijcebjaaGreatDoorTurnErr
namespace Go.Proofs.YtdimfppijcebjaaGreatDoor.Tu
open Go Go.RowKit Go.Extern.Stop Go.Stop Go.Extern Go.Proofs.YtdimfppijcebjaaGreatDoor

theorem isTypeOf (v : Value) (w : World) : (ReflectliteType.typeOf #[.iface 199 v]).run Tryz.prog w = .ok (.iface 145 (.agg #[hdl 199])) w := by kernel_rfl
/-- the model's entry at (rtype).Comparable: an error of errors.New's make can be compared -/
theorem cmp_entry : ∃ m, Extern.find Tryz.f176 = some m ∧ ∀ w, (m #[.agg #[hdl 199]]).run Tryz.prog w = .ok (.bool true) w :=
  ⟨(Extern.find Tryz.f176).get (by kernel_rfl), (Option.some_get _).symm, fun w => by kernel_rfl⟩
theorem isComp : (Tryz.prog.info? 199).map (·.comparable) = some true := by kernel_rfl
theorem isSize : (Tryz.prog.info? 201).map (·.size) = some 1 := by kernel_rfl
theorem noIsE (v : Value) (xT : TypeId) (w : World) : (Instr.typeAssert (.iface 199 v) xT 157 true).run Tryz.prog w = .ok (.tuple #[.nilIface, .bool false]) w := run_typeAssert_lacksB Tryz.underlying157 (by kernel_rfl) (by kernel_rfl) v xT w
theorem noUnwrapE (v : Value) (xT : TypeId) (w : World) : (Instr.typeAssert (.iface 199 v) xT 152 true).run Tryz.prog w = .ok (.tuple #[.nilIface, .bool false]) w := run_typeAssert_lacksB Tryz.underlying152 (by kernel_rfl) (by kernel_rfl) v xT w
theorem noUnwrapsE (v : Value) (xT : TypeId) (w : World) : (Instr.typeAssert (.iface 199 v) xT 154 true).run Tryz.prog w = .ok (.tuple #[.nilIface, .bool false]) w := run_typeAssert_lacksB Tryz.underlying154 (by kernel_rfl) (by kernel_rfl) v xT w
theorem noIsF (v : Value) (xT : TypeId) (w : World) : (Instr.typeAssert (.iface 76 v) xT 157 true).run Tryz.prog w = .ok (.tuple #[.nilIface, .bool false]) w := run_typeAssert_lacksB Tryz.underlying157 (by kernel_rfl) (by kernel_rfl) v xT w
theorem hasUnwrapF (v : Value) (xT : TypeId) (w : World) : (Instr.typeAssert (.iface 76 v) xT 152 true).run Tryz.prog w = .ok (.tuple #[.iface 76 v, .bool true]) w := run_typeAssert_hasB Tryz.underlying152 (by kernel_rfl) v xT w
theorem methodUnwrap (v : Value) (w : World) : (Go.method 332 76 v "Unwrap").run Tryz.prog w = .ok (167, v) w := by kernel_rfl

set_option maxHeartbeats 1000000 in
theorem unwrap_any (p : ByteArray) (a : Addr) (w : World) :
    Calls Tryz.prog 167 #[.agg (faultA p a)] w fun e w' => e = .returned (newV a) ∧ Below w.heap.size w w' := by
  go_enter Tryz.func167, Tryz.ntmps167
  go_wp2
  go_ret
  exact ⟨rfl, (Below.refl _ _).alloc (Nat.le_refl _) _⟩

set_option maxHeartbeats 4000000 in
theorem is_same (p : ByteArray) (a : Addr) (w : World) :
    Calls Tryz.prog 71 #[faultV p a, newV a] w fun e w' => e = .returned (.bool true) ∧ Below w.heap.size w w' := by
  obtain ⟨i, hi, hcmp⟩ := Option.map_eq_some_iff.1 isComp
  obtain ⟨j, hj, hjs⟩ := Option.map_eq_some_iff.1 isSize
  have h55 := @run_callFunc_extern Tryz.prog 89 _ ReflectliteType.typeOf Tryz.func89 (by kernel_rfl) (by kernel_rfl) (by kernel_rfl) (by kernel_rfl)
  obtain ⟨m, hm, cT⟩ := cmp_entry
  have hC := @run_callFunc_extern Tryz.prog 176 _ m Tryz.func176 (by kernel_rfl) (by kernel_rfl) (by kernel_rfl) hm
  have tT := isTypeOf
  have mR := methodComparable
  have nE := noIsE
  have uE := noUnwrapE
  have vE := noUnwrapsE
  have nW := noIsF
  have uW := hasUnwrapF
  have mU := methodUnwrap
  have hty := run_eql_iface_types (P := Tryz.prog) 76 199 (.agg (faultA p a)) (.pointer (some a)) Tryz.underlying49 (by decide) w
  have heq := run_eql_iface_ptr_same (P := Tryz.prog) (w.alloc (.cells (faultA p a) 76)) a Tryz.underlying49 Tryz.underlying199 hi hcmp hj
  go_enter Tryz.func71, Tryz.ntmps71
  go_wp2
  refine wp_loop_rounds 2 ?_
  rw [rounds_succ]
  go_wp2
  rw [rounds_succ]
  go_wp2
  go_ret
  exact ⟨rfl, (Below.refl _ _).alloc (Nat.le_refl _) _⟩

set_option maxHeartbeats 4000000 in
theorem is_other (p : ByteArray) (a b : Addr) (w : World) (hne : a ≠ b) (hA : ∃ c t, w.heap[a.block]? = some (.cells c t (0, 0))) (hB : ∃ c t, w.heap[b.block]? = some (.cells c t (0, 0))) :
    Calls Tryz.prog 71 #[faultV p a, newV b] w fun e w' => e = .returned (.bool false) ∧ Below w.heap.size w w' := by
  obtain ⟨ca, ta, hA⟩ := hA
  obtain ⟨cb, tb, hB⟩ := hB
  have hA' := block_below hA ((Below.refl w.heap.size w).alloc (Nat.le_refl _) (.cells (faultA p a) 76))
  have hB' := block_below hB ((Below.refl w.heap.size w).alloc (Nat.le_refl _) (.cells (faultA p a) 76))
  obtain ⟨i, hi, hcmp⟩ := Option.map_eq_some_iff.1 isComp
  obtain ⟨j, hj, hjs⟩ := Option.map_eq_some_iff.1 isSize
  have h55 := @run_callFunc_extern Tryz.prog 89 _ ReflectliteType.typeOf Tryz.func89 (by kernel_rfl) (by kernel_rfl) (by kernel_rfl) (by kernel_rfl)
  obtain ⟨m, hm, cT⟩ := cmp_entry
  have hC := @run_callFunc_extern Tryz.prog 176 _ m Tryz.func176 (by kernel_rfl) (by kernel_rfl) (by kernel_rfl) hm
  have tT := isTypeOf
  have mR := methodComparable
  have nE := noIsE
  have uE := noUnwrapE
  have vE := noUnwrapsE
  have nW := noIsF
  have uW := hasUnwrapF
  have mU := methodUnwrap
  have hty := run_eql_iface_types (P := Tryz.prog) 76 199 (.agg (faultA p a)) (.pointer (some b)) Tryz.underlying49 (by decide) w
  have heq := run_eql_iface_ptr_other (P := Tryz.prog) (w.alloc (.cells (faultA p a) 76)) Tryz.underlying49 Tryz.underlying199 hi hcmp hj (by rw [hjs]; decide) hne hA' hB'
  clear hA hB hA' hB'
  go_enter Tryz.func71, Tryz.ntmps71
  go_wp2
  refine wp_loop_rounds 2 ?_
  rw [rounds_succ]
  go_wp2
  rw [rounds_succ]
  go_wp2
  go_ret
  exact ⟨rfl, (Below.refl _ _).alloc (Nat.le_refl _) _⟩

/-! the number of an error -/
theorem number_nil (w : World) :
    Calls Tryz.prog 46 #[.nilIface] w fun e w' => e = .returned (.int .i64 0) ∧ Below w.heap.size w w' := by
  go_enter Tryz.func46, Tryz.ntmps46
  go_wp2_with (go_at_call 70; refine (as_nil _ _).mono ?_; rintro e w' ⟨rfl, rfl⟩)
  go_ret
  exact ⟨rfl, (Below.refl _ _).alloc (Nat.le_refl _) _⟩

set_option maxHeartbeats 4000000 in
theorem number_verb (p : ByteArray) (aV aF aK aD : Addr) (w : World) (R0 : TErrs aV aF aK aD w) :
    Calls Tryz.prog 46 #[faultV p aV] w fun e w' => e = .returned (.int .i64 1) ∧ Below w.heap.size w w' := by
  have R := Lib.hid R0
  have k0 : ∀ o, (w.alloc o).cell? ⟨0, 0, none⟩ = some (newV aV) := fun o => (R0.alloc o).verb
  clear R0 k0
  go_enter Tryz.func46, Tryz.ntmps46
  go_wp2_with (go_at_call 70; refine (as_hit w.heap.size p aV 76 (.string ⟨#[]⟩) .nilIface _ ?_ ?_).mono ?_)
  · exact (R.out.alloc _).et
  · exact IsRow.made _ _ _
  rintro e w1 ⟨rfl, hr, hb⟩
  have B1 : Below w.heap.size w w1 := ((Below.refl _ _).alloc (Nat.le_refl _) _).trans hb
  have c0 : w1.cell? ⟨w.heap.size, 0, none⟩ = some (.string p) := hr.cell 0
  have c1 : w1.cell? ⟨w.heap.size, 1, none⟩ = some (newV aV) := hr.cell 1
  have k1 := (R.out.below B1).verb
  have HR1 := Lib.hid hr
  clear hb hr
  go_wp2_with (go_at_call 71; refine (is_same p aV _).mono ?_)
  rintro e w2 ⟨rfl, b2⟩
  have B2 := below_trans B1 b2
  go_wp2_with fail
  go_ret
  exact ⟨rfl, B2⟩

set_option maxHeartbeats 4000000 in
theorem number_form (p : ByteArray) (aV aF aK aD : Addr) (w : World) (R0 : TErrs aV aF aK aD w) :
    Calls Tryz.prog 46 #[faultV p aF] w fun e w' => e = .returned (.int .i64 2) ∧ Below w.heap.size w w' := by
  have R := Lib.hid R0
  have k0 : ∀ o, (w.alloc o).cell? ⟨0, 0, none⟩ = some (newV aV) := fun o => (R0.alloc o).verb
  clear R0 k0
  go_enter Tryz.func46, Tryz.ntmps46
  go_wp2_with (go_at_call 70; refine (as_hit w.heap.size p aF 76 (.string ⟨#[]⟩) .nilIface _ ?_ ?_).mono ?_)
  · exact (R.out.alloc _).et
  · exact IsRow.made _ _ _
  rintro e w1 ⟨rfl, hr, hb⟩
  have B1 : Below w.heap.size w w1 := ((Below.refl _ _).alloc (Nat.le_refl _) _).trans hb
  have c0 : w1.cell? ⟨w.heap.size, 0, none⟩ = some (.string p) := hr.cell 0
  have c1 : w1.cell? ⟨w.heap.size, 1, none⟩ = some (newV aF) := hr.cell 1
  have k1 := (R.out.below B1).verb
  have HR1 := Lib.hid hr
  clear hb hr
  go_wp2_with (go_at_call 71; refine (is_other p aF aV _ ?_ ?_ ?_).mono ?_)
  · exact R.out.neVF.symm
  · exact (R.out.below B1).rowF
  · exact (R.out.below B1).rowV
  rintro e w2 ⟨rfl, b2⟩
  have B2 := below_trans B1 b2
  have HR2 := Lib.hid (HR1.out.call b2)
  clear c0 c1 k1
  have c0 : w2.cell? ⟨w.heap.size, 0, none⟩ = some (.string p) := HR2.out.cell 0
  have c1 : w2.cell? ⟨w.heap.size, 1, none⟩ = some (newV aF) := HR2.out.cell 1
  have k2 := (R.out.below B2).kind
  go_wp2_with (go_at_call 71; refine (is_other p aF aK _ ?_ ?_ ?_).mono ?_)
  · exact R.out.neFK
  · exact (R.out.below B2).rowF
  · exact (R.out.below B2).rowK
  rintro e w3 ⟨rfl, b3⟩
  have B3 := below_trans B2 b3
  have HR3 := Lib.hid (HR2.out.call b3)
  clear c0 c1 k2
  have c0 : w3.cell? ⟨w.heap.size, 0, none⟩ = some (.string p) := HR3.out.cell 0
  have c1 : w3.cell? ⟨w.heap.size, 1, none⟩ = some (newV aF) := HR3.out.cell 1
  have k3 := (R.out.below B3).deny
  go_wp2_with (go_at_call 71; refine (is_other p aF aD _ ?_ ?_ ?_).mono ?_)
  · exact R.out.neFD
  · exact (R.out.below B3).rowF
  · exact (R.out.below B3).rowD
  rintro e w4 ⟨rfl, b4⟩
  have B4 := below_trans B3 b4
  go_wp2_with fail
  go_ret
  exact ⟨rfl, B4⟩

set_option maxHeartbeats 4000000 in
theorem number_kind (p : ByteArray) (aV aF aK aD : Addr) (w : World) (R0 : TErrs aV aF aK aD w) :
    Calls Tryz.prog 46 #[faultV p aK] w fun e w' => e = .returned (.int .i64 8) ∧ Below w.heap.size w w' := by
  have R := Lib.hid R0
  have k0 : ∀ o, (w.alloc o).cell? ⟨0, 0, none⟩ = some (newV aV) := fun o => (R0.alloc o).verb
  clear R0 k0
  go_enter Tryz.func46, Tryz.ntmps46
  go_wp2_with (go_at_call 70; refine (as_hit w.heap.size p aK 76 (.string ⟨#[]⟩) .nilIface _ ?_ ?_).mono ?_)
  · exact (R.out.alloc _).et
  · exact IsRow.made _ _ _
  rintro e w1 ⟨rfl, hr, hb⟩
  have B1 : Below w.heap.size w w1 := ((Below.refl _ _).alloc (Nat.le_refl _) _).trans hb
  have c0 : w1.cell? ⟨w.heap.size, 0, none⟩ = some (.string p) := hr.cell 0
  have c1 : w1.cell? ⟨w.heap.size, 1, none⟩ = some (newV aK) := hr.cell 1
  have k1 := (R.out.below B1).verb
  have HR1 := Lib.hid hr
  clear hb hr
  go_wp2_with (go_at_call 71; refine (is_other p aK aV _ ?_ ?_ ?_).mono ?_)
  · exact R.out.neVK.symm
  · exact (R.out.below B1).rowK
  · exact (R.out.below B1).rowV
  rintro e w2 ⟨rfl, b2⟩
  have B2 := below_trans B1 b2
  have HR2 := Lib.hid (HR1.out.call b2)
  clear c0 c1 k1
  have c0 : w2.cell? ⟨w.heap.size, 0, none⟩ = some (.string p) := HR2.out.cell 0
  have c1 : w2.cell? ⟨w.heap.size, 1, none⟩ = some (newV aK) := HR2.out.cell 1
  have k2 := (R.out.below B2).kind
  go_wp2_with (go_at_call 71; refine (is_same p aK _).mono ?_)
  rintro e w3 ⟨rfl, b3⟩
  have B3 := below_trans B2 b3
  go_wp2_with fail
  go_ret
  exact ⟨rfl, B3⟩

set_option maxHeartbeats 4000000 in
theorem number_deny (p : ByteArray) (aV aF aK aD : Addr) (w : World) (R0 : TErrs aV aF aK aD w) :
    Calls Tryz.prog 46 #[faultV p aD] w fun e w' => e = .returned (.int .i64 6) ∧ Below w.heap.size w w' := by
  have R := Lib.hid R0
  have k0 : ∀ o, (w.alloc o).cell? ⟨0, 0, none⟩ = some (newV aV) := fun o => (R0.alloc o).verb
  clear R0 k0
  go_enter Tryz.func46, Tryz.ntmps46
  go_wp2_with (go_at_call 70; refine (as_hit w.heap.size p aD 76 (.string ⟨#[]⟩) .nilIface _ ?_ ?_).mono ?_)
  · exact (R.out.alloc _).et
  · exact IsRow.made _ _ _
  rintro e w1 ⟨rfl, hr, hb⟩
  have B1 : Below w.heap.size w w1 := ((Below.refl _ _).alloc (Nat.le_refl _) _).trans hb
  have c0 : w1.cell? ⟨w.heap.size, 0, none⟩ = some (.string p) := hr.cell 0
  have c1 : w1.cell? ⟨w.heap.size, 1, none⟩ = some (newV aD) := hr.cell 1
  have k1 := (R.out.below B1).verb
  have HR1 := Lib.hid hr
  clear hb hr
  go_wp2_with (go_at_call 71; refine (is_other p aD aV _ ?_ ?_ ?_).mono ?_)
  · exact R.out.neVD.symm
  · exact (R.out.below B1).rowD
  · exact (R.out.below B1).rowV
  rintro e w2 ⟨rfl, b2⟩
  have B2 := below_trans B1 b2
  have HR2 := Lib.hid (HR1.out.call b2)
  clear c0 c1 k1
  have c0 : w2.cell? ⟨w.heap.size, 0, none⟩ = some (.string p) := HR2.out.cell 0
  have c1 : w2.cell? ⟨w.heap.size, 1, none⟩ = some (newV aD) := HR2.out.cell 1
  have k2 := (R.out.below B2).kind
  go_wp2_with (go_at_call 71; refine (is_other p aD aK _ ?_ ?_ ?_).mono ?_)
  · exact R.out.neKD.symm
  · exact (R.out.below B2).rowD
  · exact (R.out.below B2).rowK
  rintro e w3 ⟨rfl, b3⟩
  have B3 := below_trans B2 b3
  have HR3 := Lib.hid (HR2.out.call b3)
  clear c0 c1 k2
  have c0 : w3.cell? ⟨w.heap.size, 0, none⟩ = some (.string p) := HR3.out.cell 0
  have c1 : w3.cell? ⟨w.heap.size, 1, none⟩ = some (newV aD) := HR3.out.cell 1
  have k3 := (R.out.below B3).deny
  go_wp2_with (go_at_call 71; refine (is_same p aD _).mono ?_)
  rintro e w4 ⟨rfl, b4⟩
  have B4 := below_trans B3 b4
  go_wp2_with fail
  go_ret
  exact ⟨rfl, B4⟩

#print axioms number_verb
#print axioms number_form
#print axioms number_kind
#print axioms number_deny
end Go.Proofs.YtdimfppijcebjaaGreatDoor.Tu
