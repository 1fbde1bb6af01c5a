/- An end as an argument (four bytes and a number, by value), and two ends compared. -/
import Derived.Test.YtdimfppijcebjaaGreatDoorHostArg
import Derived.Test.YtdimfppijcebjaaGreatDoorArrEq
import Derived.ChangeSame
namespace Go.Proofs.YtdimfppijcebjaaGreatDoor
open Go Go.ChangeShapes Go.WideShapes Go.ChangeAt Go.RowKit

variable {H : Type} {enc : TypeId × Value → H} {W : World} {base : Nat} {sp : Nat → Bool} {held : Bool}

theorem end_cells : Tryz.prog.cellsOf 30 = 5 := by kernel_rfl
theorem int_cells : Tryz.prog.cellsOf 3 = 1 := by kernel_rfl

set_option maxRecDepth 100000 in
/-- an end that comes in is four bytes and a number -/
theorem open_end {r : Reach} {b0 : Nat} {v : Value} {d : DataW H} {ps : List MemPlace} (hval : Value.okWide Tryz.prog W r b0 30 v) (hd : DataW.Trod enc Tryz.prog W base sp held 30 v d ps) :
    ∃ a b c e p : Int, v = .agg #[.int .u8 a, .int .u8 b, .int .u8 c, .int .u8 e, .int .i64 p] ∧ d = .agg [.agg [.lit (.int .u8 a), .lit (.int .u8 b), .lit (.int .u8 c), .lit (.int .u8 e)], .lit (.int .i64 p)] ∧ ps = [] ∧
      (Lit.int .u8 a).wf = true ∧ (Lit.int .u8 b).wf = true ∧ (Lit.int .u8 c).wf = true ∧ (Lit.int .u8 e).wf = true ∧ (Lit.int .i64 p).wf = true := by
  have hv : ∃ c0 c1 c2 c3 c4, v = .agg #[c0, c1, c2, c3, c4] := by
    simp only [Value.okWide, Tryz.underlying30] at hval
    obtain ⟨cs, h1, h2, _⟩ := hval
    rw [end_cells] at h2
    obtain ⟨l⟩ := cs
    match l, h2 with
    | [c0, c1, c2, c3, c4], _ => exact ⟨c0, c1, c2, c3, c4, h1⟩
  obtain ⟨c0, c1, c2, c3, c4, rfl⟩ := hv
  obtain ⟨fuel, hf⟩ := hd
  obtain ⟨y0, y1, n, hx, _, h0, h1⟩ := trod_struct2 Tryz.underlying30 hf
  rw [host_cells] at h0
  rw [int_cells] at h1
  simp only [Value.cells, List.drop_zero, List.drop_succ_cons, List.take_succ_cons, List.take_zero] at h0 h1
  obtain ⟨p, ep, rfl, wp⟩ := DataW.trod_int Tryz.underlying3 h1
  obtain ⟨xs, m, _, rfl, _, hl, hel⟩ := DataW.trod_array Tryz.underlying28 h0
  rw [byte_cells] at hel
  match xs, hl with
  | [z0, z1, z2, z3], _ =>
    have h0 := hel 0 (by omega); have h1 := hel 1 (by omega); have h2 := hel 2 (by omega); have h3 := hel 3 (by omega)
    simp only [List.getElem?_cons_zero, List.getElem?_cons_succ] at h0 h1 h2 h3
    obtain ⟨a, ea, rfl, wa⟩ := DataW.trod_int Tryz.underlying5 h0
    obtain ⟨b, eb, rfl, wb⟩ := DataW.trod_int Tryz.underlying5 h1
    obtain ⟨c, ec, rfl, wc⟩ := DataW.trod_int Tryz.underlying5 h2
    obtain ⟨e, ee, rfl, we⟩ := DataW.trod_int Tryz.underlying5 h3
    simp at ea eb ec ee ep
    subst ea; subst eb; subst ec; subst ee; subst ep
    simp only [Prod.mk.injEq] at hx
    exact ⟨a, b, c, e, p, rfl, hx.1, hx.2, wa, wb, wc, we, wp⟩

set_option maxRecDepth 100000 in
theorem shut_end {a b c e p : Int} (wa : (Lit.int .u8 a).wf = true) (wb : (Lit.int .u8 b).wf = true) (wc : (Lit.int .u8 c).wf = true) (we : (Lit.int .u8 e).wf = true) (wp : (Lit.int .i64 p).wf = true) :
    DataW.Trod enc Tryz.prog W base sp held 30 (.agg #[.int .u8 a, .int .u8 b, .int .u8 c, .int .u8 e, .int .i64 p]) (.agg [.agg [.lit (.int .u8 a), .lit (.int .u8 b), .lit (.int .u8 c), .lit (.int .u8 e)], .lit (.int .i64 p)]) [] :=
  ⟨3, by
    have h0 : DataW.trod enc Tryz.prog W base sp held (1 + 1) 28 [.int .u8 a, .int .u8 b, .int .u8 c, .int .u8 e] = some (.agg [.lit (.int .u8 a), .lit (.int .u8 b), .lit (.int .u8 c), .lit (.int .u8 e)], []) := by
      rw [DataW.trod_step]
      unfold DataW.trodStep
      simp only [Tryz.underlying28]
      rw [if_pos (by rw [host_cells]; rfl), range_four]
      simp [byte_cells, DataW.trod, Tryz.underlying5, wa, wb, wc, we]
    have h1 : DataW.trod enc Tryz.prog W base sp held (1 + 1) 3 [.int .i64 p] = some (.lit (.int .i64 p), []) := trod_int_mk 1 Tryz.underlying3 wp
    have := trod_struct2_mk (enc := enc) (w := W) (base := base) (spare := sp) (held := held) (n := 2) (cs := [.int .u8 a, .int .u8 b, .int .u8 c, .int .u8 e, .int .i64 p]) Tryz.underlying30 (by rw [end_cells]; rfl) (by rw [host_cells]; exact h0) (by rw [int_cells]; exact h1)
    exact this⟩

/-! comparison -/
theorem equal_hosts_at (d : Nat) (a b c e a' b' c' e' : Int) (w : World) :
    (Op.equalIn (d + 2) 28 (.agg #[.int .u8 a, .int .u8 b, .int .u8 c, .int .u8 e]) (.agg #[.int .u8 a', .int .u8 b', .int .u8 c', .int .u8 e'])).run Tryz.prog w = .ok (a == a' && b == b' && c == c' && e == e') w :=
  equal_four (d + 1) 28 5 _ _ (.int .u8 a) (.int .u8 b) (.int .u8 c) (.int .u8 e) (.int .u8 a') (.int .u8 b') (.int .u8 c') (.int .u8 e') _ _ _ _ w Tryz.underlying28 (fun _ => by kernel_rfl)
    (fun _ => by kernel_rfl) (fun _ => by kernel_rfl) (fun _ => by kernel_rfl) (fun _ => by kernel_rfl) (fun _ => by kernel_rfl) (fun _ => by kernel_rfl) (fun _ => by kernel_rfl) (fun _ => by kernel_rfl)
    (fun w => run_equalIn_int w d _ _ _ _ _ Tryz.underlying5) (fun w => run_equalIn_int w d _ _ _ _ _ Tryz.underlying5) (fun w => run_equalIn_int w d _ _ _ _ _ Tryz.underlying5) (fun w => run_equalIn_int w d _ _ _ _ _ Tryz.underlying5)

theorem equal_two {P : Program} (d : Nat) (t : TypeId) (f0 f1 : Field) (xs ys : Array Value) (x0 x1 y0 y1 : Value) (r0 r1 : Bool) (w : World)
    (hu : P.underlying t = some (.struct #[f0, f1])) (hp : P.stoodInHeld t = false) (n0 : (f0.name != "_") = true) (n1 : (f1.name != "_") = true)
    (p0 : ∀ w, (part f0.type xs f0.offset).run P w = .ok x0 w) (p1 : ∀ w, (part f1.type xs f1.offset).run P w = .ok x1 w)
    (q0 : ∀ w, (part f0.type ys f0.offset).run P w = .ok y0 w) (q1 : ∀ w, (part f1.type ys f1.offset).run P w = .ok y1 w)
    (e0 : ∀ w, (Op.equalIn d f0.type x0 y0).run P w = .ok r0 w) (e1 : ∀ w, (Op.equalIn d f1.type x1 y1).run P w = .ok r1 w) :
    (Op.equalIn (d + 1) t (.agg xs) (.agg ys)).run P w = .ok (r0 && r1) w := by
  have hf : P.fieldsOf t = #[f0, f1] := by unfold Program.fieldsOf; rw [hu]
  rw [run_equalIn_struct w d t xs ys (by rw [hf]; exact hu) hp, hf]
  have m0 : f0.name ≠ "_" := by simpa using n0
  have m1 : f1.name ≠ "_" := by simpa using n1
  show (Op.eqFields d xs ys [f0, f1]).run P w = _
  simp only [Op.eqFields, if_pos m0, if_pos m1, Sem.run_bind, p0, q0, e0, Result.andThen_ok, Sem.run_ite, Sem.run_pure]
  cases r0
  · simp
  · simp only [Bool.not_true, Bool.false_eq_true, if_false, p1, q1, e1, Result.andThen_ok, Bool.true_and]
    cases r1 <;> simp

theorem equal_ends (a b c e p a' b' c' e' p' : Int) (w : World) :
    (Op.equalIn 10000 30 (.agg #[.int .u8 a, .int .u8 b, .int .u8 c, .int .u8 e, .int .i64 p]) (.agg #[.int .u8 a', .int .u8 b', .int .u8 c', .int .u8 e', .int .i64 p'])).run Tryz.prog w = .ok ((a == a' && b == b' && c == c' && e == e') && p == p') w :=
  equal_two 9999 30 _ _ _ _ (.agg #[.int .u8 a, .int .u8 b, .int .u8 c, .int .u8 e]) (.int .i64 p) (.agg #[.int .u8 a', .int .u8 b', .int .u8 c', .int .u8 e']) (.int .i64 p') _ _ w Tryz.underlying30 (by kernel_rfl) (by kernel_rfl) (by kernel_rfl)
    (fun _ => by kernel_rfl) (fun _ => by kernel_rfl) (fun _ => by kernel_rfl) (fun _ => by kernel_rfl)
    (equal_hosts_at 9997 a b c e a' b' c' e') (fun w => run_equalIn_int w 9998 _ _ _ _ _ Tryz.underlying3)

#print axioms open_end
#print axioms shut_end
#print axioms equal_ends
end Go.Proofs.YtdimfppijcebjaaGreatDoor
