/- Ends compared (api.End, by value): four bytes and a number. -/
import Derived.Test.YtfeiafjeidnmkaaMem
import Derived.Laws.StructEq
namespace Go.Proofs.Ytfeiafjeidnmkaa.Da
open Go.Proofs.Ytfeiafjeidnmkaa
open Go Go.ChangeShapes Go.WideShapes Go.ChangeAt Go.RowKit
set_option maxRecDepth 100000
set_option linter.unusedVariables false

theorem range4 : List.range' 0 ((4 - 0 + 1 - 1) / 1) = [0, 1, 2, 3] := rfl
theorem equal_four {P : Program} (d : Nat) (t el : TypeId) (xs ys : Array Value) (x0 x1 x2 x3 y0 y1 y2 y3 : Value) (r0 r1 r2 r3 : Bool) (w : World)
    (hu : P.underlying t = some (.array 4 el)) (hs : ∀ w, (sizeOf el).run P w = .ok 1 w)
    (p0 : ∀ w, (part el xs (0 * 1)).run P w = .ok x0 w) (p1 : ∀ w, (part el xs (1 * 1)).run P w = .ok x1 w) (p2 : ∀ w, (part el xs (2 * 1)).run P w = .ok x2 w) (p3 : ∀ w, (part el xs (3 * 1)).run P w = .ok x3 w)
    (q0 : ∀ w, (part el ys (0 * 1)).run P w = .ok y0 w) (q1 : ∀ w, (part el ys (1 * 1)).run P w = .ok y1 w) (q2 : ∀ w, (part el ys (2 * 1)).run P w = .ok y2 w) (q3 : ∀ w, (part el ys (3 * 1)).run P w = .ok y3 w)
    (e0 : ∀ w, (Op.equalIn d el x0 y0).run P w = .ok r0 w) (e1 : ∀ w, (Op.equalIn d el x1 y1).run P w = .ok r1 w) (e2 : ∀ w, (Op.equalIn d el x2 y2).run P w = .ok r2 w) (e3 : ∀ w, (Op.equalIn d el x3 y3).run P w = .ok r3 w) :
    (Op.equalIn (d + 1) t (.agg xs) (.agg ys)).run P w = .ok (r0 && r1 && r2 && r3) w := by
  rw [Op.equalIn]
  simp only [Sem.run_bind, run_underlying hu, Result.andThen_ok, hs]
  simp only [Std.Legacy.Range.forIn_eq_forIn_range', Std.Legacy.Range.size, range4]
  cases r0
  · simp only [List.forIn_cons, Sem.run_bind, p0, q0, e0, Result.andThen_ok, Bool.not_false, if_true, Sem.run_pure, Bool.false_and]
  cases r1
  · simp only [List.forIn_cons, Sem.run_bind, p0, q0, e0, p1, q1, e1, Result.andThen_ok, Bool.not_false, Bool.not_true, Bool.false_eq_true, if_true, if_false, Sem.run_pure, Bool.false_and, Bool.true_and]
  cases r2
  · simp only [List.forIn_cons, Sem.run_bind, p0, q0, e0, p1, q1, e1, p2, q2, e2, Result.andThen_ok, Bool.not_false, Bool.not_true, Bool.false_eq_true, if_true, if_false, Sem.run_pure, Bool.false_and, Bool.true_and]
  cases r3
  · simp only [List.forIn_cons, Sem.run_bind, p0, q0, e0, p1, q1, e1, p2, q2, e2, p3, q3, e3, Result.andThen_ok, Bool.not_false, Bool.not_true, Bool.false_eq_true, if_true, if_false, Sem.run_pure, Bool.true_and]
  · simp only [List.forIn_cons, List.forIn_nil, Sem.run_bind, p0, q0, e0, p1, q1, e1, p2, q2, e2, p3, q3, e3, Result.andThen_ok, Bool.not_true, Bool.false_eq_true, if_false, Sem.run_pure, Bool.true_and]
theorem equal_host_at (d : Nat) (a b c e a' b' c' e' : Int) (w : World) :
    (Op.equalIn (d + 2) 39 (.agg #[.int .u8 a, .int .u8 b, .int .u8 c, .int .u8 e]) (.agg #[.int .u8 a', .int .u8 b', .int .u8 c', .int .u8 e'])).run Try.prog w = .ok (a == a' && b == b' && c == c' && e == e') w :=
  equal_four (d + 1) 39 5 _ _ (.int .u8 a) (.int .u8 b) (.int .u8 c) (.int .u8 e) (.int .u8 a') (.int .u8 b') (.int .u8 c') (.int .u8 e') _ _ _ _ w Try.underlying39 (fun _ => by kernel_rfl)
    (fun _ => by kernel_rfl) (fun _ => by kernel_rfl) (fun _ => by kernel_rfl) (fun _ => by kernel_rfl) (fun _ => by kernel_rfl) (fun _ => by kernel_rfl) (fun _ => by kernel_rfl) (fun _ => by kernel_rfl)
    (fun w => run_equalIn_int w d _ _ _ _ _ Try.underlying5) (fun w => run_equalIn_int w d _ _ _ _ _ Try.underlying5) (fun w => run_equalIn_int w d _ _ _ _ _ Try.underlying5) (fun w => run_equalIn_int w d _ _ _ _ _ Try.underlying5)
theorem eq_field {P : Program} (d : Nat) (xs ys : Array Value) (f : Field) (fs : List Field) (x y : Value) (r rs : Bool) (w : World) (n : (f.name != "_") = true)
    (p : ∀ w, (part f.type xs f.offset).run P w = .ok x w) (q : ∀ w, (part f.type ys f.offset).run P w = .ok y w) (e : ∀ w, (Op.equalIn d f.type x y).run P w = .ok r w)
    (h : (Op.eqFields d xs ys fs).run P w = .ok rs w) : (Op.eqFields d xs ys (f :: fs)).run P w = .ok (r && rs) w := by
  have m : f.name ≠ "_" := by simpa using n
  simp only [Op.eqFields, if_pos m, Sem.run_bind, p, q, e, Result.andThen_ok, Sem.run_ite, Sem.run_pure]
  cases r
  · simp
  · simp only [Bool.not_true, Bool.false_eq_true, if_false, Bool.true_and]; exact h
theorem eq_last {P : Program} (d : Nat) (xs ys : Array Value) (f : Field) (x y : Value) (r : Bool) (w : World) (n : (f.name != "_") = true)
    (p : ∀ w, (part f.type xs f.offset).run P w = .ok x w) (q : ∀ w, (part f.type ys f.offset).run P w = .ok y w) (e : ∀ w, (Op.equalIn d f.type x y).run P w = .ok r w) : (Op.eqFields d xs ys [f]).run P w = .ok r w := by
  have := eq_field d xs ys f [] x y r true w n p q e (by simp [Op.eqFields])
  rw [Bool.and_true] at this; exact this
theorem equal_struct {P : Program} (d : Nat) (t : TypeId) (fs : Array Field) (xs ys : Array Value) (r : Bool) (w : World) (hu : P.underlying t = some (.struct fs)) (hp : P.stoodInHeld t = false)
    (h : (Op.eqFields d xs ys fs.toList).run P w = .ok r w) : (Op.equalIn (d + 1) t (.agg xs) (.agg ys)).run P w = .ok r w := by
  have hf : P.fieldsOf t = fs := by unfold Program.fieldsOf; rw [hu]
  rw [run_equalIn_struct w d t xs ys (by rw [hf]; exact hu) hp, hf]
  exact h
theorem equal_end_at (d : Nat) (a b c e p a' b' c' e' p' : Int) (w : World) :
    (Op.equalIn (d + 3) 41 (.agg #[.int .u8 a, .int .u8 b, .int .u8 c, .int .u8 e, .int .i64 p]) (.agg #[.int .u8 a', .int .u8 b', .int .u8 c', .int .u8 e', .int .i64 p'])).run Try.prog w = .ok ((a == a' && b == b' && c == c' && e == e') && p == p') w :=
  equal_struct (d + 2) 41 _ _ _ _ w Try.underlying41 (by kernel_rfl)
    (eq_field _ _ _ _ _ (.agg #[.int .u8 a, .int .u8 b, .int .u8 c, .int .u8 e]) (.agg #[.int .u8 a', .int .u8 b', .int .u8 c', .int .u8 e']) _ _ w (by kernel_rfl) (fun _ => by kernel_rfl) (fun _ => by kernel_rfl) (equal_host_at d a b c e a' b' c' e')
    (eq_last _ _ _ _ (.int .i64 p) (.int .i64 p') _ w (by kernel_rfl) (fun _ => by kernel_rfl) (fun _ => by kernel_rfl) (fun w => run_equalIn_int w (d + 1) _ _ _ _ _ Try.underlying3)))

theorem equal_ends (a b c e p a' b' c' e' p' : Int) (w : World) : (Op.equalIn 10000 41 (.agg #[.int .u8 a, .int .u8 b, .int .u8 c, .int .u8 e, .int .i64 p]) (.agg #[.int .u8 a', .int .u8 b', .int .u8 c', .int .u8 e', .int .i64 p'])).run Try.prog w = .ok ((a == a' && b == b' && c == c' && e == e') && p == p') w := equal_end_at 9997 a b c e p a' b' c' e' p' w

#print axioms equal_ends
end Go.Proofs.Ytfeiafjeidnmkaa.Da
