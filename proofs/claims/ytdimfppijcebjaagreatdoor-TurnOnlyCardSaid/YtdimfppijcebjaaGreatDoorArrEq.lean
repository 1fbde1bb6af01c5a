/- Two arrays of four are compared element by element. -/
import Derived.Test.YtdimfppijcebjaaGreatDoorEnv
import Derived.Laws.StructEq
namespace Go.Proofs.YtdimfppijcebjaaGreatDoor
open Go

theorem range4 : List.range' 0 ((4 - 0 + 1 - 1) / 1) = [0, 1, 2, 3] := rfl

theorem equal_four {P : Program} (d : Nat) (t el : TypeId) (xs ys : Array Value) (x0 x1 x2 x3 y0 y1 y2 y3 : Value) (r0 r1 r2 r3 : Bool) (w : World)
    (hu : P.underlying t = some (.array 4 el)) (hs : ∀ w, (sizeOf el).run P w = .ok 1 w)
    (p0 : ∀ w, (part el xs (0 * 1)).run P w = .ok x0 w) (p1 : ∀ w, (part el xs (1 * 1)).run P w = .ok x1 w) (p2 : ∀ w, (part el xs (2 * 1)).run P w = .ok x2 w) (p3 : ∀ w, (part el xs (3 * 1)).run P w = .ok x3 w)
    (q0 : ∀ w, (part el ys (0 * 1)).run P w = .ok y0 w) (q1 : ∀ w, (part el ys (1 * 1)).run P w = .ok y1 w) (q2 : ∀ w, (part el ys (2 * 1)).run P w = .ok y2 w) (q3 : ∀ w, (part el ys (3 * 1)).run P w = .ok y3 w)
    (e0 : ∀ w, (Op.equalIn d el x0 y0).run P w = .ok r0 w) (e1 : ∀ w, (Op.equalIn d el x1 y1).run P w = .ok r1 w) (e2 : ∀ w, (Op.equalIn d el x2 y2).run P w = .ok r2 w) (e3 : ∀ w, (Op.equalIn d el x3 y3).run P w = .ok r3 w) :
    (Op.equalIn (d + 1) t (.agg xs) (.agg ys)).run P w = .ok (r0 && r1 && r2 && r3) w := by
  rw [Op.equalIn]
  simp only [Sem.run_bind, run_underlying hu, Result.andThen_ok, hs]
  simp only [Std.Legacy.Range.forIn_eq_forIn_range', Std.Legacy.Range.size, range4]
  cases r0
  · simp only [List.forIn_cons, Sem.run_bind, p0, q0, e0, Result.andThen_ok, Bool.not_false, if_true, Sem.run_pure, Bool.false_and]
  cases r1
  · simp only [List.forIn_cons, Sem.run_bind, p0, q0, e0, p1, q1, e1, Result.andThen_ok, Bool.not_false, Bool.not_true, Bool.false_eq_true, if_true, if_false, Sem.run_pure, Bool.false_and, Bool.true_and]
  cases r2
  · simp only [List.forIn_cons, Sem.run_bind, p0, q0, e0, p1, q1, e1, p2, q2, e2, Result.andThen_ok, Bool.not_false, Bool.not_true, Bool.false_eq_true, if_true, if_false, Sem.run_pure, Bool.false_and, Bool.true_and]
  cases r3
  · simp only [List.forIn_cons, Sem.run_bind, p0, q0, e0, p1, q1, e1, p2, q2, e2, p3, q3, e3, Result.andThen_ok, Bool.not_false, Bool.not_true, Bool.false_eq_true, if_true, if_false, Sem.run_pure, Bool.true_and]
  · simp only [List.forIn_cons, List.forIn_nil, Sem.run_bind, p0, q0, e0, p1, q1, e1, p2, q2, e2, p3, q3, e3, Result.andThen_ok, Bool.not_true, Bool.false_eq_true, if_false, Sem.run_pure, Bool.true_and]

theorem equal_hosts (a b c e a' b' c' e' : Int) (w : World) :
    (Op.equalIn 10000 28 (.agg #[.int .u8 a, .int .u8 b, .int .u8 c, .int .u8 e]) (.agg #[.int .u8 a', .int .u8 b', .int .u8 c', .int .u8 e'])).run Tryz.prog w = .ok (a == a' && b == b' && c == c' && e == e') w :=
  equal_four 9999 28 5 _ _ (.int .u8 a) (.int .u8 b) (.int .u8 c) (.int .u8 e) (.int .u8 a') (.int .u8 b') (.int .u8 c') (.int .u8 e') _ _ _ _ w Tryz.underlying28 (fun _ => by kernel_rfl)
    (fun _ => by kernel_rfl) (fun _ => by kernel_rfl) (fun _ => by kernel_rfl) (fun _ => by kernel_rfl) (fun _ => by kernel_rfl) (fun _ => by kernel_rfl) (fun _ => by kernel_rfl) (fun _ => by kernel_rfl)
    (fun w => run_equalIn_int w 9998 _ _ _ _ _ Tryz.underlying5) (fun w => run_equalIn_int w 9998 _ _ _ _ _ Tryz.underlying5) (fun w => run_equalIn_int w 9998 _ _ _ _ _ Tryz.underlying5) (fun w => run_equalIn_int w 9998 _ _ _ _ _ Tryz.underlying5)

theorem equal_str (d : Nat) (a b : List UInt8) (w : World) : (Op.equalIn (d + 1) 9 (.string ⟨a.toArray⟩) (.string ⟨b.toArray⟩)).run Tryz.prog w = .ok (a == b) w := by
  rw [run_equalIn_string w d _ _ _ Tryz.underlying9, ByteArray.toList_eq, ByteArray.toList_eq]

#print axioms equal_hosts
end Go.Proofs.YtdimfppijcebjaaGreatDoor
