/- Lists of verbs (api.Verb) in memory: a slice holds such a list; kept by every call that only makes memory; two verbs compared. -/
import Derived.Test.YtdimfppijcebjaaGreatDoorBlocks
import Derived.Test.YtdimfppijcebjaaGreatDoorRows
import Derived.Test.YtdimfppijcebjaaGreatDoorPlains
import Derived.Laws.StructEq
import Derived.Laws.Small
import Derived.Laws.Slices
import Derived.Laws.IdiomStrings
import Derived.Lib.Hide
import Derived.WalkKit
import Derived.ProofKit
namespace Go.Proofs.YtdimfppijcebjaaGreatDoor.Vb
open Go.Proofs.YtdimfppijcebjaaGreatDoor
open Go.ChangeShapes Go.WideShapes Go.ChangeAt Go.RowKit
set_option maxRecDepth 100000

abbrev verbCs (v : Vb) : List Value := [.string ⟨v.name.toArray⟩, .int .i64 v.kind, .int .i64 v.arg, .bool v.path]
abbrev verbV (v : Vb) : Value := .agg #[.string ⟨v.name.toArray⟩, .int .i64 v.kind, .int .i64 v.arg, .bool v.path]
/-- the slice v holds the verbs l -/
def VerbsIs (w : World) (v : Value) (l : List Vb) : Prop :=
  ∃ b o c, v = .slice (some ⟨b, o, none⟩) l.length c ∧ b < w.heap.size ∧ ∀ i (h : i < l.length), w.cell? ⟨b, o + i * 4, none⟩ = some (.string ⟨l[i].name.toArray⟩) ∧ w.cell? ⟨b, o + i * 4 + 1, none⟩ = some (.int .i64 l[i].kind) ∧ w.cell? ⟨b, o + i * 4 + 2, none⟩ = some (.int .i64 l[i].arg) ∧ w.cell? ⟨b, o + i * 4 + 3, none⟩ = some (.bool l[i].path)
theorem VerbsIs.call {w w' : World} {v : Value} {l : List Vb} (h : VerbsIs w v l) (hb : Below w.heap.size w w') : VerbsIs w' v l := by
  obtain ⟨b, o, c, rfl, h1, h2⟩ := h
  refine ⟨b, o, c, rfl, Nat.lt_of_lt_of_le h1 hb.size, fun i hi => ?_⟩
  obtain ⟨q0, q1, q2, q3⟩ := h2 i hi
  refine ⟨?_, ?_, ?_, ?_⟩
  · rw [hb.cell (p := ⟨b, _, none⟩) h1]; exact q0
  · rw [hb.cell (p := ⟨b, _, none⟩) h1]; exact q1
  · rw [hb.cell (p := ⟨b, _, none⟩) h1]; exact q2
  · rw [hb.cell (p := ⟨b, _, none⟩) h1]; exact q3
theorem VerbsIs.alloc {w : World} {v : Value} {l : List Vb} (h : VerbsIs w v l) (o : Obj) : VerbsIs (w.alloc o) v l := h.call ((Below.refl _ _).alloc (Nat.le_refl _) o)
theorem verbs_open {w : World} {p : Option Addr} {n c : Nat} {l : List Vb} (h : VerbsIs w (.slice p n c) l) : ∃ b o, p = some ⟨b, o, none⟩ ∧ b < w.heap.size ∧ ∀ i (h : i < l.length), w.cell? ⟨b, o + i * 4, none⟩ = some (.string ⟨l[i].name.toArray⟩) ∧ w.cell? ⟨b, o + i * 4 + 1, none⟩ = some (.int .i64 l[i].kind) ∧ w.cell? ⟨b, o + i * 4 + 2, none⟩ = some (.int .i64 l[i].arg) ∧ w.cell? ⟨b, o + i * 4 + 3, none⟩ = some (.bool l[i].path) := by
  obtain ⟨b, o, c', e, h1, h2⟩ := h
  injection e with e1 _ _
  exact ⟨b, o, e1, h1, h2⟩
theorem flat4 : ∀ (l : List Vb) (i : Nat) (h : i < l.length), (l.flatMap verbCs)[i * 4]? = some (.string ⟨l[i].name.toArray⟩) ∧ (l.flatMap verbCs)[i * 4 + 1]? = some (.int .i64 l[i].kind) ∧ (l.flatMap verbCs)[i * 4 + 2]? = some (.int .i64 l[i].arg) ∧ (l.flatMap verbCs)[i * 4 + 3]? = some (.bool l[i].path)
  | x :: r, 0, _ => ⟨rfl, rfl, rfl, rfl⟩
  | x :: r, i + 1, h => by
    have := flat4 r i (by simpa using h)
    rw [show (i + 1) * 4 = i * 4 + 4 from by omega]
    exact this
/-- a block that holds them -/
theorem verbs_row {w : World} {b c : Nat} {t : TypeId} {l : List Vb} (h : IsRow w b t (l.flatMap verbCs).toArray) : VerbsIs w (.slice (some ⟨b, 0, none⟩) l.length c) l := by
  refine ⟨b, 0, c, rfl, h.lt, fun i hi => ?_⟩
  obtain ⟨q0, q1, q2, q3⟩ := flat4 l i hi
  simp only [Nat.zero_add]
  refine ⟨?_, ?_, ?_, ?_⟩
  · rw [h.cell]; simpa using q0
  · rw [h.cell]; simpa using q1
  · rw [h.cell]; simpa using q2
  · rw [h.cell]; simpa using q3

theorem equal_quad {P : Program} (d : Nat) (t : TypeId) (f0 f1 f2 f3 : Field) (xs ys : Array Value) (x0 x1 x2 x3 y0 y1 y2 y3 : Value) (r0 r1 r2 r3 : Bool) (w : World)
    (hu : P.underlying t = some (.struct #[f0, f1, f2, f3])) (hp : P.stoodInHeld t = false) (n0 : (f0.name != "_") = true) (n1 : (f1.name != "_") = true) (n2 : (f2.name != "_") = true) (n3 : (f3.name != "_") = true)
    (p0 : ∀ w, (part f0.type xs f0.offset).run P w = .ok x0 w) (p1 : ∀ w, (part f1.type xs f1.offset).run P w = .ok x1 w) (p2 : ∀ w, (part f2.type xs f2.offset).run P w = .ok x2 w) (p3 : ∀ w, (part f3.type xs f3.offset).run P w = .ok x3 w)
    (q0 : ∀ w, (part f0.type ys f0.offset).run P w = .ok y0 w) (q1 : ∀ w, (part f1.type ys f1.offset).run P w = .ok y1 w) (q2 : ∀ w, (part f2.type ys f2.offset).run P w = .ok y2 w) (q3 : ∀ w, (part f3.type ys f3.offset).run P w = .ok y3 w)
    (e0 : ∀ w, (Op.equalIn d f0.type x0 y0).run P w = .ok r0 w) (e1 : ∀ w, (Op.equalIn d f1.type x1 y1).run P w = .ok r1 w) (e2 : ∀ w, (Op.equalIn d f2.type x2 y2).run P w = .ok r2 w) (e3 : ∀ w, (Op.equalIn d f3.type x3 y3).run P w = .ok r3 w) :
    (Op.equalIn (d + 1) t (.agg xs) (.agg ys)).run P w = .ok (r0 && (r1 && (r2 && r3))) w := by
  have hf : P.fieldsOf t = #[f0, f1, f2, f3] := by unfold Program.fieldsOf; rw [hu]
  rw [run_equalIn_struct w d t xs ys (by rw [hf]; exact hu) hp, hf]
  have m0 : f0.name ≠ "_" := by simpa using n0
  have m1 : f1.name ≠ "_" := by simpa using n1
  have m2 : f2.name ≠ "_" := by simpa using n2
  have m3 : f3.name ≠ "_" := by simpa using n3
  show (Op.eqFields d xs ys [f0, f1, f2, f3]).run P w = _
  simp only [Op.eqFields, if_pos m0, if_pos m1, if_pos m2, if_pos m3, Sem.run_bind, p0, q0, e0, Result.andThen_ok, Sem.run_ite, Sem.run_pure]
  cases r0
  · simp
  · simp only [Bool.not_true, Bool.false_eq_true, if_false, p1, q1, e1, Result.andThen_ok, Bool.true_and]
    cases r1
    · simp
    · simp only [Bool.not_true, Bool.false_eq_true, if_false, p2, q2, e2, Result.andThen_ok, Bool.true_and]
      cases r2
      · simp
      · simp only [Bool.not_true, Bool.false_eq_true, if_false, p3, q3, e3, Result.andThen_ok, Bool.true_and]
        cases r3 <;> simp
set_option maxRecDepth 100000 in
/-- two verbs compared -/
theorem equal_verbs (a b : Vb) (w : World) : (Op.equalIn 10000 66 (verbV a) (verbV b)).run Tryz.prog w = .ok (decide (a = b)) w := by
  have h := equal_quad (P := Tryz.prog) 9999 66 _ _ _ _ #[.string ⟨a.name.toArray⟩, .int .i64 a.kind, .int .i64 a.arg, .bool a.path] #[.string ⟨b.name.toArray⟩, .int .i64 b.kind, .int .i64 b.arg, .bool b.path] (.string ⟨a.name.toArray⟩) (.int .i64 a.kind) (.int .i64 a.arg) (.bool a.path) (.string ⟨b.name.toArray⟩) (.int .i64 b.kind) (.int .i64 b.arg) (.bool b.path) _ _ _ _ w Tryz.underlying66 (by kernel_rfl) (by kernel_rfl) (by kernel_rfl) (by kernel_rfl) (by kernel_rfl)
    (fun _ => by kernel_rfl) (fun _ => by kernel_rfl) (fun _ => by kernel_rfl) (fun _ => by kernel_rfl) (fun _ => by kernel_rfl) (fun _ => by kernel_rfl) (fun _ => by kernel_rfl) (fun _ => by kernel_rfl)
    (fun w => run_equalIn_string w 9998 _ _ _ Tryz.underlying9) (fun w => run_equalIn_int w 9998 _ _ _ _ _ Tryz.underlying3) (fun w => run_equalIn_int w 9998 _ _ _ _ _ Tryz.underlying3) (fun w => run_equalIn_bool w 9998 _ _ _ Tryz.underlying4)
  rw [h]
  obtain ⟨n, k, r, p⟩ := a
  obtain ⟨n', k', r', p'⟩ := b
  congr 1
  by_cases h0 : n = n' <;> by_cases h1 : k = k' <;> by_cases h2 : r = r' <;> by_cases h3 : p = p' <;> simp_all

#print axioms equal_verbs
end Go.Proofs.YtdimfppijcebjaaGreatDoor.Vb
