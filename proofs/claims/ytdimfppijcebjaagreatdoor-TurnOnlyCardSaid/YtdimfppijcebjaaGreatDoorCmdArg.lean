/- A command as an argument (two texts, by value), and two commands compared. -/
import Derived.Test.YtdimfppijcebjaaGreatDoorVerbs
import Derived.Test.YtdimfppijcebjaaGreatDoorEnvBare
import Derived.ChangeSame
namespace Go.Proofs.YtdimfppijcebjaaGreatDoor
open Go Go.ChangeShapes Go.WideShapes Go.ChangeAt Go.RowKit
set_option maxRecDepth 100000

abbrev str (l : List UInt8) : Value := .string ⟨l.toArray⟩
theorem size_mk (l : List UInt8) : (ByteArray.mk l.toArray).size = l.length := by simp [ByteArray.size]
abbrev cmdV (v a : List UInt8) : Value := .agg #[.string ⟨v.toArray⟩, .string ⟨a.toArray⟩]

section
variable {H : Type} {enc : TypeId × Value → H} {W : World} {base : Nat} {sp : Nat → Bool} {held : Bool}

theorem cmd_cells : Tryz.prog.cellsOf 23 = 2 := by kernel_rfl
theorem str_cells : Tryz.prog.cellsOf 9 = 1 := by kernel_rfl

set_option maxRecDepth 100000 in
/-- a command that comes in is two texts -/
theorem open_cmd {r : Reach} {b0 : Nat} {v : Value} {d : DataW H} {ps : List MemPlace} (hval : Value.okWide Tryz.prog W r b0 23 v) (hd : DataW.Trod enc Tryz.prog W base sp held 23 v d ps) :
    ∃ x y : List UInt8, v = cmdV x y ∧ d = .agg [.lit (.string x), .lit (.string y)] ∧ ps = [] ∧ x.length ≤ maxLen ∧ y.length ≤ maxLen := by
  have hv : ∃ c0 c1, v = .agg #[c0, c1] := by
    simp only [Value.okWide, Tryz.underlying23] at hval
    obtain ⟨cs, h1, h2, _⟩ := hval
    rw [cmd_cells] at h2
    obtain ⟨l⟩ := cs
    match l, h2 with
    | [c0, c1], _ => exact ⟨c0, c1, h1⟩
  obtain ⟨c0, c1, rfl⟩ := hv
  obtain ⟨fuel, hf⟩ := hd
  obtain ⟨y0, y1, n, hx, _, h0, h1⟩ := trod_struct2 Tryz.underlying23 hf
  rw [str_cells] at h0 h1
  simp only [Value.cells, List.drop_zero, List.drop_succ_cons, List.take_succ_cons, List.take_zero] at h0 h1
  obtain ⟨⟨⟨x⟩⟩, e0, rfl, w0⟩ := DataW.trod_string Tryz.underlying9 h0
  obtain ⟨⟨⟨y⟩⟩, e1, rfl, w1⟩ := DataW.trod_string Tryz.underlying9 h1
  simp at e0 e1
  subst e0; subst e1
  simp only [Prod.mk.injEq] at hx
  exact ⟨x, y, rfl, hx.1, hx.2, by simpa [ByteArray.size] using w0, by simpa [ByteArray.size] using w1⟩

set_option maxRecDepth 100000 in
theorem shut_cmd {x y : List UInt8} (hx : x.length ≤ maxLen) (hy : y.length ≤ maxLen) :
    DataW.Trod enc Tryz.prog W base sp held 23 (cmdV x y) (.agg [.lit (.string x), .lit (.string y)]) [] :=
  ⟨2, by
    have h0 : DataW.trod enc Tryz.prog W base sp held 1 9 [.string ⟨x.toArray⟩] = some (.lit (.string x), []) := by
      have : (ByteArray.mk x.toArray).size ≤ maxLen := by simpa [ByteArray.size] using hx
      simp [DataW.trod, Tryz.underlying9, this]
    have h1 : DataW.trod enc Tryz.prog W base sp held 1 9 [.string ⟨y.toArray⟩] = some (.lit (.string y), []) := by
      have : (ByteArray.mk y.toArray).size ≤ maxLen := by simpa [ByteArray.size] using hy
      simp [DataW.trod, Tryz.underlying9, this]
    have := trod_struct2_mk (enc := enc) (w := W) (base := base) (spare := sp) (held := held) (n := 1) (cs := [.string ⟨x.toArray⟩, .string ⟨y.toArray⟩]) Tryz.underlying23 (by rw [cmd_cells]; rfl) (by rw [str_cells]; exact h0) (by rw [str_cells]; exact h1)
    exact this⟩
end

theorem equal_two_of {P : Program} (d : Nat) (t : TypeId) (f0 f1 : Field) (xs ys : Array Value) (x0 x1 y0 y1 : Value) (r0 r1 : Bool) (w : World)
    (hu : P.underlying t = some (.struct #[f0, f1])) (hp : P.stoodInHeld t = false) (n0 : (f0.name != "_") = true) (n1 : (f1.name != "_") = true)
    (p0 : ∀ w, (part f0.type xs f0.offset).run P w = .ok x0 w) (p1 : ∀ w, (part f1.type xs f1.offset).run P w = .ok x1 w)
    (q0 : ∀ w, (part f0.type ys f0.offset).run P w = .ok y0 w) (q1 : ∀ w, (part f1.type ys f1.offset).run P w = .ok y1 w)
    (e0 : ∀ w, (Op.equalIn d f0.type x0 y0).run P w = .ok r0 w) (e1 : ∀ w, (Op.equalIn d f1.type x1 y1).run P w = .ok r1 w) :
    (Op.equalIn (d + 1) t (.agg xs) (.agg ys)).run P w = .ok (r0 && r1) w := by
  have hf : P.fieldsOf t = #[f0, f1] := by unfold Program.fieldsOf; rw [hu]
  rw [run_equalIn_struct w d t xs ys (by rw [hf]; exact hu) hp, hf]
  have m0 : f0.name ≠ "_" := by simpa using n0
  have m1 : f1.name ≠ "_" := by simpa using n1
  show (Op.eqFields d xs ys [f0, f1]).run P w = _
  simp only [Op.eqFields, if_pos m0, if_pos m1, Sem.run_bind, p0, q0, e0, Result.andThen_ok, Sem.run_ite, Sem.run_pure]
  cases r0
  · simp
  · simp only [Bool.not_true, Bool.false_eq_true, if_false, p1, q1, e1, Result.andThen_ok, Bool.true_and]
    cases r1 <;> simp
set_option maxRecDepth 100000 in
/-- two commands compared -/
theorem equal_cmds (v a v' a' : List UInt8) (w : World) : (Op.equalIn 10000 23 (cmdV v a) (cmdV v' a')).run Tryz.prog w = .ok (decide (v = v' ∧ a = a')) w := by
  have h := equal_two_of (P := Tryz.prog) 9999 23 _ _ #[.string ⟨v.toArray⟩, .string ⟨a.toArray⟩] #[.string ⟨v'.toArray⟩, .string ⟨a'.toArray⟩] (.string ⟨v.toArray⟩) (.string ⟨a.toArray⟩) (.string ⟨v'.toArray⟩) (.string ⟨a'.toArray⟩) _ _ w Tryz.underlying23 (by kernel_rfl) (by kernel_rfl) (by kernel_rfl)
    (fun _ => by kernel_rfl) (fun _ => by kernel_rfl) (fun _ => by kernel_rfl) (fun _ => by kernel_rfl)
    (fun w => run_equalIn_string w 9998 _ _ _ Tryz.underlying9) (fun w => run_equalIn_string w 9998 _ _ _ Tryz.underlying9)
  rw [h]
  congr 1
  by_cases h0 : v = v' <;> by_cases h1 : a = a' <;> simp_all

#print axioms open_cmd
#print axioms shut_cmd
#print axioms equal_cmds
end Go.Proofs.YtdimfppijcebjaaGreatDoor
