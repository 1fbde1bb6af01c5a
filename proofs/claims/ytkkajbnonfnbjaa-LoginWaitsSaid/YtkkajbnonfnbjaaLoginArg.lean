/- A login as an argument (two numbers and a text, by value), and two logins compared. -/
import Derived.Test.YtkkajbnonfnbjaaLoginPlain
import Derived.Test.YtkkajbnonfnbjaaHosts
import Derived.Laws.StructEq
import Derived.OpenShut
import Derived.ProofKit
import Derived.ChangeSame
namespace Go.Proofs.Ytkkajbnonfnbjaa.Lo
open Go.Proofs.Ytkkajbnonfnbjaa Go.Proofs.Ytkkajbnonfnbjaa.Ro
open Go Go.ChangeShapes Go.WideShapes Go.ChangeAt Go.RowKit Go.Deep
set_option maxRecDepth 100000
set_option linter.unusedVariables false

abbrev loginV (q : Lg) : Value := .agg #[.int .i64 q.ph, .int .i64 q.te, .string ⟨q.us.toArray⟩]
/-- its numbers are ints, its text is no longer than texts are -/
structure Lg.Wf (q : Lg) : Prop where
  p0 : -9223372036854775808 ≤ q.ph
  p1 : q.ph ≤ 9223372036854775807
  t0 : -9223372036854775808 ≤ q.te
  t1 : q.te ≤ 9223372036854775807
  us : q.us.length ≤ 9223372036854775807

theorem eq_field {P : Program} (d : Nat) (xs ys : Array Value) (f : Field) (fs : List Field) (x y : Value) (r rs : Bool) (w : World) (n : (f.name != "_") = true)
    (p : ∀ w, (part f.type xs f.offset).run P w = .ok x w) (q : ∀ w, (part f.type ys f.offset).run P w = .ok y w) (e : ∀ w, (Op.equalIn d f.type x y).run P w = .ok r w)
    (h : (Op.eqFields d xs ys fs).run P w = .ok rs w) : (Op.eqFields d xs ys (f :: fs)).run P w = .ok (r && rs) w := by
  have m : f.name ≠ "_" := by simpa using n
  simp only [Op.eqFields, if_pos m, Sem.run_bind, p, q, e, Result.andThen_ok, Sem.run_ite, Sem.run_pure]
  cases r
  · simp
  · simp only [Bool.not_true, Bool.false_eq_true, if_false, Bool.true_and]; exact h
theorem eq_last {P : Program} (d : Nat) (xs ys : Array Value) (f : Field) (x y : Value) (r : Bool) (w : World) (n : (f.name != "_") = true)
    (p : ∀ w, (part f.type xs f.offset).run P w = .ok x w) (q : ∀ w, (part f.type ys f.offset).run P w = .ok y w) (e : ∀ w, (Op.equalIn d f.type x y).run P w = .ok r w) : (Op.eqFields d xs ys [f]).run P w = .ok r w := by
  have := eq_field d xs ys f [] x y r true w n p q e (by simp [Op.eqFields])
  rw [Bool.and_true] at this; exact this
theorem equal_struct {P : Program} (d : Nat) (t : TypeId) (fs : Array Field) (xs ys : Array Value) (r : Bool) (w : World) (hu : P.underlying t = some (.struct fs)) (hp : P.stoodInHeld t = false)
    (h : (Op.eqFields d xs ys fs.toList).run P w = .ok r w) : (Op.equalIn (d + 1) t (.agg xs) (.agg ys)).run P w = .ok r w := by
  have hf : P.fieldsOf t = fs := by unfold Program.fieldsOf; rw [hu]
  rw [run_equalIn_struct w d t xs ys (by rw [hf]; exact hu) hp, hf]
  exact h
theorem same_text (a b : List UInt8) : ((ByteArray.mk a.toArray).toList == (ByteArray.mk b.toArray).toList) = decide (a = b) := by
  by_cases h : a = b <;> simp [h]
theorem equal_text_at (d : Nat) (a b : List UInt8) (w : World) : (Op.equalIn (d + 1) 9 (.string ⟨a.toArray⟩) (.string ⟨b.toArray⟩)).run Try.prog w = .ok (decide (a = b)) w := by
  rw [run_equalIn_string w d _ _ _ Try.underlying9, same_text]
theorem equal_logins (x y : Lg) (w : World) : (Op.equalIn 10000 23 (loginV x) (loginV y)).run Try.prog w = .ok (eqL x y) w :=
  equal_struct 9999 23 _ _ _ _ w Try.underlying23 (by kernel_rfl)
    (eq_field _ _ _ _ _ (.int .i64 x.ph) (.int .i64 y.ph) _ _ w (by kernel_rfl) (fun _ => by kernel_rfl) (fun _ => by kernel_rfl) (fun w => run_equalIn_int w 9998 _ _ _ _ _ Try.underlying3)
    (eq_field _ _ _ _ _ (.int .i64 x.te) (.int .i64 y.te) _ _ w (by kernel_rfl) (fun _ => by kernel_rfl) (fun _ => by kernel_rfl) (fun w => run_equalIn_int w 9998 _ _ _ _ _ Try.underlying3)
    (eq_last _ _ _ _ (.string ⟨x.us.toArray⟩) (.string ⟨y.us.toArray⟩) _ w (by kernel_rfl) (fun _ => by kernel_rfl) (fun _ => by kernel_rfl) (fun w => equal_text_at 9998 x.us y.us w))))

section
variable {H : Type} {enc : TypeId × Value → H}
theorem login_cells : Try.prog.cellsOf 23 = 3 := by kernel_rfl
theorem int_cells' : Try.prog.cellsOf 3 = 1 := by kernel_rfl
theorem str_cells' : Try.prog.cellsOf 9 = 1 := by kernel_rfl
theorem get_ex {α : Type} {l : List α} {n i : Nat} (h : l.length = n) (hi : i < n) : ∃ y, l[i]? = some y := ⟨l[i]'(by omega), List.getElem?_eq_getElem (by omega)⟩
theorem wf_int {n : Int} (h : (Lit.int .i64 n).wf = true) : -9223372036854775808 ≤ n ∧ n ≤ 9223372036854775807 := by
  have e : (Lit.int .i64 n).wf = (decide (-9223372036854775808 ≤ n) && decide (n ≤ 9223372036854775807)) := rfl
  rw [e] at h
  simpa using h
theorem login_cs {w : World} {base : Nat} {sp : Nat → Bool} {held : Bool} {fuel : Nat} {cs : List Value} {x : DataW H × List MemPlace} (hf : DataW.trod enc Try.prog w base sp held fuel 23 cs = some x) :
    ∃ q : Lg, cs = [.int .i64 q.ph, .int .i64 q.te, .string ⟨q.us.toArray⟩] ∧ q.Wf := by
  obtain ⟨xs, k, _, _, hc, hll, hfl⟩ := DataW.trod_struct Try.underlying23 hf
  rw [login_cells] at hc
  have hl3 : xs.length = 3 := hll
  match cs, hc with
  | [q0, q1, q2], _ =>
    obtain ⟨y0, e0⟩ := get_ex hl3 (i := 0) (by omega)
    obtain ⟨y1, e1⟩ := get_ex hl3 (i := 1) (by omega)
    obtain ⟨y2, e2⟩ := get_ex hl3 (i := 2) (by omega)
    have h0 : DataW.trod enc Try.prog w base sp held k 3 [q0] = some y0 := by rw [← e0]; exact hfl 0 _ rfl
    have h1 : DataW.trod enc Try.prog w base sp held k 3 [q1] = some y1 := by rw [← e1]; exact hfl 1 _ rfl
    have h2 : DataW.trod enc Try.prog w base sp held k 9 [q2] = some y2 := by rw [← e2]; exact hfl 2 _ rfl
    obtain ⟨n0, f0, _, w0⟩ := DataW.trod_int Try.underlying3 h0
    obtain ⟨n1, f1, _, w1⟩ := DataW.trod_int Try.underlying3 h1
    obtain ⟨⟨⟨s⟩⟩, f2, _, w2⟩ := DataW.trod_string Try.underlying9 h2
    simp only [List.cons.injEq, and_true] at f0 f1 f2
    subst f0; subst f1; subst f2
    have h3 : s.length ≤ maxLen := by simpa [ByteArray.size] using w2
    unfold maxLen at h3
    exact ⟨⟨n0, n1, s⟩, rfl, ⟨(wf_int w0).1, (wf_int w0).2, (wf_int w1).1, (wf_int w1).2, h3⟩⟩
theorem open_login {r : Reach} {W : World} {b0 : Nat} {v : Value} {d : DataW H} {ps : List MemPlace} (hval : Value.okWide Try.prog W r b0 23 v)
    (hd : DataW.Trod enc Try.prog W 0 (fun _ => true) true 23 v d ps) : ∃ q : Lg, v = loginV q ∧ q.Wf := by
  have hv : ∃ cs, v = .agg cs := by
    simp only [Value.okWide, Try.underlying23] at hval
    obtain ⟨cs, h1, h2, _⟩ := hval
    exact ⟨cs, h1⟩
  obtain ⟨⟨cs⟩, rfl⟩ := hv
  obtain ⟨fuel, hf⟩ := hd
  obtain ⟨q, e, h⟩ := login_cs hf
  refine ⟨q, ?_, h⟩
  have e' : cs = [.int .i64 q.ph, .int .i64 q.te, .string ⟨q.us.toArray⟩] := e
  rw [e']
end
theorem wf_new : newL.Wf := ⟨by decide, by decide, by decide, by decide, by decide⟩

#print axioms open_login
#print axioms equal_logins
end Go.Proofs.Ytkkajbnonfnbjaa.Lo
