/- An address as an argument: four bytes by value. -/
import Derived.Test.YtdimfppijcebjaaGreatDoorEnv
namespace Go.Proofs.YtdimfppijcebjaaGreatDoor
open Go Go.ChangeShapes Go.WideShapes Go.ChangeAt Go.RowKit

variable {H : Type} {enc : TypeId × Value → H} {W : World} {base : Nat} {sp : Nat → Bool} {held : Bool}

theorem range_four : List.range 4 = [0, 1, 2, 3] := rfl
theorem host_cells : Tryz.prog.cellsOf 28 = 4 := by kernel_rfl
theorem byte_cells : Tryz.prog.cellsOf 5 = 1 := by kernel_rfl

set_option maxRecDepth 100000 in
/-- an address that comes in is four bytes -/
theorem open_host {r : Reach} {b0 : Nat} {v : Value} {d : DataW H} {ps : List MemPlace} (hval : Value.okWide Tryz.prog W r b0 28 v) (hd : DataW.Trod enc Tryz.prog W base sp held 28 v d ps) :
    ∃ a b c e : Int, v = .agg #[.int .u8 a, .int .u8 b, .int .u8 c, .int .u8 e] ∧ d = .agg [.lit (.int .u8 a), .lit (.int .u8 b), .lit (.int .u8 c), .lit (.int .u8 e)] ∧ ps = [] ∧
      (Lit.int .u8 a).wf = true ∧ (Lit.int .u8 b).wf = true ∧ (Lit.int .u8 c).wf = true ∧ (Lit.int .u8 e).wf = true := by
  have hv : ∃ c0 c1 c2 c3, v = .agg #[c0, c1, c2, c3] := by
    simp only [Value.okWide, Tryz.underlying28] at hval
    obtain ⟨cs, h1, h2, _⟩ := hval
    rw [host_cells] at h2
    obtain ⟨l⟩ := cs
    match l, h2 with
    | [c0, c1, c2, c3], _ => exact ⟨c0, c1, c2, c3, h1⟩
  obtain ⟨c0, c1, c2, c3, rfl⟩ := hv
  obtain ⟨fuel, hf⟩ := hd
  obtain ⟨xs, m, _, hx, _, hl, hel⟩ := DataW.trod_array Tryz.underlying28 hf
  rw [byte_cells] at hel
  match xs, hl with
  | [y0, y1, y2, y3], _ =>
    have h0 := hel 0 (by omega); have h1 := hel 1 (by omega); have h2 := hel 2 (by omega); have h3 := hel 3 (by omega)
    simp only [Value.cells, List.getElem?_cons_zero, List.getElem?_cons_succ] at h0 h1 h2 h3
    obtain ⟨a, ea, rfl, wa⟩ := DataW.trod_int Tryz.underlying5 h0
    obtain ⟨b, eb, rfl, wb⟩ := DataW.trod_int Tryz.underlying5 h1
    obtain ⟨c, ec, rfl, wc⟩ := DataW.trod_int Tryz.underlying5 h2
    obtain ⟨e, ee, rfl, we⟩ := DataW.trod_int Tryz.underlying5 h3
    simp at ea eb ec ee
    subst ea; subst eb; subst ec; subst ee
    simp only [Prod.mk.injEq] at hx
    exact ⟨a, b, c, e, rfl, hx.1, hx.2, wa, wb, wc, we⟩

set_option maxRecDepth 100000 in
theorem shut_host {a b c e : Int} (wa : (Lit.int .u8 a).wf = true) (wb : (Lit.int .u8 b).wf = true) (wc : (Lit.int .u8 c).wf = true) (we : (Lit.int .u8 e).wf = true) :
    DataW.Trod enc Tryz.prog W base sp held 28 (.agg #[.int .u8 a, .int .u8 b, .int .u8 c, .int .u8 e]) (.agg [.lit (.int .u8 a), .lit (.int .u8 b), .lit (.int .u8 c), .lit (.int .u8 e)]) [] :=
  ⟨2, by
    show DataW.trod enc Tryz.prog W base sp held (1 + 1) 28 [.int .u8 a, .int .u8 b, .int .u8 c, .int .u8 e] = _
    rw [DataW.trod_step]
    unfold DataW.trodStep
    simp only [Tryz.underlying28]
    rw [if_pos (by rw [host_cells]; rfl), range_four]
    simp [byte_cells, DataW.trod, Tryz.underlying5, wa, wb, wc, we]⟩

theorem byte_wf {a : Int} (h : (Lit.int .u8 a).wf = true) : 0 ≤ a ∧ a ≤ 255 := by
  have e : (Lit.int .u8 a).wf = (decide (0 ≤ a) && decide (a ≤ 255)) := rfl
  rw [e] at h
  simpa using h
theorem int_wf {a : Int} (h : (Lit.int .i64 a).wf = true) : -9223372036854775808 ≤ a ∧ a ≤ 9223372036854775807 := by
  have e : (Lit.int .i64 a).wf = (decide (-9223372036854775808 ≤ a) && decide (a ≤ 9223372036854775807)) := rfl
  rw [e] at h
  simpa using h

end Go.Proofs.YtdimfppijcebjaaGreatDoor
