/- What has come of a line (api.Framer), by value: as an argument, opened and shut again in every later world. -/
import Derived.Test.YtampgoicogfccaaBytes
import Derived.Deep.Strs
namespace Go.Proofs.Ytampgoicogfccaa
open Go Go.ChangeShapes Go.WideShapes Go.ChangeAt Go.RowKit Go.Deep

theorem framer_cells : Try.prog.cellsOf 24 = 3 := by kernel_rfl
theorem bool_cells : Try.prog.cellsOf 4 = 1 := by kernel_rfl
theorem slice_cells : Try.prog.cellsOf 22 = 1 := by kernel_rfl

abbrev framerV (u : Value) (cr skip : Bool) : Value := .agg #[u, .bool cr, .bool skip]

variable {H : Type} {enc : TypeId × Value → H} {W : World}

set_option maxRecDepth 100000 in
theorem open_framer {r : Reach} {b0 : Nat} {v : Value} {d : DataW H} {ps : List MemPlace} (hval : Value.okWide Try.prog W r b0 24 v) (hd : DataW.Trod enc Try.prog W 0 (fun _ => true) true 24 v d ps) :
    ∃ (u : Value) (cr skip : Bool) (l : List UInt8), v = framerV u cr skip ∧ BytesIs W u l ∧
      ∀ W', Below W.heap.size W W' → ∃ pa, DataW.Trod enc Try.prog W' 0 (fun b => decide (b < W.heap.size)) true 24 v d pa := by
  have hv : ∃ c0 c1 c2, v = .agg #[c0, c1, c2] := by
    simp only [Value.okWide, Try.underlying24] at hval
    obtain ⟨cs, h1, h2, _⟩ := hval
    rw [framer_cells] at h2
    obtain ⟨l⟩ := cs
    match l, h2 with
    | [c0, c1, c2], _ => exact ⟨c0, c1, c2, h1⟩
  obtain ⟨c0, c1, c2, rfl⟩ := hv
  obtain ⟨fuel, hf⟩ := hd
  obtain ⟨y0, y1, y2, n, hx, _, h0, h1, h2⟩ := trod_struct3 Try.underlying24 hf
  rw [slice_cells] at h0
  rw [bool_cells] at h1 h2
  simp only [Value.cells, List.drop_zero, List.drop_succ_cons, List.take_succ_cons, List.take_zero] at h0 h1 h2
  obtain ⟨cr, e1, rfl⟩ := DataW.trod_bool Try.underlying4 h1
  obtain ⟨skip, e2, rfl⟩ := DataW.trod_bool Try.underlying4 h2
  obtain ⟨u, l, e0, _, hb, k⟩ := open_bytes_cs h0
  simp at e0 e1 e2
  subst e0; subst e1; subst e2
  simp only [Prod.mk.injEq] at hx
  obtain ⟨rfl, rfl⟩ := hx
  refine ⟨c0, cr, skip, l, rfl, hb, fun W' hB => ?_⟩
  obtain ⟨pa, hm⟩ := k W' hB
  refine ⟨pa ++ ([] ++ []), 3, ?_⟩
  exact trod_struct3_mk (enc := enc) (w := W') (base := 0) (spare := fun b => decide (b < W.heap.size)) (held := true) (n := 2) (cs := [c0, .bool cr, .bool skip]) (y0 := (y0.1, pa)) (y1 := (.lit (.bool cr), [])) (y2 := (.lit (.bool skip), [])) Try.underlying24 (by rw [framer_cells]; rfl)
    (by rw [slice_cells]; exact hm 0) (by rw [bool_cells]; simp [DataW.trod, Try.underlying4]) (by rw [bool_cells]; simp [DataW.trod, Try.underlying4])

#print axioms open_framer
end Go.Proofs.Ytampgoicogfccaa
