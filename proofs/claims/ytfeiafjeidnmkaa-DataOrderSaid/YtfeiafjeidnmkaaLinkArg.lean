/- A link as an argument (api.Link, by value), and a list of chunks ([][]byte): what they hold. -/
import Derived.Test.YtfeiafjeidnmkaaLinks
import Derived.Carry
namespace Go.Proofs.Ytfeiafjeidnmkaa.Da
open Go.Proofs.Ytfeiafjeidnmkaa
open Go Go.ChangeShapes Go.WideShapes Go.ChangeAt Go.RowKit Go.Deep
set_option maxRecDepth 100000
set_option linter.unusedVariables false

variable {H : Type} {enc : TypeId × Value → H}
theorem laid_out : laidOutB Try.prog = true := by kernel_rfl
theorem link_cells : Try.prog.cellsOf 24 = 4 := by kernel_rfl
theorem chunk_cells : Try.prog.cellsOf 25 = 1 := by kernel_rfl
theorem get_ex {α : Type} {l : List α} {n i : Nat} (h : l.length = n) (hi : i < n) : ∃ y, l[i]? = some y := ⟨l[i]'(by omega), List.getElem?_eq_getElem (by omega)⟩

theorem open_chunks_cs {W : World} {fuel : Nat} {cs : List Value} {x : DataW H × List MemPlace} (hf : DataW.trod enc Try.prog W 0 (fun _ => true) true fuel 22 cs = some x) :
    ∃ (v : Value) (l : List Ck), cs = [v] ∧ RowIs chunks W v l := by
  rcases open_slice Try.underlying22 hf with ⟨rfl, rfl⟩ | ⟨a, len, cap, m, n, D, Pl, rfl, hb, hl, hm, hmm, rfl, hx⟩
  · exact ⟨_, [], rfl, RowIs.nil _ _⟩
  · rw [if_pos rfl] at hmm
    subst hmm
    rw [chunk_cells] at hx
    have each : ∀ i, i < m → ∃ c : Ck, BytesIs W c.v c.b ∧ W.cell? (a.add (i * 1)) = some c.v := fun i hi => by
      obtain ⟨cs', h1, h2⟩ := hx i hi
      obtain ⟨v, l, rfl, _, hy, _⟩ := open_bytes_cs h2
      obtain ⟨_, _, hc⟩ := World.cells?_some h1
      have := hc 0 (by omega)
      rw [add_zero'] at this
      exact ⟨⟨v, l⟩, hy, this⟩
    obtain ⟨R, hR⟩ := choose_lt each
    refine ⟨_, (List.range len).map R, rfl, fun t ht => ?_, Or.inr ⟨a, m, by simp, by simp; omega, hm, fun i hi j hj => ?_⟩⟩
    · obtain ⟨i, hi, rfl⟩ := List.mem_map.1 ht
      rw [List.mem_range] at hi
      exact (hR i (by omega)).1
    · simp only [List.length_map, List.length_range] at hi
      have hj : j < 1 := hj
      obtain rfl : j = 0 := by omega
      show W.cell? (a.add (i * 1 + 0)) = _
      rw [Nat.add_zero, (hR i (by omega)).2]
      simp

/-- a list of chunks -/
theorem open_chunks {r : Reach} {W : World} {b0 : Nat} {v : Value} {d : DataW H} {ps : List MemPlace} (hval : Value.okWide Try.prog W r b0 22 v) (hd : DataW.Trod enc Try.prog W 0 (fun _ => true) true 22 v d ps) :
    ∃ l : List Ck, RowIs chunks W v l := by
  obtain ⟨a, n, c, rfl⟩ := okWide_slice Try.underlying22 hval
  obtain ⟨fuel, hf⟩ := hd
  obtain ⟨u, l, e, h⟩ := open_chunks_cs hf
  have e' : Value.slice a n c = u := by simpa [Value.cells] using e
  rw [e']
  exact ⟨l, h⟩

/-- a link by value -/
theorem open_link {r : Reach} {W : World} {b0 : Nat} {v : Value} {d : DataW H} {ps : List MemPlace} (hval : Value.okWide Try.prog W r b0 24 v) (hd : DataW.Trod enc Try.prog W 0 (fun _ => true) true 24 v d ps) :
    ∃ q : Lk, v = linkV q ∧ LinkIs W q := by
  have hv : ∃ c0 c1 c2 c3, v = .agg #[c0, c1, c2, c3] := by
    simp only [Value.okWide, Try.underlying24] at hval
    obtain ⟨cs, h1, h2, _⟩ := hval
    rw [link_cells] at h2
    obtain ⟨l⟩ := cs
    match l, h2 with
    | [c0, c1, c2, c3], _ => exact ⟨c0, c1, c2, c3, h1⟩
  obtain ⟨q0, q1, q2, q3, rfl⟩ := hv
  obtain ⟨fuel, hf⟩ := hd
  obtain ⟨xs, k, _, _, hc, hll, hfl⟩ := DataW.trod_struct Try.underlying24 hf
  have hl4 : xs.length = 4 := hll
  obtain ⟨y0, e0⟩ := get_ex hl4 (i := 0) (by omega)
  obtain ⟨y1, e1⟩ := get_ex hl4 (i := 1) (by omega)
  obtain ⟨y2, e2⟩ := get_ex hl4 (i := 2) (by omega)
  obtain ⟨y3, e3⟩ := get_ex hl4 (i := 3) (by omega)
  have h0 : DataW.trod enc Try.prog W 0 (fun _ => true) true k 3 [q0] = some y0 := by rw [← e0]; exact hfl 0 _ rfl
  have h1 : DataW.trod enc Try.prog W 0 (fun _ => true) true k 3 [q1] = some y1 := by rw [← e1]; exact hfl 1 _ rfl
  have h2 : DataW.trod enc Try.prog W 0 (fun _ => true) true k 3 [q2] = some y2 := by rw [← e2]; exact hfl 2 _ rfl
  have h3 : DataW.trod enc Try.prog W 0 (fun _ => true) true k 22 [q3] = some y3 := by rw [← e3]; exact hfl 3 _ rfl
  obtain ⟨n0, f0, _, _⟩ := DataW.trod_int Try.underlying3 h0
  obtain ⟨n1, f1, _, _⟩ := DataW.trod_int Try.underlying3 h1
  obtain ⟨n2, f2, _, _⟩ := DataW.trod_int Try.underlying3 h2
  obtain ⟨tv, l, f3, ht⟩ := open_chunks_cs h3
  simp only [List.cons.injEq, and_true] at f0 f1 f2 f3
  subst f0; subst f1; subst f2; subst f3
  exact ⟨⟨n0, n1, n2, q3, l⟩, rfl, ht⟩

#print axioms open_link
#print axioms open_chunks
end Go.Proofs.Ytfeiafjeidnmkaa.Da
