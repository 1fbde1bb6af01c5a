/- A pinhole, pinholes and an address as arguments: what they hold. -/
import Derived.Test.YtaahghjllfkmaaaHoles
import Derived.OpenShut
import Derived.ProofKit
namespace Go.Proofs.Ytaahghjllfkmaaa.Hl
open Go.Proofs.Ytaahghjllfkmaaa
open Go Go.ChangeShapes Go.WideShapes Go.ChangeAt Go.RowKit Go.Deep
set_option maxRecDepth 100000
set_option linter.unusedVariables false

variable {H : Type} {enc : TypeId × Value → H}
theorem laid_out : laidOutB Try.prog = true := by kernel_rfl
theorem hole_cells : Try.prog.cellsOf 28 = 13 := by kernel_rfl
theorem host_cells : Try.prog.cellsOf 24 = 4 := by kernel_rfl
theorem end_cells : Try.prog.cellsOf 26 = 5 := by kernel_rfl
theorem int_cells : Try.prog.cellsOf 3 = 1 := by kernel_rfl
theorem byte_cells : Try.prog.cellsOf 5 = 1 := by kernel_rfl

theorem host_cs {w : World} {base : Nat} {sp : Nat → Bool} {held : Bool} {fuel : Nat} {cs : List Value} {x : DataW H × List MemPlace} (hf : DataW.trod enc Try.prog w base sp held fuel 24 cs = some x) :
    ∃ a b c d : Int, cs = [.int .u8 a, .int .u8 b, .int .u8 c, .int .u8 d] := by
  obtain ⟨xs, m, _, hx, hc, hl, hel⟩ := DataW.trod_array Try.underlying24 hf
  rw [byte_cells] at hel
  rw [host_cells] at hc
  match cs, hc, xs, hl with
  | [q0, q1, q2, q3], _, [y0, y1, y2, y3], _ =>
    have h0 := hel 0 (by omega); have h1 := hel 1 (by omega); have h2 := hel 2 (by omega); have h3 := hel 3 (by omega)
    simp only [List.getElem?_cons_zero, List.getElem?_cons_succ] at h0 h1 h2 h3
    obtain ⟨a, ea, rfl, wa⟩ := DataW.trod_int Try.underlying5 h0
    obtain ⟨b, eb, rfl, wb⟩ := DataW.trod_int Try.underlying5 h1
    obtain ⟨c, ec, rfl, wc⟩ := DataW.trod_int Try.underlying5 h2
    obtain ⟨e, ee, rfl, we⟩ := DataW.trod_int Try.underlying5 h3
    simp at ea eb ec ee
    subst ea; subst eb; subst ec; subst ee
    exact ⟨a, b, c, e, rfl⟩
theorem end_cs {w : World} {base : Nat} {sp : Nat → Bool} {held : Bool} {fuel : Nat} {cs : List Value} {x : DataW H × List MemPlace} (hf : DataW.trod enc Try.prog w base sp held fuel 26 cs = some x) :
    ∃ a b c d p : Int, cs = [.int .u8 a, .int .u8 b, .int .u8 c, .int .u8 d, .int .i64 p] := by
  obtain ⟨y0, y1, n, hx, hc, h0, h1⟩ := trod_struct2 Try.underlying26 hf
  rw [host_cells] at h0
  rw [int_cells] at h1
  rw [end_cells] at hc
  match cs, hc with
  | [q0, q1, q2, q3, q4], _ =>
    simp only [List.drop_zero, List.drop_succ_cons, List.take_succ_cons, List.take_zero] at h0 h1
    obtain ⟨a, b, c, d, e⟩ := host_cs h0
    obtain ⟨p, ep, _, _⟩ := DataW.trod_int Try.underlying3 h1
    simp at e ep
    obtain ⟨rfl, rfl, rfl, rfl⟩ := e
    subst ep
    exact ⟨a, b, c, d, p, rfl⟩
theorem get_ex {α : Type} {l : List α} {n i : Nat} (h : l.length = n) (hi : i < n) : ∃ y, l[i]? = some y := ⟨l[i]'(by omega), List.getElem?_eq_getElem (by omega)⟩
theorem hole_cs {w : World} {base : Nat} {sp : Nat → Bool} {held : Bool} {fuel : Nat} {cs : List Value} {x : DataW H × List MemPlace} (hf : DataW.trod enc Try.prog w base sp held fuel 28 cs = some x) : ∃ q : Ho, cs = holeCs q := by
  obtain ⟨xs, k, _, _, hc, hll, hfl⟩ := DataW.trod_struct Try.underlying28 hf
  rw [hole_cells] at hc
  have hl6 : xs.length = 6 := hll
  match cs, hc with
  | [q0, q1, q2, q3, q4, q5, q6, q7, q8, q9, q10, q11, q12], _ =>
    obtain ⟨y0, e0⟩ := get_ex hl6 (i := 0) (by omega)
    obtain ⟨y1, e1⟩ := get_ex hl6 (i := 1) (by omega)
    obtain ⟨y2, e2⟩ := get_ex hl6 (i := 2) (by omega)
    obtain ⟨y3, e3⟩ := get_ex hl6 (i := 3) (by omega)
    obtain ⟨y4, e4⟩ := get_ex hl6 (i := 4) (by omega)
    obtain ⟨y5, e5⟩ := get_ex hl6 (i := 5) (by omega)
    have h0 : DataW.trod enc Try.prog w base sp held k 3 [q0] = some y0 := by rw [← e0]; exact hfl 0 _ rfl
    have h1 : DataW.trod enc Try.prog w base sp held k 3 [q1] = some y1 := by rw [← e1]; exact hfl 1 _ rfl
    have h2 : DataW.trod enc Try.prog w base sp held k 3 [q2] = some y2 := by rw [← e2]; exact hfl 2 _ rfl
    have h3 : DataW.trod enc Try.prog w base sp held k 24 [q3, q4, q5, q6] = some y3 := by rw [← e3]; exact hfl 3 _ rfl
    have h4 : DataW.trod enc Try.prog w base sp held k 26 [q7, q8, q9, q10, q11] = some y4 := by rw [← e4]; exact hfl 4 _ rfl
    have h5 : DataW.trod enc Try.prog w base sp held k 3 [q12] = some y5 := by rw [← e5]; exact hfl 5 _ rfl
    obtain ⟨n0, f0, _, _⟩ := DataW.trod_int Try.underlying3 h0
    obtain ⟨n1, f1, _, _⟩ := DataW.trod_int Try.underlying3 h1
    obtain ⟨n2, f2, _, _⟩ := DataW.trod_int Try.underlying3 h2
    obtain ⟨a, b, c, d, f3⟩ := host_cs h3
    obtain ⟨e, f, g, h, p, f4⟩ := end_cs h4
    obtain ⟨n5, f5, _, _⟩ := DataW.trod_int Try.underlying3 h5
    simp only [List.cons.injEq, and_true] at f0 f1 f2 f3 f4 f5
    obtain ⟨g0, g1, g2, g3⟩ := f3
    obtain ⟨i0, i1, i2, i3, i4⟩ := f4
    subst f0; subst f1; subst f2; subst g0; subst g1; subst g2; subst g3; subst i0; subst i1; subst i2; subst i3; subst i4; subst f5
    exact ⟨⟨n0, n1, n2, a, b, c, d, e, f, g, h, p, n5⟩, rfl⟩
theorem open_holes {r : Reach} {W : World} {b0 : Nat} {v : Value} {d : DataW H} {ps : List MemPlace} (hval : Value.okWide Try.prog W r b0 22 v)
    (hd : DataW.Trod enc Try.prog W 0 (fun _ => true) true 22 v d ps) : ∃ l, HolesIs W v l := by
  obtain ⟨a, n, c, rfl⟩ := okWide_slice Try.underlying22 hval
  obtain ⟨fuel, hf⟩ := hd
  rcases open_slice Try.underlying22 hf with ⟨hc, _⟩ | ⟨a', len, cap, m, n', D, Pl, hc, hb, hl, hm, hmm, _, hx⟩
  · have e : Value.slice a n c = .slice none 0 0 := by simpa [Value.cells] using hc
    rw [e]
    exact ⟨[], HolesIs.nil _⟩
  · have e : Value.slice a n c = .slice (some a') len cap := by simpa [Value.cells] using hc
    rw [e]
    rw [if_pos rfl] at hmm
    subst hmm
    rw [hole_cells] at hx
    have each : ∀ i, i < m → ∃ t : Ho, ∀ j, j < 13 → W.cell? ((a'.add (i * 13)).add j) = (holeCs t)[j]? := fun i hi => by
      obtain ⟨cs', h1, h2⟩ := hx i hi
      obtain ⟨t, rfl⟩ := hole_cs h2
      obtain ⟨_, _, hc⟩ := World.cells?_some h1
      exact ⟨t, hc⟩
    obtain ⟨R, hR⟩ := choose_lt each
    have adds : ∀ i j, (a'.add (i * 13)).add j = a'.add (i * 13 + j) := fun i j => by
      by_cases hi : i = 0
      · subst hi; simp [add_zero']
      · exact add_add' a' (i * 13) j (by omega)
    refine ⟨(List.range len).map R, Or.inr ⟨a', m, by simp, by simp; omega, hm, fun i hi j hj => ?_⟩⟩
    simp only [List.length_map, List.length_range] at hi
    have := hR i (by omega) j hj
    rw [adds] at this
    rw [this]; simp
theorem open_hole {r : Reach} {W : World} {b0 : Nat} {v : Value} {d : DataW H} {ps : List MemPlace} (hval : Value.okWide Try.prog W r b0 28 v)
    (hd : DataW.Trod enc Try.prog W 0 (fun _ => true) true 28 v d ps) : ∃ q : Ho, v = holeV q := by
  have hv : ∃ cs, v = .agg cs ∧ cs.size = 13 := by
    simp only [Value.okWide, Try.underlying28] at hval
    obtain ⟨cs, h1, h2, _⟩ := hval
    rw [hole_cells] at h2
    exact ⟨cs, h1, h2⟩
  obtain ⟨⟨cs⟩, rfl, _⟩ := hv
  obtain ⟨fuel, hf⟩ := hd
  obtain ⟨q, e⟩ := hole_cs hf
  refine ⟨q, ?_⟩
  have e' : cs = holeCs q := e
  rw [e']
theorem open_peer {r : Reach} {W : World} {b0 : Nat} {v : Value} {d : DataW H} {ps : List MemPlace} (hval : Value.okWide Try.prog W r b0 24 v)
    (hd : DataW.Trod enc Try.prog W 0 (fun _ => true) true 24 v d ps) : ∃ q : Pe, v = peV q := by
  have hv : ∃ cs, v = .agg cs := by
    simp only [Value.okWide, Try.underlying24] at hval
    obtain ⟨cs, h1, h2, _⟩ := hval
    exact ⟨cs, h1⟩
  obtain ⟨⟨cs⟩, rfl⟩ := hv
  obtain ⟨fuel, hf⟩ := hd
  obtain ⟨a, b, c, d, e⟩ := host_cs hf
  refine ⟨⟨a, b, c, d⟩, ?_⟩
  have e' : cs = [.int .u8 a, .int .u8 b, .int .u8 c, .int .u8 d] := e
  rw [e']

#print axioms open_holes
#print axioms open_hole
#print axioms open_peer
end Go.Proofs.Ytaahghjllfkmaaa.Hl
