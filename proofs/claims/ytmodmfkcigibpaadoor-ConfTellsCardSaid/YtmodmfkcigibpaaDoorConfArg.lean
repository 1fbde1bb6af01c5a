/- A conf as an argument (api.Conf, by value): what it holds. -/
import Derived.Test.YtmodmfkcigibpaaDoorTens
import Derived.Test.YtmodmfkcigibpaaDoorRuleArg
import Derived.Below
import Derived.Carry
namespace Go.Proofs.YtmodmfkcigibpaaDoor.Co
open Go.Proofs.YtmodmfkcigibpaaDoor Go.Proofs.YtmodmfkcigibpaaDoor.Ac
open Go Go.ChangeShapes Go.WideShapes Go.ChangeAt Go.RowKit Go.Deep
set_option maxRecDepth 100000
set_option linter.unusedVariables false

abbrev confV (a b c d : Int) (tv : Value) (pre life idle : Int) (lf : Bool) : Value := .agg #[.int .u8 a, .int .u8 b, .int .u8 c, .int .u8 d, tv, .int .i64 pre, .int .i64 life, .int .i64 idle, .bool lf]
variable {H : Type} {enc : TypeId × Value → H}
theorem laid_out : laidOutB Tryd.prog = true := by kernel_rfl
theorem conf_cells : Tryd.prog.cellsOf 26 = 9 := by kernel_rfl
theorem ten_cells : Tryd.prog.cellsOf 40 = 14 := by kernel_rfl
theorem host_cells' : Tryd.prog.cellsOf 23 = 4 := by kernel_rfl
theorem end_cells' : Tryd.prog.cellsOf 37 = 5 := by kernel_rfl
theorem int_cells' : Tryd.prog.cellsOf 3 = 1 := by kernel_rfl
theorem byte_cells' : Tryd.prog.cellsOf 5 = 1 := by kernel_rfl
theorem rules_cells : Tryd.prog.cellsOf 38 = 1 := by kernel_rfl
theorem tens_cells : Tryd.prog.cellsOf 24 = 1 := by kernel_rfl

theorem host_cs {w : World} {base : Nat} {sp : Nat → Bool} {held : Bool} {fuel : Nat} {cs : List Value} {x : DataW H × List MemPlace} (hf : DataW.trod enc Tryd.prog w base sp held fuel 23 cs = some x) :
    ∃ a b c d : Int, cs = [.int .u8 a, .int .u8 b, .int .u8 c, .int .u8 d] := by
  obtain ⟨xs, m, _, hx, hc, hl, hel⟩ := DataW.trod_array Tryd.underlying23 hf
  rw [byte_cells'] at hel
  rw [host_cells'] at hc
  match cs, hc, xs, hl with
  | [q0, q1, q2, q3], _, [y0, y1, y2, y3], _ =>
    have h0 := hel 0 (by omega); have h1 := hel 1 (by omega); have h2 := hel 2 (by omega); have h3 := hel 3 (by omega)
    simp only [List.getElem?_cons_zero, List.getElem?_cons_succ] at h0 h1 h2 h3
    obtain ⟨a, ea, rfl, wa⟩ := DataW.trod_int Tryd.underlying5 h0
    obtain ⟨b, eb, rfl, wb⟩ := DataW.trod_int Tryd.underlying5 h1
    obtain ⟨c, ec, rfl, wc⟩ := DataW.trod_int Tryd.underlying5 h2
    obtain ⟨e, ee, rfl, we⟩ := DataW.trod_int Tryd.underlying5 h3
    simp at ea eb ec ee
    subst ea; subst eb; subst ec; subst ee
    exact ⟨a, b, c, e, rfl⟩
theorem end_cs {w : World} {base : Nat} {sp : Nat → Bool} {held : Bool} {fuel : Nat} {cs : List Value} {x : DataW H × List MemPlace} (hf : DataW.trod enc Tryd.prog w base sp held fuel 37 cs = some x) :
    ∃ a b c d p : Int, cs = [.int .u8 a, .int .u8 b, .int .u8 c, .int .u8 d, .int .i64 p] := by
  obtain ⟨y0, y1, n, hx, hc, h0, h1⟩ := trod_struct2 Tryd.underlying37 hf
  rw [host_cells'] at h0
  rw [int_cells'] at h1
  rw [end_cells'] at hc
  match cs, hc with
  | [q0, q1, q2, q3, q4], _ =>
    simp only [List.drop_zero, List.drop_succ_cons, List.take_succ_cons, List.take_zero] at h0 h1
    obtain ⟨a, b, c, d, e⟩ := host_cs h0
    obtain ⟨p, ep, _, _⟩ := DataW.trod_int Tryd.underlying3 h1
    simp at e ep
    obtain ⟨rfl, rfl, rfl, rfl⟩ := e
    subst ep
    exact ⟨a, b, c, d, p, rfl⟩
theorem get_ex {α : Type} {l : List α} {n i : Nat} (h : l.length = n) (hi : i < n) : ∃ y, l[i]? = some y := ⟨l[i]'(by omega), List.getElem?_eq_getElem (by omega)⟩

set_option maxHeartbeats 1000000 in
theorem open_ten_cs {W : World} {fuel : Nat} {cs : List Value} {x : DataW H × List MemPlace} (hf : DataW.trod enc Tryd.prog W 0 (fun _ => true) true fuel 40 cs = some x) :
    ∃ t : Tn, cs = tenCs t ∧ RulesIs W t.rv t.rs := by
  obtain ⟨xs, k, _, _, hc, hll, hfl⟩ := DataW.trod_struct Tryd.underlying40 hf
  rw [ten_cells] at hc
  have hl10 : xs.length = 10 := hll
  match cs, hc with
  | [q0, q1, q2, q3, q4, q5, q6, q7, q8, q9, q10, q11, q12, q13], _ =>
    obtain ⟨y0, e0⟩ := get_ex hl10 (i := 0) (by omega)
    obtain ⟨y1, e1⟩ := get_ex hl10 (i := 1) (by omega)
    obtain ⟨y2, e2⟩ := get_ex hl10 (i := 2) (by omega)
    obtain ⟨y3, e3⟩ := get_ex hl10 (i := 3) (by omega)
    obtain ⟨y4, e4⟩ := get_ex hl10 (i := 4) (by omega)
    obtain ⟨y5, e5⟩ := get_ex hl10 (i := 5) (by omega)
    obtain ⟨y6, e6⟩ := get_ex hl10 (i := 6) (by omega)
    obtain ⟨y7, e7⟩ := get_ex hl10 (i := 7) (by omega)
    obtain ⟨y8, e8⟩ := get_ex hl10 (i := 8) (by omega)
    obtain ⟨y9, e9⟩ := get_ex hl10 (i := 9) (by omega)
    have h0 : DataW.trod enc Tryd.prog W 0 (fun _ => true) true k 9 [q0] = some y0 := by rw [← e0]; exact hfl 0 _ rfl
    have h1 : DataW.trod enc Tryd.prog W 0 (fun _ => true) true k 9 [q1] = some y1 := by rw [← e1]; exact hfl 1 _ rfl
    have h2 : DataW.trod enc Tryd.prog W 0 (fun _ => true) true k 37 [q2, q3, q4, q5, q6] = some y2 := by rw [← e2]; exact hfl 2 _ rfl
    have h3 : DataW.trod enc Tryd.prog W 0 (fun _ => true) true k 3 [q7] = some y3 := by rw [← e3]; exact hfl 3 _ rfl
    have h4 : DataW.trod enc Tryd.prog W 0 (fun _ => true) true k 3 [q8] = some y4 := by rw [← e4]; exact hfl 4 _ rfl
    have h5 : DataW.trod enc Tryd.prog W 0 (fun _ => true) true k 38 [q9] = some y5 := by rw [← e5]; exact hfl 5 _ rfl
    have h6 : DataW.trod enc Tryd.prog W 0 (fun _ => true) true k 3 [q10] = some y6 := by rw [← e6]; exact hfl 6 _ rfl
    have h7 : DataW.trod enc Tryd.prog W 0 (fun _ => true) true k 3 [q11] = some y7 := by rw [← e7]; exact hfl 7 _ rfl
    have h8 : DataW.trod enc Tryd.prog W 0 (fun _ => true) true k 3 [q12] = some y8 := by rw [← e8]; exact hfl 8 _ rfl
    have h9 : DataW.trod enc Tryd.prog W 0 (fun _ => true) true k 3 [q13] = some y9 := by rw [← e9]; exact hfl 9 _ rfl
    obtain ⟨⟨⟨s0⟩⟩, f0, _, _⟩ := DataW.trod_string Tryd.underlying9 h0
    obtain ⟨⟨⟨s1⟩⟩, f1, _, _⟩ := DataW.trod_string Tryd.underlying9 h1
    obtain ⟨a, b, c, d, p, f2⟩ := end_cs h2
    obtain ⟨lo, f3, _, _⟩ := DataW.trod_int Tryd.underlying3 h3
    obtain ⟨hi, f4, _, _⟩ := DataW.trod_int Tryd.underlying3 h4
    obtain ⟨rv, rs, f5, hr, _, _⟩ := open_rules_cs h5
    obtain ⟨n6, f6, _, _⟩ := DataW.trod_int Tryd.underlying3 h6
    obtain ⟨n7, f7, _, _⟩ := DataW.trod_int Tryd.underlying3 h7
    obtain ⟨n8, f8, _, _⟩ := DataW.trod_int Tryd.underlying3 h8
    obtain ⟨n9, f9, _, _⟩ := DataW.trod_int Tryd.underlying3 h9
    simp only [List.cons.injEq, and_true] at f0 f1 f2 f3 f4 f5 f6 f7 f8 f9
    obtain ⟨g2, g3, g4, g5, g6⟩ := f2
    subst f0; subst f1; subst g2; subst g3; subst g4; subst g5; subst g6; subst f3; subst f4; subst f5; subst f6; subst f7; subst f8; subst f9
    exact ⟨⟨s0, s1, a, b, c, d, p, lo, hi, q9, rs, n6, n7, n8, n9⟩, rfl, hr⟩

theorem open_tens_cs {W : World} {fuel : Nat} {cs : List Value} {x : DataW H × List MemPlace} (hf : DataW.trod enc Tryd.prog W 0 (fun _ => true) true fuel 24 cs = some x) :
    ∃ (v : Value) (l : List Tn), cs = [v] ∧ TensIs W v l := by
  rcases open_slice Tryd.underlying24 hf with ⟨rfl, rfl⟩ | ⟨a, len, cap, m, n, D, Pl, rfl, hb, hl, hm, hmm, rfl, hx⟩
  · exact ⟨_, [], rfl, TensIs.nil _⟩
  · rw [if_pos rfl] at hmm
    subst hmm
    rw [ten_cells] at hx
    have each : ∀ i, i < m → ∃ t : Tn, RulesIs W t.rv t.rs ∧ ∀ j, j < 14 → W.cell? ((a.add (i * 14)).add j) = (tenCs t)[j]? := fun i hi => by
      obtain ⟨cs', h1, h2⟩ := hx i hi
      obtain ⟨t, rfl, hr⟩ := open_ten_cs h2
      obtain ⟨_, _, hc⟩ := World.cells?_some h1
      exact ⟨t, hr, hc⟩
    obtain ⟨R, hR⟩ := choose_lt each
    have adds : ∀ i j, (a.add (i * 14)).add j = a.add (i * 14 + j) := fun i j => by
      by_cases hi : i = 0
      · subst hi; simp [add_zero']
      · exact add_add' a (i * 14) j (by omega)
    refine ⟨_, (List.range len).map R, rfl, fun t ht => ?_, Or.inr ⟨a, m, by simp, by simp; omega, hm, fun i hi j hj => ?_⟩⟩
    · obtain ⟨i, hi, rfl⟩ := List.mem_map.1 ht
      rw [List.mem_range] at hi
      exact (hR i (by omega)).1
    · simp only [List.length_map, List.length_range] at hi
      have := (hR i (by omega)).2 j hj
      rw [adds] at this
      rw [this]; simp

/-- a conf by value -/
theorem open_conf {r : Reach} {W : World} {b0 : Nat} {v : Value} {d : DataW H} {ps : List MemPlace} (hval : Value.okWide Tryd.prog W r b0 26 v) (hd : DataW.Trod enc Tryd.prog W 0 (fun _ => true) true 26 v d ps) :
    ∃ (a b c e : Int) (tv : Value) (l : List Tn) (pre life idle : Int) (lf : Bool), v = confV a b c e tv pre life idle lf ∧ TensIs W tv l := by
  have hv : ∃ c0 c1 c2 c3 c4 c5 c6 c7 c8, v = .agg #[c0, c1, c2, c3, c4, c5, c6, c7, c8] := by
    simp only [Value.okWide, Tryd.underlying26] at hval
    obtain ⟨cs, h1, h2, _⟩ := hval
    rw [conf_cells] at h2
    obtain ⟨l⟩ := cs
    match l, h2 with
    | [c0, c1, c2, c3, c4, c5, c6, c7, c8], _ => exact ⟨c0, c1, c2, c3, c4, c5, c6, c7, c8, h1⟩
  obtain ⟨q0, q1, q2, q3, q4, q5, q6, q7, q8, rfl⟩ := hv
  obtain ⟨fuel, hf⟩ := hd
  obtain ⟨xs, k, _, _, hc, hll, hfl⟩ := DataW.trod_struct Tryd.underlying26 hf
  have hl6 : xs.length = 6 := hll
  obtain ⟨y0, e0⟩ := get_ex hl6 (i := 0) (by omega)
  obtain ⟨y1, e1⟩ := get_ex hl6 (i := 1) (by omega)
  obtain ⟨y2, e2⟩ := get_ex hl6 (i := 2) (by omega)
  obtain ⟨y3, e3⟩ := get_ex hl6 (i := 3) (by omega)
  obtain ⟨y4, e4⟩ := get_ex hl6 (i := 4) (by omega)
  obtain ⟨y5, e5⟩ := get_ex hl6 (i := 5) (by omega)
  have h0 : DataW.trod enc Tryd.prog W 0 (fun _ => true) true k 23 [q0, q1, q2, q3] = some y0 := by rw [← e0]; exact hfl 0 _ rfl
  have h1 : DataW.trod enc Tryd.prog W 0 (fun _ => true) true k 24 [q4] = some y1 := by rw [← e1]; exact hfl 1 _ rfl
  have h2 : DataW.trod enc Tryd.prog W 0 (fun _ => true) true k 3 [q5] = some y2 := by rw [← e2]; exact hfl 2 _ rfl
  have h3 : DataW.trod enc Tryd.prog W 0 (fun _ => true) true k 3 [q6] = some y3 := by rw [← e3]; exact hfl 3 _ rfl
  have h4 : DataW.trod enc Tryd.prog W 0 (fun _ => true) true k 3 [q7] = some y4 := by rw [← e4]; exact hfl 4 _ rfl
  have h5 : DataW.trod enc Tryd.prog W 0 (fun _ => true) true k 4 [q8] = some y5 := by rw [← e5]; exact hfl 5 _ rfl
  obtain ⟨a, b, c, d, f0⟩ := host_cs h0
  obtain ⟨tv, l, f1, ht⟩ := open_tens_cs h1
  obtain ⟨pre, f2, _, _⟩ := DataW.trod_int Tryd.underlying3 h2
  obtain ⟨life, f3, _, _⟩ := DataW.trod_int Tryd.underlying3 h3
  obtain ⟨idle, f4, _, _⟩ := DataW.trod_int Tryd.underlying3 h4
  obtain ⟨lf, f5, _⟩ := DataW.trod_bool Tryd.underlying4 h5
  simp only [List.cons.injEq, and_true] at f0 f1 f2 f3 f4 f5
  obtain ⟨g0, g1, g2, g3⟩ := f0
  subst g0; subst g1; subst g2; subst g3; subst f1; subst f2; subst f3; subst f4; subst f5
  exact ⟨a, b, c, d, q4, l, pre, life, idle, lf, rfl, ht⟩

#print axioms open_conf
end Go.Proofs.YtmodmfkcigibpaaDoor.Co
