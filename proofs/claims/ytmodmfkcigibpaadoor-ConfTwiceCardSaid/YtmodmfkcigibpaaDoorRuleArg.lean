/- Rules as arguments: a rule by value, and a list of them ([]api.Rule): what they hold; shut again in every later world. -/
import Derived.Test.YtmodmfkcigibpaaDoorRules
import Derived.Deep.Strs
import Derived.DataShut
import Derived.ChangeSame
namespace Go.Proofs.YtmodmfkcigibpaaDoor.Ac
open Go.Proofs.YtmodmfkcigibpaaDoor
open Go Go.ChangeShapes Go.WideShapes Go.ChangeAt Go.RowKit Go.Deep
set_option maxRecDepth 100000

variable {H : Type} {enc : TypeId × Value → H}
theorem rule_cells : Tryd.prog.cellsOf 44 = 3 := by kernel_rfl
theorem bool_cells : Tryd.prog.cellsOf 4 = 1 := by kernel_rfl
theorem str_cells' : Tryd.prog.cellsOf 9 = 1 := by kernel_rfl
abbrev ruleD (r : Rl) : DataW H := .agg [.lit (.bool r.a), .lit (.string r.v), .lit (.string r.p)]

theorem open_rule_cs {w : World} {base : Nat} {sp : Nat → Bool} {held : Bool} {fuel : Nat} {cs : List Value} {x : DataW H × List MemPlace} (hf : DataW.trod enc Tryd.prog w base sp held fuel 44 cs = some x) :
    ∃ r : Rl, cs = ruleCs r ∧ x = (ruleD r, []) ∧ r.v.length ≤ maxLen ∧ r.p.length ≤ maxLen := by
  obtain ⟨y0, y1, y2, n, hx, hl, h0, h1, h2⟩ := trod_struct3 Tryd.underlying44 hf
  rw [rule_cells] at hl
  match cs, hl with
  | [c0, c1, c2], _ =>
    rw [bool_cells] at h0
    rw [str_cells'] at h1 h2
    simp only [List.drop_zero, List.drop_succ_cons, List.take_succ_cons, List.take_zero] at h0 h1 h2
    obtain ⟨b, e0, rfl⟩ := DataW.trod_bool Tryd.underlying4 h0
    obtain ⟨⟨⟨v⟩⟩, e1, rfl, w1⟩ := DataW.trod_string Tryd.underlying9 h1
    obtain ⟨⟨⟨p⟩⟩, e2, rfl, w2⟩ := DataW.trod_string Tryd.underlying9 h2
    simp at e0 e1 e2
    subst e0; subst e1; subst e2
    exact ⟨⟨b, v, p⟩, rfl, hx, by simpa [ByteArray.size] using w1, by simpa [ByteArray.size] using w2⟩
theorem shut_rule_cs {w : World} {base : Nat} {sp : Nat → Bool} {held : Bool} {r : Rl} (hv : r.v.length ≤ maxLen) (hp : r.p.length ≤ maxLen) :
    DataW.trod enc Tryd.prog w base sp held 2 44 (ruleCs r) = some (ruleD r, []) := by
  have h0 : DataW.trod enc Tryd.prog w base sp held 1 4 [.bool r.a] = some (.lit (.bool r.a), []) := by simp [DataW.trod, Tryd.underlying4]
  have h1 : DataW.trod enc Tryd.prog w base sp held 1 9 [.string ⟨r.v.toArray⟩] = some (.lit (.string r.v), []) := by
    have : (ByteArray.mk r.v.toArray).size ≤ maxLen := by simpa [ByteArray.size] using hv
    simp [DataW.trod, Tryd.underlying9, this]
  have h2 : DataW.trod enc Tryd.prog w base sp held 1 9 [.string ⟨r.p.toArray⟩] = some (.lit (.string r.p), []) := by
    have : (ByteArray.mk r.p.toArray).size ≤ maxLen := by simpa [ByteArray.size] using hp
    simp [DataW.trod, Tryd.underlying9, this]
  exact trod_struct3_mk (enc := enc) (w := w) (base := base) (spare := sp) (held := held) (n := 1) (cs := ruleCs r) Tryd.underlying44 (by rw [rule_cells]; rfl) (by rw [bool_cells]; exact h0) (by rw [str_cells']; exact h1) (by rw [str_cells']; exact h2)

/-- a rule by value -/
theorem open_rule {r : Reach} {W : World} {base : Nat} {sp : Nat → Bool} {held : Bool} {b0 : Nat} {v : Value} {d : DataW H} {ps : List MemPlace} (hval : Value.okWide Tryd.prog W r b0 44 v) (hd : DataW.Trod enc Tryd.prog W base sp held 44 v d ps) :
    ∃ q : Rl, v = ruleV q ∧ d = ruleD q ∧ ps = [] ∧ q.v.length ≤ maxLen ∧ q.p.length ≤ maxLen := by
  have hv : ∃ c0 c1 c2, v = .agg #[c0, c1, c2] := by
    simp only [Value.okWide, Tryd.underlying44] at hval
    obtain ⟨cs, h1, h2, _⟩ := hval
    rw [rule_cells] at h2
    obtain ⟨l⟩ := cs
    match l, h2 with
    | [c0, c1, c2], _ => exact ⟨c0, c1, c2, h1⟩
  obtain ⟨c0, c1, c2, rfl⟩ := hv
  obtain ⟨fuel, hf⟩ := hd
  obtain ⟨q, e, hx, h1, h2⟩ := open_rule_cs hf
  simp only [Value.cells, List.cons.injEq, and_true] at e
  simp only [Prod.mk.injEq] at hx
  obtain ⟨rfl, rfl, rfl⟩ := e
  exact ⟨q, rfl, hx.1, hx.2, h1, h2⟩
theorem shut_rule {W : World} {base : Nat} {sp : Nat → Bool} {held : Bool} {q : Rl} (h1 : q.v.length ≤ maxLen) (h2 : q.p.length ≤ maxLen) : DataW.Trod enc Tryd.prog W base sp held 44 (ruleV q) (ruleD q) [] :=
  ⟨2, shut_rule_cs h1 h2⟩

/-- a list of rules -/
theorem open_rules_cs {W : World} {fuel : Nat} {cs : List Value} {x : DataW H × List MemPlace} (hf : DataW.trod enc Tryd.prog W 0 (fun _ => true) true fuel 38 cs = some x) :
    ∃ (v : Value) (l : List Rl), cs = [v] ∧ RulesIs W v l ∧ (∀ q ∈ l, q.v.length ≤ maxLen ∧ q.p.length ≤ maxLen) ∧ ∀ W', Below W.heap.size W W' → ∃ pa n, DataW.trod enc Tryd.prog W' 0 (fun b => decide (b < W.heap.size)) true n 38 [v] = some (x.1, pa) := by
  rcases open_slice Tryd.underlying38 hf with ⟨rfl, rfl⟩ | ⟨a, len, cap, m, n, D, Pl, rfl, hb, hl, hm, hmm, rfl, hx⟩
  · exact ⟨_, [], rfl, Or.inl ⟨rfl, rfl⟩, fun _ h => (by cases h), fun W' _ => ⟨[], 1, by simp [DataW.trod, Tryd.underlying38]⟩⟩
  · rw [if_pos rfl] at hmm
    subst hmm
    rw [rule_cells] at hx
    have each : ∀ i, i < m → ∃ q : Rl, D i = ruleD q ∧ Pl i = [] ∧ q.v.length ≤ maxLen ∧ q.p.length ≤ maxLen ∧ ∀ j, j < 3 → W.cell? ((a.add (i * 3)).add j) = (ruleCs q)[j]? := fun i hi => by
      obtain ⟨cs', h1, h2⟩ := hx i hi
      obtain ⟨q, rfl, hq, w1, w2⟩ := open_rule_cs h2
      simp only [Prod.mk.injEq] at hq
      obtain ⟨_, _, hc⟩ := World.cells?_some h1
      exact ⟨q, hq.1, hq.2, w1, w2, hc⟩
    obtain ⟨R, hR⟩ := choose_lt each
    have adds : ∀ i j, (a.add (i * 3)).add j = a.add (i * 3 + j) := fun i j => by
      by_cases hi : i = 0
      · subst hi; simp [add_zero']
      · exact add_add' a (i * 3) j (by omega)
    have hat : ∀ i, i < m → W.cell? (a.add (i * 3)) = some (.bool (R i).a) ∧ W.cell? (a.add (i * 3 + 1)) = some (.string ⟨(R i).v.toArray⟩) ∧ W.cell? (a.add (i * 3 + 2)) = some (.string ⟨(R i).p.toArray⟩) := fun i hi => by
      have h := (hR i hi).2.2.2.2
      have h0 := h 0 (by decide)
      have h1 := h 1 (by decide)
      have h2 := h 2 (by decide)
      rw [adds] at h0 h1 h2
      exact ⟨h0, h1, h2⟩
    refine ⟨.slice (some a) len m, (List.range len).map R, rfl, Or.inr ⟨a, m, by simp, by simpa using hl, hm, fun i hi => ?_⟩, fun q h => ?_, fun W' hB => ?_⟩
    · simp only [List.length_map, List.length_range] at hi
      have e : ((List.range len).map R)[i]'(by simpa using hi) = R i := by simp
      rw [e]
      exact hat i (by omega)
    · obtain ⟨i, hi, rfl⟩ := List.mem_map.1 h
      have hi := List.mem_range.1 hi
      exact ⟨(hR i (by omega)).2.2.1, (hR i (by omega)).2.2.2.1⟩
    · have one : ∀ (sp : Nat → Bool) i, i < m → ∃ cs n, W'.cells? 0 (a.add (i * Tryd.prog.cellsOf 44)) (Tryd.prog.cellsOf 44) = some cs ∧ DataW.trod enc Tryd.prog W' 0 sp true n 44 cs = some (D i, Pl i) := by
        intro sp i hi
        obtain ⟨q1, q2, q3, q4, _⟩ := hR i hi
        refine ⟨ruleCs (R i), 2, ?_, ?_⟩
        · rw [rule_cells]
          refine World.cells?_of_each (Nat.zero_le _) rfl fun j hj => ?_
          have hlt : a.block < W.heap.size := by have := World.block_lt_of_cell? W _ (hat i hi).1; rwa [add_block] at this
          rw [adds, hB.cell (by rw [add_block]; exact hlt)]
          obtain ⟨k0, k1, k2⟩ := hat i hi
          match j, hj with
          | 0, _ => exact k0
          | 1, _ => exact k1
          | 2, _ => exact k2
        · rw [q1, q2]; exact shut_rule_cs q3 q4
      cases hsp : decide (a.block < W.heap.size) with
      | true =>
        obtain ⟨n, hn⟩ := shut_slice_whole_cells (enc := enc) (P := Tryd.prog) (w := W') (base := 0) (spare := fun b => decide (b < W.heap.size)) (held := true) (a := a) Tryd.underlying38 hb hl hm hsp D Pl (one _)
        exact ⟨_, n, hn⟩
      | false =>
        have hm0 : m = 0 := by
          by_cases h0 : m = 0
          · exact h0
          · have := World.block_lt_of_cell? W _ (hat 0 (by omega)).1
            rw [add_block] at this
            simp at hsp
            omega
        obtain ⟨n, hn⟩ := shut_slice_cells (enc := enc) (P := Tryd.prog) (w := W') (base := 0) (spare := fun b => decide (b < W.heap.size)) (held := true) (a := a) Tryd.underlying38 hb hl hm hsp D Pl (fun i hi => one _ i (by omega))
        subst hm0
        have hl0 : len = 0 := by omega
        subst hl0
        exact ⟨_, n, hn⟩
theorem open_rules {r : Reach} {W : World} {b0 : Nat} {v : Value} {d : DataW H} {ps : List MemPlace} (hval : Value.okWide Tryd.prog W r b0 38 v)
    (hd : DataW.Trod enc Tryd.prog W 0 (fun _ => true) true 38 v d ps) :
    ∃ l : List Rl, RulesIs W v l ∧ (∀ q ∈ l, q.v.length ≤ maxLen ∧ q.p.length ≤ maxLen) ∧ ∀ W', Below W.heap.size W W' → ∃ pa, DataW.Trod enc Tryd.prog W' 0 (fun b => decide (b < W.heap.size)) true 38 v d pa := by
  obtain ⟨a, n, c, rfl⟩ := okWide_slice Tryd.underlying38 hval
  obtain ⟨fuel, hf⟩ := hd
  obtain ⟨u, l, e, h, hz, k⟩ := open_rules_cs hf
  have e' : Value.slice a n c = u := by simpa [Value.cells] using e
  rw [e']
  exact ⟨l, h, hz, fun W' hB => by
    obtain ⟨pa, n', hm⟩ := k W' hB
    refine ⟨pa, n', ?_⟩
    rw [← e'] at hm ⊢
    simpa [Value.cells] using hm⟩

#print axioms open_rules
#print axioms open_rule
#print axioms shut_rule
end Go.Proofs.YtmodmfkcigibpaaDoor.Ac
