/- A reply as an argument (a code and a list of texts, by value): what it holds; shut again in every later world. -/
import Derived.Test.YtdimfppijcebjaaGreatDoorStrs
import Derived.ChangeSame
namespace Go.Proofs.YtdimfppijcebjaaGreatDoor
open Go Go.ChangeShapes Go.WideShapes Go.ChangeAt Go.RowKit Go.Deep
set_option maxRecDepth 100000

abbrev replyV (c : Int) (u : Value) : Value := .agg #[.int .i64 c, u]
abbrev gatherV (c : Int) (u : Value) (o : Bool) : Value := .agg #[.int .i64 c, u, .bool o]

variable {H : Type} {enc : TypeId × Value → H}
theorem reply_cells : Tryz.prog.cellsOf 26 = 2 := by kernel_rfl
theorem cells_int : Tryz.prog.cellsOf 3 = 1 := by kernel_rfl
theorem cells_strs : Tryz.prog.cellsOf 24 = 1 := by kernel_rfl

theorem open_strs_cs {W : World} {fuel : Nat} {cs : List Value} {x : DataW H × List MemPlace} (hf : DataW.trod enc Tryz.prog W 0 (fun _ => true) true fuel 24 cs = some x) :
    ∃ (v : Value) (l : List (List UInt8)), cs = [v] ∧ StrsIs W v l ∧ (∀ s ∈ l, s.length ≤ maxLen) ∧ ∀ W', Below W.heap.size W W' → ∃ pa n, DataW.trod enc Tryz.prog W' 0 (fun b => decide (b < W.heap.size)) true n 24 [v] = some (x.1, pa) := by
  rcases open_strs Tryz.underlying24 Tryz.underlying9 cells_string hf with ⟨rfl, rfl⟩ | ⟨a', len, cap, m, Sx, rfl, hb, hl, hm, hmm, rfl, hcell⟩
  · exact ⟨_, [], rfl, Or.inl ⟨rfl, rfl⟩, fun _ h => (by cases h), fun W' _ => ⟨[], 1, by simp [DataW.trod, Tryz.underlying24]⟩⟩
  · rw [if_pos rfl] at hmm
    subst hmm
    refine ⟨.slice (some a') len m, (List.range len).map fun i => (Sx i).data.toList, rfl, Or.inr ⟨a', m, by simp, by simpa using hl, hm, fun i hi => ?_⟩, fun s h => ?_, fun W' hB => ?_⟩
    · simp only [List.length_map, List.length_range] at hi
      rw [(hcell i (by omega)).1]
      simp
    · obtain ⟨i, hi, rfl⟩ := List.mem_map.1 h
      rw [Array.length_toList]
      exact (hcell i (by have := List.mem_range.1 hi; omega)).2
    · have one : ∀ (base : Nat) (hb : base ≤ a'.block) (sp : Nat → Bool) i, i < m → ∃ cs n, W'.cells? base (a'.add (i * Tryz.prog.cellsOf 9)) (Tryz.prog.cellsOf 9) = some cs ∧ DataW.trod enc Tryz.prog W' base sp true n 9 cs = some (.lit (.string (Sx i).data.toList), []) := by
        intro base hb sp i hi
        obtain ⟨n, hn⟩ := shut_string_cell (enc := enc) (P := Tryz.prog) (w := W') (base := base) (spare := sp) (held := true) Tryz.underlying9 (hcell i hi).2
        refine ⟨[.string (Sx i)], n, ?_, hn⟩
        rw [cells_string, Nat.mul_one]
        refine cells?_one (by rw [add_block]; exact hb) ?_
        rw [hB.cell (World.block_lt_of_cell? W _ (hcell i hi).1)]
        exact (hcell i hi).1
      cases hsp : decide (a'.block < W.heap.size) with
      | true =>
        obtain ⟨n, hn⟩ := shut_slice_whole_cells (enc := enc) (P := Tryz.prog) (w := W') (base := 0) (spare := fun b => decide (b < W.heap.size)) (held := true) (a := a') Tryz.underlying24 hb hl hm hsp (fun i => .lit (.string (Sx i).data.toList)) (fun _ => []) (one 0 hb _)
        exact ⟨_, n, hn⟩
      | false =>
        have hm0 : m = 0 := by
          by_cases h0 : m = 0
          · exact h0
          · have := World.block_lt_of_cell? W _ (hcell 0 (by omega)).1
            rw [add_block] at this
            simp at hsp
            omega
        obtain ⟨n, hn⟩ := shut_slice_cells (enc := enc) (P := Tryz.prog) (w := W') (base := 0) (spare := fun b => decide (b < W.heap.size)) (held := true) (a := a') Tryz.underlying24 hb hl hm hsp (fun i => .lit (.string (Sx i).data.toList)) (fun _ => []) (fun i hi => one 0 hb _ i (by omega))
        subst hm0
        have hl0 : len = 0 := by omega
        subst hl0
        exact ⟨_, n, hn⟩

theorem open_reply {r : Reach} {W : World} {b0 : Nat} {v : Value} {d : DataW H} {ps : List MemPlace} (hval : Value.okWide Tryz.prog W r b0 26 v) (hd : DataW.Trod enc Tryz.prog W 0 (fun _ => true) true 26 v d ps) :
    ∃ (c : Int) (u : Value) (l : List (List UInt8)), v = replyV c u ∧ (Lit.int .i64 c).wf = true ∧ StrsIs W u l ∧ (∀ s ∈ l, s.length ≤ maxLen) ∧
      ∀ W', Below W.heap.size W W' → ∃ pa, DataW.Trod enc Tryz.prog W' 0 (fun b => decide (b < W.heap.size)) true 26 v d pa := by
  have hv : ∃ c0 c1, v = .agg #[c0, c1] := by
    simp only [Value.okWide, Tryz.underlying26] at hval
    obtain ⟨cs, h1, h2, _⟩ := hval
    rw [reply_cells] at h2
    obtain ⟨l⟩ := cs
    match l, h2 with
    | [c0, c1], _ => exact ⟨c0, c1, h1⟩
  obtain ⟨c0, c1, rfl⟩ := hv
  obtain ⟨fuel, hf⟩ := hd
  obtain ⟨y0, y1, n, hx, _, h0, h1⟩ := trod_struct2 Tryz.underlying26 hf
  rw [cells_int] at h0
  rw [cells_strs] at h1
  simp only [Value.cells, List.drop_zero, List.drop_succ_cons, List.take_succ_cons, List.take_zero] at h0 h1
  obtain ⟨c, e0, rfl, w0⟩ := DataW.trod_int Tryz.underlying3 h0
  obtain ⟨u, l, e1, hs, hz, k⟩ := open_strs_cs h1
  simp at e0 e1
  subst e0; subst e1
  simp only [Prod.mk.injEq] at hx
  obtain ⟨rfl, rfl⟩ := hx
  refine ⟨c, c1, l, rfl, w0, hs, hz, fun W' hB => ?_⟩
  obtain ⟨pa, m, hm⟩ := k W' hB
  refine ⟨[] ++ pa, m + 1 + 1, ?_⟩
  exact trod_struct2_mk (enc := enc) (w := W') (base := 0) (spare := fun b => decide (b < W.heap.size)) (held := true) (n := m + 1) (cs := [.int .i64 c, c1]) (y0 := (.lit (.int .i64 c), [])) (y1 := (y1.1, pa)) Tryz.underlying26 (by rw [reply_cells]; rfl)
    (by rw [cells_int]; exact trod_int_mk m Tryz.underlying3 w0) (by rw [cells_strs]; exact DataW.trod_le (Nat.le_succ m) hm)

#print axioms open_reply
end Go.Proofs.YtdimfppijcebjaaGreatDoor
