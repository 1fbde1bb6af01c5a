/- A list of texts as an argument ([]string): what it holds; shut again in every later world. -/
import Derived.Test.YtdimfppijcebjaaGreatDoorBytes
import Derived.Deep.Strs
namespace Go.Proofs.YtdimfppijcebjaaGreatDoor
open Go Go.ChangeShapes Go.WideShapes Go.ChangeAt Go.RowKit Go.Deep
set_option maxRecDepth 100000

/-- the slice v holds the texts l -/
def StrsIs (w : World) (v : Value) (l : List (List UInt8)) : Prop :=
  (v = .slice none 0 0 ∧ l = []) ∨ ∃ a c, v = .slice (some a) l.length c ∧ l.length ≤ c ∧ c ≤ maxLen ∧ ∀ i (h : i < l.length), w.cell? (a.add i) = some (.string ⟨l[i].toArray⟩)
theorem StrsIs.call {w w' : World} {v : Value} {l : List (List UInt8)} (h : StrsIs w v l) (hb : Below w.heap.size w w') : StrsIs w' v l := by
  rcases h with h | ⟨a, c, rfl, h1, h2, h3⟩
  · exact Or.inl h
  · refine Or.inr ⟨a, c, rfl, h1, h2, fun i hi => ?_⟩
    rw [hb.cell (World.block_lt_of_cell? w _ (h3 i hi))]; exact h3 i hi
theorem StrsIs.form {w : World} {v : Value} {l : List (List UInt8)} (h : StrsIs w v l) : ∃ p c, v = .slice p l.length c := by
  rcases h with ⟨rfl, rfl⟩ | ⟨a, c, rfl, _⟩
  · exact ⟨none, 0, rfl⟩
  · exact ⟨some a, c, rfl⟩

variable {H : Type} {enc : TypeId × Value → H}
theorem cells_string : Tryz.prog.cellsOf 9 = 1 := by kernel_rfl
theorem open_strs_arg {r : Reach} {W : World} {b0 : Nat} {v : Value} {d : DataW H} {ps : List MemPlace} (hval : Value.okWide Tryz.prog W r b0 24 v)
    (hd : DataW.Trod enc Tryz.prog W 0 (fun _ => true) true 24 v d ps) :
    ∃ l : List (List UInt8), StrsIs W v l ∧ ∀ W', Below W.heap.size W W' → ∃ pa, DataW.Trod enc Tryz.prog W' 0 (fun b => decide (b < W.heap.size)) true 24 v d pa := by
  obtain ⟨a, n, c, rfl⟩ := okWide_slice Tryz.underlying24 hval
  obtain ⟨fuel, hf⟩ := hd
  rcases open_strs Tryz.underlying24 Tryz.underlying9 cells_string hf with ⟨hc, hx⟩ | ⟨a', len, cap, m, Sx, hc, hb, hl, hm, hmm, hx, hcell⟩
  · have e : (Value.slice a n c) = .slice none 0 0 := by simpa [Value.cells] using hc
    rw [e]
    obtain ⟨rfl, rfl⟩ := Prod.mk.inj hx
    exact ⟨[], Or.inl ⟨rfl, rfl⟩, fun W' _ => ⟨_, shut_slice_nil Tryz.underlying24⟩⟩
  · have e : (Value.slice a n c) = .slice (some a') len cap := by simpa [Value.cells] using hc
    rw [e]
    obtain ⟨rfl, rfl⟩ := Prod.mk.inj hx
    rw [if_pos rfl] at hmm
    subst hmm
    refine ⟨(List.range len).map fun i => (Sx i).data.toList, Or.inr ⟨a', m, by simp, by simpa using hl, hm, fun i hi => ?_⟩, fun W' hB => ?_⟩
    · simp only [List.length_map, List.length_range] at hi
      rw [(hcell i (by omega)).1]
      simp
    · have one : ∀ (base : Nat) (hb : base ≤ a'.block) (sp : Nat → Bool) i, i < m → ∃ cs n, W'.cells? base (a'.add (i * Tryz.prog.cellsOf 9)) (Tryz.prog.cellsOf 9) = some cs ∧ DataW.trod enc Tryz.prog W' base sp true n 9 cs = some (.lit (.string (Sx i).data.toList), []) := by
        intro base hb sp i hi
        obtain ⟨n, hn⟩ := shut_string_cell (enc := enc) (P := Tryz.prog) (w := W') (base := base) (spare := sp) (held := true) Tryz.underlying9 (hcell i hi).2
        refine ⟨[.string (Sx i)], n, ?_, hn⟩
        rw [cells_string, Nat.mul_one]
        refine cells?_one (by rw [add_block]; exact hb) ?_
        rw [hB.cell (World.block_lt_of_cell? W _ (hcell i hi).1)]
        exact (hcell i hi).1
      cases hsp : decide (a'.block < W.heap.size) with
      | true =>
        obtain ⟨n, hn⟩ := shut_slice_whole_cells (enc := enc) (P := Tryz.prog) (w := W') (base := 0) (spare := fun b => decide (b < W.heap.size)) (held := true) (a := a') Tryz.underlying24 hb hl hm hsp (fun i => .lit (.string (Sx i).data.toList)) (fun _ => []) (one 0 hb _)
        exact ⟨_, n, hn⟩
      | false =>
        have hm0 : m = 0 := by
          by_cases h0 : m = 0
          · exact h0
          · have := World.block_lt_of_cell? W _ (hcell 0 (by omega)).1
            rw [add_block] at this
            simp at hsp
            omega
        obtain ⟨n, hn⟩ := shut_slice_cells (enc := enc) (P := Tryz.prog) (w := W') (base := 0) (spare := fun b => decide (b < W.heap.size)) (held := true) (a := a') Tryz.underlying24 hb hl hm hsp (fun i => .lit (.string (Sx i).data.toList)) (fun _ => []) (fun i hi => one 0 hb _ i (by omega))
        subst hm0
        have hl0 : len = 0 := by omega
        subst hl0
        exact ⟨_, n, hn⟩

#print axioms open_strs_arg
end Go.Proofs.YtdimfppijcebjaaGreatDoor
