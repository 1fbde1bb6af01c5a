/- The contracts of package verb: All, Upper, Find. -/
import Derived.Test.YtmodmfkcigibpaaDoorVerbNamed
import Derived.Test.YtmodmfkcigibpaaDoorVerbUp
import Derived.Laws.OwnMore
import Derived.Laws.AppendOwn
namespace Go.Proofs.YtmodmfkcigibpaaDoor.Vb
open Go.Proofs.YtmodmfkcigibpaaDoor
open Go.ChangeShapes Go.WideShapes Go.ChangeAt Go.RowKit
set_option maxRecDepth 100000
set_option linter.unusedSimpArgs false

theorem find_any (s : List UInt8) (hl : s.length ≤ 100000) (w : World) : Calls Tryd.prog 60 #[.string ⟨s.toArray⟩] w fun e w' => e = .returned (.tuple #[verbV (found s).1, .bool (found s).2]) ∧ Below w.heap.size w w' := find_by upper_any s hl w

theorem info_verb : (Tryd.prog.info? 89).map (fun i => (i.zero, i.size, i.bytes)) = some (some (.agg #[.string ByteArray.empty, .int .i64 0, .int .i64 0, .bool false]), 4, 40) := by kernel_rfl
abbrev nameV (v : Vb) : Value := .string ⟨v.name.toArray⟩
theorem own_call {w w' : World} {base : Nat} {t : TypeId} {size : Nat} {v : Value} {n : Nat} {xs : List Value} (h : w.ownsRow base t size v n xs) (hb : Below w.heap.size w w') : w'.ownsRow base t size v n xs := by
  obtain ⟨h0, h | ⟨g, cap, cur, h1, h2, h3, hr⟩⟩ := h
  · exact ⟨h0, Or.inl h⟩
  · exact ⟨h0, Or.inr ⟨g, cap, cur, h1, h2, by rw [hb.block g (lt_of_block h3)]; exact h3, hr⟩⟩
/-- the names of the table, sorted, in a block -/
def NamesAt (w : World) (g : Nat) : Prop := g < w.heap.size ∧ ∀ k (h : k < verbs.length), w.cell? ⟨g, k, none⟩ = some (nameV verbs[k])
theorem NamesAt.call {w w' : World} {g : Nat} (h : NamesAt w g) (hb : Below w.heap.size w w') : NamesAt w' g := by
  refine ⟨Nat.lt_of_lt_of_le h.1 hb.size, fun k hk => ?_⟩
  rw [hb.cell (p := ⟨g, k, none⟩) h.1]
  exact h.2 k hk
theorem look_each (k : Nat) (hk : k < verbs.length) : (has verbs[k].name).1 = verbs[k] := by rw [has_each _ (List.getElem_mem hk)]
theorem take_next (k : Nat) (hk : k < verbs.length) : (verbs.take (k + 1)).flatMap verbCs = (verbs.take k).flatMap verbCs ++ verbCs verbs[k] := by
  rw [List.take_succ_eq_append_getElem hk, List.flatMap_append]
  simp
theorem own_verbs {w : World} {base : Nat} {v : Value} (h : w.ownsRow base 89 4 v 36 (verbs.flatMap verbCs)) : ∃ p c, v = .slice p 36 c ∧ VerbsIs w (.slice p 36 c) verbs := by
  have h0 := h.2
  rcases h0 with ⟨rfl, h'⟩ | ⟨g, cap, cur, rfl, hg, hh, _⟩
  · cases h'
  · refine ⟨_, _, rfl, g, 0, cap, rfl, lt_of_block hh, fun i hi => ?_⟩
    obtain ⟨q0, q1, q2, q3⟩ := flat4 verbs i hi
    have hi' : i < 36 := by rw [verbs_len] at hi; exact hi
    simp only [Nat.zero_add]
    exact ⟨by rw [h.cellAt _ (by omega)]; exact q0, by rw [h.cellAt _ (by omega)]; exact q1, by rw [h.cellAt _ (by omega)]; exact q2, by rw [h.cellAt _ (by omega)]; exact q3⟩


end Go.Proofs.YtmodmfkcigibpaaDoor.Vb
