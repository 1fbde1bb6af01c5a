/- Bytes of one's own, written over one by one; strings compared by order. -/
import Derived.Test.YtdimfppijcebjaaGreatDoorBytesConv
import Derived.Laws.Cover1
namespace Go.Proofs.YtdimfppijcebjaaGreatDoor
open Go.ChangeShapes Go.WideShapes Go.ChangeAt Go.RowKit
set_option maxRecDepth 100000

theorem FreshIs.forms {w : World} {base : Nat} {v : Value} {l : List UInt8} (h : FreshIs w base v l) : ∃ g cap, v = .slice (some ⟨g, 0, none⟩) l.length cap ∧ base ≤ g := by
  obtain ⟨g, cap, cur, fz, h1, h2, _⟩ := h
  exact ⟨g, cap, h1, h2⟩
theorem FreshIs.at {w : World} {base g n cap : Nat} {l : List UInt8} (h : FreshIs w base (.slice (some ⟨g, 0, none⟩) n cap) l) (i : Nat) (hi : i < l.length) : w.cell? ⟨g, i, none⟩ = some (byteV l[i]) ∧ w.frozen? ⟨g, i, none⟩ = false := by
  obtain ⟨g', cap', cur, fz, e, _, hh, hfz, hs, hl, hm, hc⟩ := h
  injection e with e1 e2 e3
  injection e1 with e1
  injection e1 with e1 _ _
  subst e1
  refine ⟨by rw [cell_block hh]; exact hc i hi, ?_⟩
  simp only [World.frozen?, hh]
  simp
  omega
theorem FreshIs.set {w : World} {base g n cap : Nat} {l : List UInt8} (h : FreshIs w base (.slice (some ⟨g, 0, none⟩) n cap) l) (k : Nat) (hk : k < l.length) (c : UInt8) : FreshIs (w.setCell ⟨g, k, none⟩ (byteV c)) base (.slice (some ⟨g, 0, none⟩) n cap) (l.set k c) := by
  obtain ⟨g', cap', cur, fz, e, hb, hh, hfz, hs, hl, hm, hc⟩ := h
  injection e with e1 e2 e3
  injection e1 with e1
  injection e1 with e1 _ _
  subst e1
  refine ⟨g, cap', cur.setIfInBounds k (byteV c), fz, by rw [List.length_set, e2, e3], hb, ?_, hfz, by simpa using hs, by simpa using hl, hm, fun i hi => ?_⟩
  · have hlt := lt_of_block hh
    have h' : w.heap[g] = .cells cur 5 fz := by simpa [Array.getElem?_eq_getElem hlt] using hh
    show (w.heap.modify g _)[g]? = _
    rw [Array.getElem?_eq_getElem (by simpa using hlt), Array.getElem_modify_self, h']; rfl
  · simp only [List.length_set] at hi
    rw [Array.getElem?_setIfInBounds, List.getElem_set]
    by_cases he : k = i
    · subst he
      simp only [if_true]
      rw [if_pos (by omega)]
    · rw [if_neg he, if_neg he]
      exact hc i hi
theorem FreshIs.call {w w' : World} {base : Nat} {v : Value} {l : List UInt8} (h : FreshIs w base v l) (hb : Below w.heap.size w w') : FreshIs w' base v l := by
  obtain ⟨g', cap', cur, fz, e, hb', hh, hr⟩ := h
  exact ⟨g', cap', cur, fz, e, hb', by rw [hb.block g' (lt_of_block hh)]; exact hh, hr⟩

#print axioms FreshIs.set
end Go.Proofs.YtdimfppijcebjaaGreatDoor
