/- A block of memory known whole: its cells, that it may be written, what it is behind a store, a new block, a call that makes memory alone. No program in this text. -/
import Derived.Below
import Derived.OneCell
import Derived.Laws.Rows
namespace Go.Proofs.Ytfeiafjeidnmkaa
open Go Go.RowKit

/-- block b of w holds just these cells, and may be written -/
def IsRow (w : World) (b : Nat) (t : TypeId) (cs : Array Value) : Prop := w.heap[b]? = some (.cells cs t (0, 0))

theorem IsRow.cell {w : World} {b : Nat} {t : TypeId} {cs : Array Value} (h : IsRow w b t cs) (i : Nat) : w.cell? ⟨b, i, none⟩ = cs[i]? := by
  unfold IsRow at h; simp [World.cell?, h]
theorem IsRow.free {w : World} {b : Nat} {t : TypeId} {cs : Array Value} (h : IsRow w b t cs) (i : Nat) : w.frozen? ⟨b, i, none⟩ = false := by
  unfold IsRow at h; simp [World.frozen?, h]
theorem IsRow.lt {w : World} {b : Nat} {t : TypeId} {cs : Array Value} (h : IsRow w b t cs) : b < w.heap.size := lt_of_block h
theorem IsRow.set {w : World} {b : Nat} {t : TypeId} {cs : Array Value} (h : IsRow w b t cs) (i : Nat) (u : Value) : IsRow (w.setCell ⟨b, i, none⟩ u) b t (cs.setIfInBounds i u) := by
  have hlt := h.lt
  unfold IsRow at h ⊢
  have h' : w.heap[b] = .cells cs t (0, 0) := by simpa [Array.getElem?_eq_getElem hlt] using h
  show (w.heap.modify b _)[b]? = _
  rw [Array.getElem?_eq_getElem (by simpa using hlt), Array.getElem_modify_self, h']; rfl
theorem IsRow.other {w : World} {b : Nat} {t : TypeId} {cs : Array Value} (h : IsRow w b t cs) {a : Addr} (ha : b ≠ a.block) (u : Value) : IsRow (w.setCell a u) b t cs := by
  unfold IsRow at h ⊢; rw [Below.heap_setCell _ _ _ _ ha]; exact h
theorem IsRow.below {w w' : World} {b : Nat} {t : TypeId} {cs : Array Value} (h : IsRow w b t cs) {B : Nat} (hb : Below B w w') (hlt : b < B) : IsRow w' b t cs := by
  unfold IsRow at h ⊢; rw [hb.block b hlt]; exact h
theorem IsRow.call {w w' : World} {b : Nat} {t : TypeId} {cs : Array Value} (h : IsRow w b t cs) (hb : Below w.heap.size w w') : IsRow w' b t cs := h.below hb h.lt
theorem IsRow.made (w : World) (t : TypeId) (cs : Array Value) : IsRow (w.alloc (.cells cs t)) w.heap.size t cs := by
  unfold IsRow; exact heap_alloc_new w _
theorem IsRow.alloc {w : World} {b : Nat} {t : TypeId} {cs : Array Value} (h : IsRow w b t cs) (o : Obj) : IsRow (w.alloc o) b t cs := by
  have := h.lt
  unfold IsRow at h ⊢; rw [Below.heap_alloc _ _ _ this]; exact h
theorem IsRow.drew {w : World} {b : Nat} {t : TypeId} {cs : Array Value} (h : IsRow w b t cs) : IsRow w.drew b t cs := h

end Go.Proofs.Ytfeiafjeidnmkaa
