/- A framer's box, made and filled: what was known stays. -/
import Derived.Test.YtampgoicogfccaaLineRef
import Derived.Test.YtampgoicogfccaaLineFeed
namespace Go.Proofs.Ytampgoicogfccaa.Ln
open Go.Proofs.Ytampgoicogfccaa
open Go.ChangeShapes Go.WideShapes Go.ChangeAt Go.RowKit
set_option linter.unusedSimpArgs false
set_option linter.unusedVariables false

/-- lines don't lie in a block that holds no text -/
theorem lines_set {w : World} {v : Value} {l : List (List UInt8 × Bool)} (h : LinesIs w v l) {b : Nat} {t : TypeId} {cs : Array Value} (r : IsRow w b t cs) (hc : ∀ (i : Nat) (s : ByteArray), cs[i]? ≠ some (.string s)) (i : Nat) (u : Value) : LinesIs (w.setCell ⟨b, i, none⟩ u) v l := by
  rcases h with h | ⟨a, c, rfl, h1, h2, h3⟩
  · exact Or.inl h
  · refine Or.inr ⟨a, c, rfl, h1, h2, fun j x hj => ?_⟩
    have hne : (a.add j).block ≠ b := by
      intro e
      have hpos : 0 < l.length := by
        have := (List.getElem?_eq_some_iff.1 hj).1
        rw [flat_length] at this
        omega
      have hcell := h3 0 _ (flat_text l 0 hpos)
      have hp : (a.add 0) = ⟨b, (a.add 0).off, none⟩ := by
        have hs := World.cell?_spot hcell
        rw [add_block] at e
        rw [← e]
        have hb := add_block a 0
        generalize a.add 0 = a' at *
        cases a'
        simp_all
      rw [hp, r.cell] at hcell
      exact hc _ _ hcell
    rw [← h3 j x hj]
    exact World.cell?_of_block (Below.heap_setCell _ _ _ _ hne)

/-- a box for what has come, made or filled behind w: what was known stays -/
structure Boxes (w W : World) (B : Nat) (x : Value) (cr sk : Bool) : Prop where
  row : IsRow W B 24 #[x, .bool cr, .bool sk]
  rows : ∀ b cs, IsRow w b 24 cs → b ≠ B → IsRow W b 24 cs
  bytes : ∀ v l, BytesIs w v l → BytesIs W v l
  lines : ∀ v l, LinesIs w v l → LinesIs W v l
  below : ∀ n u, Below n u w → n ≤ B → Below n u W

theorem Boxes.new (w : World) (x : Value) (cr sk : Bool) : Boxes w (w.alloc (.cells #[x, .bool cr, .bool sk] 24)) w.heap.size x cr sk where
  row := IsRow.made _ _ _
  rows := fun b cs h _ => h.alloc _
  bytes := fun v l h => h.alloc _
  lines := fun v l h => h.call ((Below.refl _ _).alloc (Nat.le_refl _) _)
  below := fun n u h hn => h.alloc hn _
theorem Boxes.set {w : World} {B : Nat} (p : Option Addr) (n c : Nat) (cr sk : Bool) (r : IsRow w B 24 #[.slice none 0 0, .bool false, .bool false]) :
    Boxes w (((w.setCell ⟨B, 0, none⟩ (.slice p n c)).setCell ⟨B, 1, none⟩ (.bool cr)).setCell ⟨B, 2, none⟩ (.bool sk)) B (.slice p n c) cr sk := by
  have nb : ∀ (p : Option Addr) (n c : Nat) (a b : Bool) (i : Nat) (u : UInt8), (#[.slice p n c, .bool a, .bool b] : Array Value)[i]? ≠ some (byteV u) := by
    intro p n c a b i u
    match i with
    | 0 => intro e; cases e
    | 1 => intro e; cases e
    | 2 => intro e; cases e
    | i + 3 => intro e; simp at e
  have ns : ∀ (p : Option Addr) (n c : Nat) (a b : Bool) (i : Nat) (u : ByteArray), (#[.slice p n c, .bool a, .bool b] : Array Value)[i]? ≠ some (.string u) := by
    intro p n c a b i u
    match i with
    | 0 => intro e; cases e
    | 1 => intro e; cases e
    | 2 => intro e; cases e
    | i + 3 => intro e; simp at e
  have r1 : IsRow (w.setCell ⟨B, 0, none⟩ (.slice p n c)) B 24 #[.slice p n c, .bool false, .bool false] := r.set 0 _
  have r2 : IsRow ((w.setCell ⟨B, 0, none⟩ (.slice p n c)).setCell ⟨B, 1, none⟩ (.bool cr)) B 24 #[.slice p n c, .bool cr, .bool false] := r1.set 1 _
  exact {
    row := r2.set 2 _
    rows := fun b cs h hne => ((h.other (a := ⟨B, 0, none⟩) hne _).other (a := ⟨B, 1, none⟩) hne _).other (a := ⟨B, 2, none⟩) hne _
    bytes := fun v l h => bytes_set (bytes_set (bytes_set h r (nb _ _ _ _ _) 0 _) r1 (nb _ _ _ _ _) 1 _) r2 (nb _ _ _ _ _) 2 _
    lines := fun v l h => lines_set (lines_set (lines_set h r (ns _ _ _ _ _) 0 _) r1 (ns _ _ _ _ _) 1 _) r2 (ns _ _ _ _ _) 2 _
    below := fun k u h hk => ((h.setCell hk _).setCell hk _).setCell hk _ }

#print axioms Boxes.set
end Go.Proofs.Ytampgoicogfccaa.Ln
