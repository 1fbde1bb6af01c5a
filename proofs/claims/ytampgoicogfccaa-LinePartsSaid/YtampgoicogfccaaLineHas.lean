/- Package line's feeder in memory: one block that holds what has come, the bytes and the lines in rows of their own beside it. -/
import Derived.Test.YtampgoicogfccaaFramer
import Derived.Test.YtampgoicogfccaaLines
import Derived.Test.YtampgoicogfccaaLinePlain
import Derived.Lib.Hide
import Derived.Below
namespace Go.Proofs.Ytampgoicogfccaa.Ln
open Go.Proofs.Ytampgoicogfccaa
open Go.ChangeShapes Go.WideShapes Go.ChangeAt Go.RowKit
set_option linter.unusedSimpArgs false

theorem own_row_ne {w : World} {b : Nat} {t : TypeId} {cs : Array Value} {base : Nat} {e : TypeId} {size : Nat} {v : Value} {n : Nat} {xs : List Value} (r : IsRow w b t cs) (h : w.ownsRow base e size v n xs) (hne : t ≠ e) : ∀ k, v.ownBlock = some k → k ≠ b := by
  intro k hk e'
  subst e'
  rcases h.2 with ⟨rfl, _⟩ | ⟨g, cap, cur, rfl, _, hh, _⟩
  · cases hk
  · have : g = k := by simpa [Value.ownBlock] using hk
    subst this
    unfold IsRow at r
    rw [r] at hh
    injection hh with hh
    injection hh with _ ht
    exact hne ht
theorem own_own_ne {w : World} {base base' : Nat} {e e' : TypeId} {size size' : Nat} {v v' : Value} {n n' : Nat} {xs xs' : List Value} (h : w.ownsRow base e size v n xs) (h' : w.ownsRow base' e' size' v' n' xs') (hne : e ≠ e') : v.ownBlock = none ∨ v.ownBlock ≠ v'.ownBlock := by
  rcases h.2 with ⟨rfl, _⟩ | ⟨g, cap, cur, rfl, _, hh, _⟩
  · exact Or.inl rfl
  · right
    intro he
    rcases h'.2 with ⟨rfl, _⟩ | ⟨g', cap', cur', rfl, _, hh', _⟩
    · cases he
    · have : g = g' := by simpa [Value.ownBlock] using he
      subst this
      rw [hh] at hh'
      injection hh' with hh'
      injection hh' with _ ht
      exact hne ht
theorem own_set {w : World} {b : Nat} {t : TypeId} {cs : Array Value} {base : Nat} {e : TypeId} {size : Nat} {v : Value} {n : Nat} {xs : List Value} (r : IsRow w b t cs) (h : w.ownsRow base e size v n xs) (hne : t ≠ e) (i : Nat) (u : Value) : (w.setCell ⟨b, i, none⟩ u).ownsRow base e size v n xs := by
  have hk := own_row_ne r h hne
  refine ⟨h.1, ?_⟩
  rcases h.2 with ⟨rfl, hn⟩ | ⟨g, cap, cur, rfl, hg, hh, hr⟩
  · exact Or.inl ⟨rfl, hn⟩
  · exact Or.inr ⟨g, cap, cur, rfl, hg, by rw [Below.heap_setCell _ _ _ _ (by show g ≠ b; exact hk g rfl)]; exact hh, hr⟩
theorem own_call {w w' : World} {base : Nat} {e : TypeId} {size : Nat} {v : Value} {n : Nat} {xs : List Value} (h : w.ownsRow base e size v n xs) (hb : Below w.heap.size w w') : w'.ownsRow base e size v n xs := by
  refine ⟨h.1, ?_⟩
  rcases h.2 with ⟨rfl, hn⟩ | ⟨g, cap, cur, rfl, hg, hh, hr⟩
  · exact Or.inl ⟨rfl, hn⟩
  · exact Or.inr ⟨g, cap, cur, rfl, hg, by rw [hb.block g (lt_of_block hh)]; exact hh, hr⟩

/-- the feeder in block B: what has come, how long a line may be, whether a 10 alone ends it, the lines -/
structure Has (K B : Nat) (g : Fr) (most : Int) (lf : Bool) (x out : Value) (ls : List (List UInt8 × Bool)) (w : World) : Prop where
  row : IsRow w B 44 #[x, .bool g.cr, .bool g.skip, .int .i64 most, .bool lf, out]
  bytes : w.ownsRow K 5 1 x g.b.length (g.b.map byteV)
  lines : w.ownsRow K 37 2 out ls.length (ls.flatMap lineCs)

theorem fd_u8 : (44 : TypeId) ≠ 5 := by decide
theorem fd_line : (44 : TypeId) ≠ 37 := by decide
theorem u8_line : (5 : TypeId) ≠ 37 := by decide

variable {K B : Nat} {g : Fr} {most : Int} {lf : Bool} {x out : Value} {ls : List (List UInt8 × Bool)} {w : World}
theorem Has.c0 (h : Has K B g most lf x out ls w) : w.cell? ⟨B, 0, none⟩ = some x := h.row.cell 0
theorem Has.c1 (h : Has K B g most lf x out ls w) : w.cell? ⟨B, 1, none⟩ = some (.bool g.cr) := h.row.cell 1
theorem Has.c2 (h : Has K B g most lf x out ls w) : w.cell? ⟨B, 2, none⟩ = some (.bool g.skip) := h.row.cell 2
theorem Has.c3 (h : Has K B g most lf x out ls w) : w.cell? ⟨B, 3, none⟩ = some (.int .i64 most) := h.row.cell 3
theorem Has.c4 (h : Has K B g most lf x out ls w) : w.cell? ⟨B, 4, none⟩ = some (.bool lf) := h.row.cell 4
theorem Has.c5 (h : Has K B g most lf x out ls w) : w.cell? ⟨B, 5, none⟩ = some out := h.row.cell 5
theorem Has.free (h : Has K B g most lf x out ls w) (i : Nat) : w.frozen? ⟨B, i, none⟩ = false := h.row.free i
theorem Has.call {w' : World} (h : Has K B g most lf x out ls w) (hb : Below w.heap.size w w') : Has K B g most lf x out ls w' :=
  ⟨h.row.call hb, own_call h.bytes hb, own_call h.lines hb⟩
theorem Has.drew (h : Has K B g most lf x out ls w) : Has K B g most lf x out ls w.drew := h.call (Below.refl _ _).drew
/-- Cr is set anew -/
theorem Has.cr (h : Has K B g most lf x out ls w) (b : Bool) : Has K B ⟨g.b, b, g.skip⟩ most lf x out ls (w.setCell ⟨B, 1, none⟩ (.bool b)) :=
  ⟨h.row.set 1 _, own_set h.row h.bytes fd_u8 1 _, own_set h.row h.lines fd_line 1 _⟩
/-- the bytes lie elsewhere, more of them -/
theorem Has.grow {w' : World} {y : Value} {l : List UInt8} (h : Has K B g most lf x out ls w) (hg : w.grownBy w' x.ownBlock) (hy : w'.ownsRow K 5 1 y l.length (l.map byteV)) :
    IsRow w' B 44 #[x, .bool g.cr, .bool g.skip, .int .i64 most, .bool lf, out] ∧ Has K B ⟨l, g.cr, g.skip⟩ most lf y out ls (w'.setCell ⟨B, 0, none⟩ y) := by
  have r : IsRow w' B 44 #[x, .bool g.cr, .bool g.skip, .int .i64 most, .bool lf, out] := row_grown h.row hg (fun e => own_row_ne h.row h.bytes fd_u8 B e.symm rfl)
  have ln := h.lines.kept hg (own_own_ne h.lines h.bytes (fun e => u8_line e.symm))
  exact ⟨r, r.set 0 _, own_set r hy fd_u8 0 _, own_set r ln fd_line 0 _⟩
/-- one line more -/
theorem Has.line {w' : World} {y : Value} {x1 : List UInt8 × Bool} (h : Has K B g most lf x out ls w) (hg : w.grownBy w' out.ownBlock) (hy : w'.ownsRow K 37 2 y (ls.length + 1) ((ls ++ [x1]).flatMap lineCs)) :
    IsRow w' B 44 #[x, .bool g.cr, .bool g.skip, .int .i64 most, .bool lf, out] ∧ Has K B g most lf x y (ls ++ [x1]) (w'.setCell ⟨B, 5, none⟩ y) := by
  have r : IsRow w' B 44 #[x, .bool g.cr, .bool g.skip, .int .i64 most, .bool lf, out] := row_grown h.row hg (fun e => own_row_ne h.row h.lines fd_line B e.symm rfl)
  have hy : w'.ownsRow K 37 2 y (ls ++ [x1]).length ((ls ++ [x1]).flatMap lineCs) := by rw [List.length_append]; exact hy
  have ln := h.bytes.kept hg (own_own_ne h.bytes h.lines u8_line)
  exact ⟨r, r.set 5 _, own_set r ln fd_u8 5 _, own_set r hy fd_line 5 _⟩
/-- too long: what has come is let go -/
theorem Has.drop (h : Has K B g most lf x out ls w) : Has K B ⟨[], g.cr, true⟩ most lf (.slice none 0 0) out ls ((w.setCell ⟨B, 0, none⟩ (.slice none 0 0)).setCell ⟨B, 2, none⟩ (.bool true)) :=
  ⟨(h.row.set 0 _).set 2 _, World.ownsRow_nil _ _ _ _, own_set (h.row.set 0 (.slice none 0 0)) (own_set h.row h.lines fd_line 0 _) fd_line 2 _⟩
/-- nothing has come -/
theorem Has.fresh (h : Has K B g most lf x out ls w) : Has K B none0 most lf (.slice none 0 0) out ls (((w.setCell ⟨B, 0, none⟩ (.slice none 0 0)).setCell ⟨B, 1, none⟩ (.bool false)).setCell ⟨B, 2, none⟩ (.bool false)) :=
  ⟨((h.row.set 0 _).set 1 _).set 2 _, World.ownsRow_nil _ _ _ _, own_set ((h.row.set 0 (.slice none 0 0)).set 1 (.bool false)) (own_set (h.row.set 0 (.slice none 0 0)) (own_set h.row h.lines fd_line 0 _) fd_line 1 _) fd_line 2 _⟩

#print axioms Has.grow
end Go.Proofs.Ytampgoicogfccaa.Ln
