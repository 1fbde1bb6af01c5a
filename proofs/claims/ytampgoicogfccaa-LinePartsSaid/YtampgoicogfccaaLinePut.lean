/- The contracts of package line's feeder: put, end. -/
import Derived.Test.YtampgoicogfccaaLineHas
import Derived.Laws.AppendOwn
import Derived.OwnWalk
namespace Go.Proofs.Ytampgoicogfccaa.Ln
open Go.Proofs.Ytampgoicogfccaa
open Go.ChangeShapes Go.WideShapes Go.ChangeAt Go.RowKit
set_option linter.unusedSimpArgs false

/-- the feeder behind a call: what has come, the lines -/
def HasPost (K B : Nat) (g : Fr) (most : Int) (lf : Bool) (ls : List (List UInt8 × Bool)) (w : World) (e : Ending) (w' : World) : Prop :=
  e = .returned (.tuple #[]) ∧ (∃ x out, Has K B g most lf x out ls w') ∧ Below K w w'

set_option maxHeartbeats 2000000 in
set_option maxRecDepth 100000 in
theorem put_any (K B : Nat) (g : Fr) (most : Int) (lf : Bool) (x out : Value) (ls : List (List UInt8 × Bool)) (c : UInt8) (hK : K ≤ B) (hl : g.b.length ≤ 1000000) (w : World) (h : Has K B g most lf x out ls w) :
    Calls Try.prog 24 #[.pointer (some ⟨B, 0, none⟩), .int .u8 (c.toNat : Int)] w (HasPost K B (put g c most) most lf ls w) := by
  obtain ⟨gb, gcr, gskip⟩ := g
  simp only at hl
  have H := Lib.hid h
  have hlt := h.row.lt
  have c0 := h.c0; have c2 := h.c2; have c3 := h.c3
  have f0 := h.free 0; have f2 := h.free 2
  obtain ⟨p, n, rfl⟩ := own_form h.bytes
  simp only at c0 c2
  clear h
  cases gskip with
  | true =>
    have hp : put ⟨gb, gcr, true⟩ c most = ⟨gb, gcr, true⟩ := rfl
    rw [hp]
    go_enter Try.func24, Try.ntmps24
    go_wp2_with fail
    go_end0
    exact ⟨rfl, ⟨_, _, H.out⟩, Below.refl _ _⟩
  | false =>
    by_cases hm : (gb.length : Int) < most
    · have hp : put ⟨gb, gcr, false⟩ c most = ⟨gb ++ [c], gcr, false⟩ := by unfold put; rw [if_neg (by simp), if_pos hm]
      rw [hp]
      go_enter Try.func24, Try.ntmps24
      go_wp2_with fail
      go_region
      go_wp2_with (at_builtin; refine wpList_append_bytes rfl _ _ rfl K _ gb rfl ((own_call H.out.bytes (Below.refl _ _)).alloc _) _ [c] rfl (bytes_new _ [c] (by show 1 ≤ maxLen; decide)) ?d1 ?d2 ?_)
      case d1 => first | omega | (simp; omega)
      try (case d2 => first | omega | (simp; omega))
      intro v1 w4 hown hg
      have HW := (H.out.call ((Below.refl w.heap.size w).alloc (Nat.le_refl _) (.cells #[.int .u8 (c.toNat : Int)] 5)).drew)
      have B4 : Below K w w4 := (((Below.refl K w).alloc (by omega) (.cells #[.int .u8 (c.toNat : Int)] 5)).drew).grown hg (by first | omega | (simp; omega)) (own_ge H.out.bytes)
      obtain ⟨p', n', rfl⟩ := own_form hown
      obtain ⟨r, G⟩ := Has.grow HW hg (l := gb ++ [c]) (by simpa using hown)
      have e0 : w4.cell? ⟨B, 0, none⟩ = some (.slice p gb.length n) := r.cell 0
      have ef : w4.frozen? ⟨B, 0, none⟩ = false := r.free 0
      have HG := Lib.hid G
      have HB := Lib.hid (B4.setCell (p := ⟨B, 0, none⟩) hK (.slice p' (gb.length + 1) n'))
      clear hown hg r HW G B4 c0 c2 c3 f0 f2
      go_wp2_with fail
      go_end0
      exact ⟨rfl, ⟨_, _, HG.out⟩, HB.out⟩
    · have hp : put ⟨gb, gcr, false⟩ c most = ⟨[], gcr, true⟩ := by unfold put; rw [if_neg (by simp), if_neg hm]
      rw [hp]
      go_enter Try.func24, Try.ntmps24
      go_wp2_with fail
      go_region
      go_wp2_with fail
      go_end0
      exact ⟨rfl, ⟨_, _, H.out.drew.drop⟩, ((Below.refl K w).drew.setCell hK _).setCell hK _⟩

#print axioms put_any
end Go.Proofs.Ytampgoicogfccaa.Ln
