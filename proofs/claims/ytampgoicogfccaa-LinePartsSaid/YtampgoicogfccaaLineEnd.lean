/- The contract of package line's feeder: end. -/
import Derived.Test.YtampgoicogfccaaLinePut
import Derived.Deep.RegionLaw
import Derived.Deep.RegionHeldLaw
namespace Go.Proofs.Ytampgoicogfccaa.Ln
open Go.Proofs.Ytampgoicogfccaa
open Go.ChangeShapes Go.WideShapes Go.ChangeAt Go.RowKit
set_option linter.unusedSimpArgs false

/-- append(x, y), x a row of lines of its own, y one line, at a step of a region that draws -/
theorem step_append_line {w : World} {ops : Array Oper} {o : Oper} {a : Act} {K : Act → World → Prop} {Q : Exit → Act → World → Prop} {E : Prop} (hgd : o.guard = none) (s x : Operand)
    (ho : o.op = .call { callee := .builtin .append, args := #[s, x], argTypes := #[26, 26] })
    (base : Nat) (v : Value) (l1 : List (List UInt8 × Bool)) (hs : a.eval s = v) (hown : w.ownsRow base 37 2 v l1.length (l1.flatMap lineCs))
    (b : Nat) (y : List UInt8 × Bool) (hx : a.eval x = .slice (some ⟨b, 0, none⟩) 1 1) (hu : IsRow w b 37 #[.string ⟨y.1.toArray⟩, .bool y.2]) (hlim : l1.length ≤ 1000000000) (hbase : base ≤ w.heap.size)
    (h : ∀ v' w', w'.ownsRow base 37 2 v' (l1.length + 1) ((l1 ++ [y]).flatMap lineCs) → w.grownBy w' v.ownBlock → K (a.put o.dst v') w') :
    if Region.wanted o (yielded ops a.tmps) = true then Oper.wp Try.prog o a w K Q else E := by
  have hw : Region.wanted o (yielded ops a.tmps) = true := by simp [Region.wanted, hgd]
  rw [if_pos hw]
  obtain ⟨i0, hi, hz0, hz1, hz2⟩ := info_parts info_line
  refine wp_append_own w s x 26 ho base 37 i0 (.agg #[.string ByteArray.empty, .bool false]) 2 24 Try.underlying26 hi hz0 hz1 hz2 rfl (by decide) v l1.length (l1.flatMap lineCs) hs hown ⟨b, 0, none⟩ 1 1 (lineCs y) hx rfl ?_ ?_ ?_ ?_ hbase ?_
  · intro j u hj
    have e : (⟨b, 0, none⟩ : Addr).add j = ⟨b, j, none⟩ := by unfold Addr.add; split <;> simp_all
    rw [e, hu.cell j]
    simpa using hj
  · intro u hu
    simp only [lineCs, List.mem_cons, List.mem_nil_iff, or_false] at hu
    rcases hu with rfl | rfl <;> rfl
  · unfold maxLen; omega
  · omega
  · intro v' w' hown' hg _
    exact h v' w' (by rw [List.flatMap_append]; simpa using hown') hg

set_option maxHeartbeats 4000000 in
set_option maxRecDepth 100000 in
theorem end_any (K B : Nat) (g : Fr) (most : Int) (lf : Bool) (x out : Value) (ls : List (List UInt8 × Bool)) (hK : K ≤ B) (hs : ls.length ≤ 1000000) (w : World) (h : Has K B g most lf x out ls w) :
    Calls Try.prog 23 #[.pointer (some ⟨B, 0, none⟩)] w (HasPost K B none0 most lf (ls ++ [fin g]) w) := by
  obtain ⟨gb, gcr, gskip⟩ := g
  have H := Lib.hid h
  have hlt := h.row.lt
  have c0 := h.c0; have c2 := h.c2; have c5 := h.c5
  obtain ⟨p, n, rfl⟩ := own_form h.bytes
  obtain ⟨po, no, rfl⟩ := lown_form h.lines
  have NE : (some w.heap.size) ≠ (Value.slice po ls.length no).ownBlock := fun e => by have := (h.lines.lt _ e.symm).2; omega
  simp only at c0 c2
  clear h
  cases gskip with
  | true =>
    have hp : fin ⟨gb, gcr, true⟩ = ([], true) := rfl
    rw [hp]
    go_enter Try.func23, Try.ntmps23
    go_wp2_with fail
    generalize hw1 : World.alloc _ _ = w1
    have H1 := Lib.hid (show Has K B ⟨gb, gcr, true⟩ most lf (.slice p gb.length n) (.slice po ls.length no) ls w1 by rw [← hw1]; exact H.out.call ((Below.refl _ _).alloc (Nat.le_refl _) _))
    have R1 := Lib.hid (show IsRow w1 w.heap.size 37 #[.string ⟨#[]⟩, .bool true] by rw [← hw1]; exact IsRow.made _ _ _)
    have B1 := Lib.hid (show Below K w w1 by rw [← hw1]; exact (Below.refl K w).alloc (by omega) _)
    have hsz : w.heap.size < w1.heap.size := by rw [← hw1]; simp
    have hlt1 : B < w1.heap.size := by omega
    have k5 : w1.cell? ⟨B, 5, none⟩ = some (.slice po ls.length no) := H1.out.c5
    have l0 : w1.cell? ⟨w.heap.size, 0, none⟩ = some (.string ⟨#[]⟩) := R1.out.cell 0
    have l1 : w1.cell? ⟨w.heap.size, 1, none⟩ = some (.bool true) := R1.out.cell 1
    clear c0 c2 c5 hw1
    go_region_law (refine step_append_line (by rfl) (.tmp 21) (.tmp 23) (by rfl) K _ ls (by simp [Act.eval, Act.put]) (own_call H1.out.lines ((Below.refl _ _).drew.alloc (Nat.le_refl _) _)) w1.heap.size ([], true) (by simp [Act.eval, Act.put]) (IsRow.made w1.drew _ _) (by omega) (by simp; omega) ?_; intro o5 w5 hown5 hg5; obtain ⟨p5, n5, rfl⟩ := lown_form hown5; have HL := Lib.hid ((H1.out.drew.call ((Below.refl _ _).alloc (Nat.le_refl _) (.cells #[.string ⟨#[]⟩, .bool true] 37))).line hg5 hown5); have BL := Lib.hid ((B1.out.drew.alloc (by simp; omega) (.cells #[.string ⟨#[]⟩, .bool true] 37)).grown hg5 (by simp; omega) (lown_ge H1.out.lines)); have RL := Lib.hid (row_grown ((R1.out.drew).alloc (.cells #[.string ⟨#[]⟩, .bool true] 37)) hg5 (fun e => NE e)); have m5 : w5.cell? ⟨B, 5, none⟩ = some (.slice po ls.length no) := HL.out.1.cell 5; have m0 : w5.cell? ⟨w.heap.size, 0, none⟩ = some (.string ⟨#[]⟩) := RL.out.cell 0; have m1 : w5.cell? ⟨w.heap.size, 1, none⟩ = some (.bool true) := RL.out.cell 1; have mf : w5.frozen? ⟨B, 5, none⟩ = false := HL.out.1.free 5; clear hown5 hg5)
    all_goals (
      clear k5 l0 l1 m0 m1 m5 mf RL H1 R1 B1
      have G := Lib.hid HL.out.2
      have GB := Lib.hid (BL.out.setCell (p := ⟨B, 5, none⟩) hK (.slice p5 (ls.length + 1) n5))
      clear HL BL
      generalize World.setCell _ _ _ = w6 at G GB ⊢
      have g0 := G.out.c0
      have g1 := G.out.c1
      have g2 := G.out.c2
      have gf0 := G.out.free 0
      have gf1 := G.out.free 1
      have gf2 := G.out.free 2
      simp only at g0 g1 g2
      go_wp2_with fail
      go_end0
      exact ⟨rfl, ⟨_, _, G.out.fresh⟩, ((GB.out.setCell hK _).setCell hK _).setCell hK _⟩)
  | false =>
    have hp : fin ⟨gb, gcr, false⟩ = (gb, false) := rfl
    rw [hp]
    have q := fun o => str_of_bytes (bytes_of_own (H.out.call ((Below.refl w.heap.size w).alloc (Nat.le_refl _) o)).bytes)
    go_enter Try.func23, Try.ntmps23
    go_wp2_with fail
    generalize hw1 : World.alloc _ _ = w1
    have H1 := Lib.hid (show Has K B ⟨gb, gcr, false⟩ most lf (.slice p gb.length n) (.slice po ls.length no) ls w1 by rw [← hw1]; exact H.out.call ((Below.refl _ _).alloc (Nat.le_refl _) _))
    have R1 := Lib.hid (show IsRow w1 w.heap.size 37 #[.string ⟨gb.toArray⟩, .bool false] by rw [← hw1]; exact IsRow.made _ _ _)
    have B1 := Lib.hid (show Below K w w1 by rw [← hw1]; exact (Below.refl K w).alloc (by omega) _)
    have hsz : w.heap.size < w1.heap.size := by rw [← hw1]; simp
    have hlt1 : B < w1.heap.size := by omega
    have k5 : w1.cell? ⟨B, 5, none⟩ = some (.slice po ls.length no) := H1.out.c5
    have l0 : w1.cell? ⟨w.heap.size, 0, none⟩ = some (.string ⟨gb.toArray⟩) := R1.out.cell 0
    have l1 : w1.cell? ⟨w.heap.size, 1, none⟩ = some (.bool false) := R1.out.cell 1
    clear c0 c2 c5 hw1 q
    go_region_law (refine step_append_line (by rfl) (.tmp 21) (.tmp 23) (by rfl) K _ ls (by simp [Act.eval, Act.put]) (own_call H1.out.lines ((Below.refl _ _).drew.alloc (Nat.le_refl _) _)) w1.heap.size (gb, false) (by simp [Act.eval, Act.put]) (IsRow.made w1.drew _ _) (by omega) (by simp; omega) ?_; intro o5 w5 hown5 hg5; obtain ⟨p5, n5, rfl⟩ := lown_form hown5; have HL := Lib.hid ((H1.out.drew.call ((Below.refl _ _).alloc (Nat.le_refl _) (.cells #[.string ⟨gb.toArray⟩, .bool false] 37))).line hg5 hown5); have BL := Lib.hid ((B1.out.drew.alloc (by simp; omega) (.cells #[.string ⟨gb.toArray⟩, .bool false] 37)).grown hg5 (by simp; omega) (lown_ge H1.out.lines)); have RL := Lib.hid (row_grown ((R1.out.drew).alloc (.cells #[.string ⟨gb.toArray⟩, .bool false] 37)) hg5 (fun e => NE e)); have m5 : w5.cell? ⟨B, 5, none⟩ = some (.slice po ls.length no) := HL.out.1.cell 5; have m0 : w5.cell? ⟨w.heap.size, 0, none⟩ = some (.string ⟨gb.toArray⟩) := RL.out.cell 0; have m1 : w5.cell? ⟨w.heap.size, 1, none⟩ = some (.bool false) := RL.out.cell 1; have mf : w5.frozen? ⟨B, 5, none⟩ = false := HL.out.1.free 5; clear hown5 hg5)
    all_goals (
      clear k5 l0 l1 m0 m1 m5 mf RL H1 R1 B1
      have G := Lib.hid HL.out.2
      have GB := Lib.hid (BL.out.setCell (p := ⟨B, 5, none⟩) hK (.slice p5 (ls.length + 1) n5))
      clear HL BL
      generalize World.setCell _ _ _ = w6 at G GB ⊢
      have g0 := G.out.c0
      have g1 := G.out.c1
      have g2 := G.out.c2
      have gf0 := G.out.free 0
      have gf1 := G.out.free 1
      have gf2 := G.out.free 2
      simp only at g0 g1 g2
      go_wp2_with fail
      go_end0
      exact ⟨rfl, ⟨_, _, G.out.fresh⟩, ((GB.out.setCell hK _).setCell hK _).setCell hK _⟩)

#print axioms end_any
end Go.Proofs.Ytampgoicogfccaa.Ln
