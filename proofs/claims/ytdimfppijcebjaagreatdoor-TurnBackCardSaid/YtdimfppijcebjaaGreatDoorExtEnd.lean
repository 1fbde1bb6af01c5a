/- The contracts of ext.Read and ext.Text. -/
import Derived.Test.YtdimfppijcebjaaGreatDoorExtRead
import Derived.Lib.QuietBelow
namespace Go.Proofs.YtdimfppijcebjaaGreatDoor.Ext
open Go.Proofs.YtdimfppijcebjaaGreatDoor.Quad Go.Proofs.YtdimfppijcebjaaGreatDoor.Six Go.Proofs.YtdimfppijcebjaaGreatDoor
open Go.ChangeShapes Go.WideShapes Go.ChangeAt Go.RowKit Go.Sort

/-- what Read answers -/
abbrev readX (l : List UInt8) : Value := .tuple #[endV (extH l 0) (extH l 1) (extH l 2) (extH l 3) (extP l), .int .i64 (extC l)]
theorem readX_no {l : List UInt8} (h : extC l ≠ 0) : readX l = .tuple #[endV 0 0 0 0 0, .int .i64 (extC l)] := by
  unfold readX; rw [extH_no h, extH_no h, extH_no h, extH_no h, extP_no h]

set_option maxHeartbeats 2000000 in
set_option maxRecDepth 100000 in
theorem read_any (l : List UInt8) (ll : l.length ≤ 1000000) (w : World) (E : Env w) :
    Calls Tryz.prog 69 #[str l] w fun e w' => e = .returned (readX l) ∧ Below w.heap.size w w' := by
  obtain ⟨aF, aK, R⟩ := E.errs
  have C := Lib.hid (fun W EW RW => readEnd_any l ll aF aK W EW RW)
  clear ll
  go_enter Tryz.func69, Tryz.ntmps69
  go_wp2_with (go_at_call 84; refine (C.out _ ?_ ?_).mono ?_)
  · exact E.alloc _
  · exact R.alloc _
  rintro e w1 ⟨hh, b1⟩
  have B1 : Below w.heap.size w w1 := ((Below.refl _ _).alloc (Nat.le_refl _) _).trans (b1.mono (by simp))
  have Q1 : IsRow w1 w.heap.size 30 #[.int .u8 0, .int .u8 0, .int .u8 0, .int .u8 0, .int .i64 0] := (IsRow.made w _ _).call b1
  have hN1 := Q1.lt
  clear b1 C
  rcases hh with ⟨h0, rfl⟩ | ⟨h0, p, rfl⟩ | ⟨h0, p, rfl⟩
  · have hV := Lib.hid (show readX l = .tuple #[endV (extH l 0) (extH l 1) (extH l 2) (extH l 3) (extP l), .int .i64 0] by unfold readX; rw [h0])
    clear h0
    generalize extH l 0 = r0 at hV ⊢
    generalize extH l 1 = r1 at hV ⊢
    generalize extH l 2 = r2 at hV ⊢
    generalize extH l 3 = r3 at hV ⊢
    generalize extP l = r4 at hV ⊢
    go_wp2_with fail
    obtain ⟨w2, e2, B2, Q2, P2⟩ : ∃ w2, w1.alloc (.cells #[.int .u8 r0, .int .u8 r1, .int .u8 r2, .int .u8 r3, .int .i64 r4] 30) = w2 ∧ Below w.heap.size w w2 ∧ IsRow w2 w.heap.size 30 #[.int .u8 0, .int .u8 0, .int .u8 0, .int .u8 0, .int .i64 0] ∧ IsRow w2 w1.heap.size 30 #[.int .u8 r0, .int .u8 r1, .int .u8 r2, .int .u8 r3, .int .i64 r4] := ⟨_, rfl, B1.alloc B1.size _, Q1.alloc _, IsRow.made _ _ _⟩
    rw [e2]
    clear e2 B1 Q1
    have B2' := B2.drew
    have Q2' : IsRow w2.drew w.heap.size 30 #[.int .u8 0, .int .u8 0, .int .u8 0, .int .u8 0, .int .i64 0] := Q2
    have P2' : IsRow w2.drew w1.heap.size 30 #[.int .u8 r0, .int .u8 r1, .int .u8 r2, .int .u8 r3, .int .i64 r4] := P2
    have R2 := R.below B2'
    have CN := Lib.hid (fun W (RW : Errs aF aK W) => number_nil W)
    clear B2 Q2 P2
    have d0 : w2.drew.cell? ⟨w1.heap.size, 0, none⟩ = some (.int .u8 r0) := P2'.cell 0
    have d1 : w2.drew.cell? ⟨w1.heap.size, 1, none⟩ = some (.int .u8 r1) := P2'.cell 1
    have d2 : w2.drew.cell? ⟨w1.heap.size, 2, none⟩ = some (.int .u8 r2) := P2'.cell 2
    have d3 : w2.drew.cell? ⟨w1.heap.size, 3, none⟩ = some (.int .u8 r3) := P2'.cell 3
    have d4 : w2.drew.cell? ⟨w1.heap.size, 4, none⟩ = some (.int .i64 r4) := P2'.cell 4
    go_region_law (go_simp; go_at_call 75; refine (CN.out _ R2).mono ?_; rintro e w3 ⟨rfl, b3⟩; have B3 := below_trans B2' b3; have Q3 := Q2'.call b3; have P3 := P2'.call b3; have hN3 := Q3.lt; have hM3 := P3.lt; clear d0 d1 d2 d3 d4; have x0 : w3.cell? ⟨w1.heap.size, 0, none⟩ = some (.int .u8 r0) := P3.cell 0; have x1 : w3.cell? ⟨w1.heap.size, 1, none⟩ = some (.int .u8 r1) := P3.cell 1; have x2 : w3.cell? ⟨w1.heap.size, 2, none⟩ = some (.int .u8 r2) := P3.cell 2; have x3 : w3.cell? ⟨w1.heap.size, 3, none⟩ = some (.int .u8 r3) := P3.cell 3; have x4 : w3.cell? ⟨w1.heap.size, 4, none⟩ = some (.int .i64 r4) := P3.cell 4; have z0 : w3.cell? ⟨w.heap.size, 0, none⟩ = some (.int .u8 0) := Q3.cell 0; have zf0 : w3.frozen? ⟨w.heap.size, 0, none⟩ = false := Q3.free 0; have z1 : w3.cell? ⟨w.heap.size, 1, none⟩ = some (.int .u8 0) := Q3.cell 1; have zf1 : w3.frozen? ⟨w.heap.size, 1, none⟩ = false := Q3.free 1; have z2 : w3.cell? ⟨w.heap.size, 2, none⟩ = some (.int .u8 0) := Q3.cell 2; have zf2 : w3.frozen? ⟨w.heap.size, 2, none⟩ = false := Q3.free 2; have z3 : w3.cell? ⟨w.heap.size, 3, none⟩ = some (.int .u8 0) := Q3.cell 3; have zf3 : w3.frozen? ⟨w.heap.size, 3, none⟩ = false := Q3.free 3; have z4 : w3.cell? ⟨w.heap.size, 4, none⟩ = some (.int .i64 0) := Q3.cell 4; have zf4 : w3.frozen? ⟨w.heap.size, 4, none⟩ = false := Q3.free 4)
    all_goals (
      go_wp2_with fail
      generalize hW : World.setCell _ _ _ = W9
      have FR : IsRow W9 w.heap.size 30 #[.int .u8 r0, .int .u8 r1, .int .u8 r2, .int .u8 r3, .int .i64 r4] := by rw [← hW]; exact (((((Q3.set 0 _).set 1 _).set 2 _).set 3 _).set 4 _)
      have B9 : Below w.heap.size w W9 := by rw [← hW]; exact (((((B3.setCell (Nat.le_refl _) _).setCell (Nat.le_refl _) _).setCell (Nat.le_refl _) _).setCell (Nat.le_refl _) _).setCell (Nat.le_refl _) _)
      have g0 : W9.cell? ⟨w.heap.size, 0, none⟩ = some (.int .u8 r0) := FR.cell 0
      have g1 : W9.cell? ⟨w.heap.size, 1, none⟩ = some (.int .u8 r1) := FR.cell 1
      have g2 : W9.cell? ⟨w.heap.size, 2, none⟩ = some (.int .u8 r2) := FR.cell 2
      have g3 : W9.cell? ⟨w.heap.size, 3, none⟩ = some (.int .u8 r3) := FR.cell 3
      have g4 : W9.cell? ⟨w.heap.size, 4, none⟩ = some (.int .i64 r4) := FR.cell 4
      exact bodyPost_ret (v := .tuple #[endV r0 r1 r2 r3 r4, .int .i64 0]) (by simp [results, Tryz.results69, go_sem, g0, g1, g2, g3, g4]) rfl ⟨by rw [hV.out], B9⟩
    )
  · have hV := Lib.hid (show readX l = .tuple #[endV 0 0 0 0 0, .int .i64 2] by rw [readX_no (by omega), h0])
    clear h0
    go_wp2_with fail
    obtain ⟨w2, e2, B2, Q2, P2⟩ : ∃ w2, w1.alloc (.cells #[.int .u8 0, .int .u8 0, .int .u8 0, .int .u8 0, .int .i64 0] 30) = w2 ∧ Below w.heap.size w w2 ∧ IsRow w2 w.heap.size 30 #[.int .u8 0, .int .u8 0, .int .u8 0, .int .u8 0, .int .i64 0] ∧ IsRow w2 w1.heap.size 30 #[.int .u8 0, .int .u8 0, .int .u8 0, .int .u8 0, .int .i64 0] := ⟨_, rfl, B1.alloc B1.size _, Q1.alloc _, IsRow.made _ _ _⟩
    rw [e2]
    clear e2 B1 Q1
    have B2' := B2.drew
    have Q2' : IsRow w2.drew w.heap.size 30 #[.int .u8 0, .int .u8 0, .int .u8 0, .int .u8 0, .int .i64 0] := Q2
    have P2' : IsRow w2.drew w1.heap.size 30 #[.int .u8 0, .int .u8 0, .int .u8 0, .int .u8 0, .int .i64 0] := P2
    have R2 := R.below B2'
    have CN := Lib.hid (fun W (RW : Errs aF aK W) => number_form p aF aK W RW)
    clear B2 Q2 P2
    have d0 : w2.drew.cell? ⟨w1.heap.size, 0, none⟩ = some (.int .u8 0) := P2'.cell 0
    have d1 : w2.drew.cell? ⟨w1.heap.size, 1, none⟩ = some (.int .u8 0) := P2'.cell 1
    have d2 : w2.drew.cell? ⟨w1.heap.size, 2, none⟩ = some (.int .u8 0) := P2'.cell 2
    have d3 : w2.drew.cell? ⟨w1.heap.size, 3, none⟩ = some (.int .u8 0) := P2'.cell 3
    have d4 : w2.drew.cell? ⟨w1.heap.size, 4, none⟩ = some (.int .i64 0) := P2'.cell 4
    go_region_law (go_simp; go_at_call 75; refine (CN.out _ R2).mono ?_; rintro e w3 ⟨rfl, b3⟩; have B3 := below_trans B2' b3; have Q3 := Q2'.call b3; have P3 := P2'.call b3; have hN3 := Q3.lt; have hM3 := P3.lt; clear d0 d1 d2 d3 d4; have x0 : w3.cell? ⟨w1.heap.size, 0, none⟩ = some (.int .u8 0) := P3.cell 0; have x1 : w3.cell? ⟨w1.heap.size, 1, none⟩ = some (.int .u8 0) := P3.cell 1; have x2 : w3.cell? ⟨w1.heap.size, 2, none⟩ = some (.int .u8 0) := P3.cell 2; have x3 : w3.cell? ⟨w1.heap.size, 3, none⟩ = some (.int .u8 0) := P3.cell 3; have x4 : w3.cell? ⟨w1.heap.size, 4, none⟩ = some (.int .i64 0) := P3.cell 4; have z0 : w3.cell? ⟨w.heap.size, 0, none⟩ = some (.int .u8 0) := Q3.cell 0; have zf0 : w3.frozen? ⟨w.heap.size, 0, none⟩ = false := Q3.free 0; have z1 : w3.cell? ⟨w.heap.size, 1, none⟩ = some (.int .u8 0) := Q3.cell 1; have zf1 : w3.frozen? ⟨w.heap.size, 1, none⟩ = false := Q3.free 1; have z2 : w3.cell? ⟨w.heap.size, 2, none⟩ = some (.int .u8 0) := Q3.cell 2; have zf2 : w3.frozen? ⟨w.heap.size, 2, none⟩ = false := Q3.free 2; have z3 : w3.cell? ⟨w.heap.size, 3, none⟩ = some (.int .u8 0) := Q3.cell 3; have zf3 : w3.frozen? ⟨w.heap.size, 3, none⟩ = false := Q3.free 3; have z4 : w3.cell? ⟨w.heap.size, 4, none⟩ = some (.int .i64 0) := Q3.cell 4; have zf4 : w3.frozen? ⟨w.heap.size, 4, none⟩ = false := Q3.free 4)
    all_goals (
      go_wp2_with fail
      generalize hW : World.setCell _ _ _ = W9
      have FR : IsRow W9 w.heap.size 30 #[.int .u8 0, .int .u8 0, .int .u8 0, .int .u8 0, .int .i64 0] := by rw [← hW]; exact (((((Q3.set 0 _).set 1 _).set 2 _).set 3 _).set 4 _)
      have B9 : Below w.heap.size w W9 := by rw [← hW]; exact (((((B3.setCell (Nat.le_refl _) _).setCell (Nat.le_refl _) _).setCell (Nat.le_refl _) _).setCell (Nat.le_refl _) _).setCell (Nat.le_refl _) _)
      have g0 : W9.cell? ⟨w.heap.size, 0, none⟩ = some (.int .u8 0) := FR.cell 0
      have g1 : W9.cell? ⟨w.heap.size, 1, none⟩ = some (.int .u8 0) := FR.cell 1
      have g2 : W9.cell? ⟨w.heap.size, 2, none⟩ = some (.int .u8 0) := FR.cell 2
      have g3 : W9.cell? ⟨w.heap.size, 3, none⟩ = some (.int .u8 0) := FR.cell 3
      have g4 : W9.cell? ⟨w.heap.size, 4, none⟩ = some (.int .i64 0) := FR.cell 4
      exact bodyPost_ret (v := .tuple #[endV 0 0 0 0 0, .int .i64 2]) (by simp [results, Tryz.results69, go_sem, g0, g1, g2, g3, g4]) rfl ⟨by rw [hV.out], B9⟩
    )
  · have hV := Lib.hid (show readX l = .tuple #[endV 0 0 0 0 0, .int .i64 8] by rw [readX_no (by omega), h0])
    clear h0
    go_wp2_with fail
    obtain ⟨w2, e2, B2, Q2, P2⟩ : ∃ w2, w1.alloc (.cells #[.int .u8 0, .int .u8 0, .int .u8 0, .int .u8 0, .int .i64 0] 30) = w2 ∧ Below w.heap.size w w2 ∧ IsRow w2 w.heap.size 30 #[.int .u8 0, .int .u8 0, .int .u8 0, .int .u8 0, .int .i64 0] ∧ IsRow w2 w1.heap.size 30 #[.int .u8 0, .int .u8 0, .int .u8 0, .int .u8 0, .int .i64 0] := ⟨_, rfl, B1.alloc B1.size _, Q1.alloc _, IsRow.made _ _ _⟩
    rw [e2]
    clear e2 B1 Q1
    have B2' := B2.drew
    have Q2' : IsRow w2.drew w.heap.size 30 #[.int .u8 0, .int .u8 0, .int .u8 0, .int .u8 0, .int .i64 0] := Q2
    have P2' : IsRow w2.drew w1.heap.size 30 #[.int .u8 0, .int .u8 0, .int .u8 0, .int .u8 0, .int .i64 0] := P2
    have R2 := R.below B2'
    have CN := Lib.hid (fun W (RW : Errs aF aK W) => number_kind p aF aK W RW)
    clear B2 Q2 P2
    have d0 : w2.drew.cell? ⟨w1.heap.size, 0, none⟩ = some (.int .u8 0) := P2'.cell 0
    have d1 : w2.drew.cell? ⟨w1.heap.size, 1, none⟩ = some (.int .u8 0) := P2'.cell 1
    have d2 : w2.drew.cell? ⟨w1.heap.size, 2, none⟩ = some (.int .u8 0) := P2'.cell 2
    have d3 : w2.drew.cell? ⟨w1.heap.size, 3, none⟩ = some (.int .u8 0) := P2'.cell 3
    have d4 : w2.drew.cell? ⟨w1.heap.size, 4, none⟩ = some (.int .i64 0) := P2'.cell 4
    go_region_law (go_simp; go_at_call 75; refine (CN.out _ R2).mono ?_; rintro e w3 ⟨rfl, b3⟩; have B3 := below_trans B2' b3; have Q3 := Q2'.call b3; have P3 := P2'.call b3; have hN3 := Q3.lt; have hM3 := P3.lt; clear d0 d1 d2 d3 d4; have x0 : w3.cell? ⟨w1.heap.size, 0, none⟩ = some (.int .u8 0) := P3.cell 0; have x1 : w3.cell? ⟨w1.heap.size, 1, none⟩ = some (.int .u8 0) := P3.cell 1; have x2 : w3.cell? ⟨w1.heap.size, 2, none⟩ = some (.int .u8 0) := P3.cell 2; have x3 : w3.cell? ⟨w1.heap.size, 3, none⟩ = some (.int .u8 0) := P3.cell 3; have x4 : w3.cell? ⟨w1.heap.size, 4, none⟩ = some (.int .i64 0) := P3.cell 4; have z0 : w3.cell? ⟨w.heap.size, 0, none⟩ = some (.int .u8 0) := Q3.cell 0; have zf0 : w3.frozen? ⟨w.heap.size, 0, none⟩ = false := Q3.free 0; have z1 : w3.cell? ⟨w.heap.size, 1, none⟩ = some (.int .u8 0) := Q3.cell 1; have zf1 : w3.frozen? ⟨w.heap.size, 1, none⟩ = false := Q3.free 1; have z2 : w3.cell? ⟨w.heap.size, 2, none⟩ = some (.int .u8 0) := Q3.cell 2; have zf2 : w3.frozen? ⟨w.heap.size, 2, none⟩ = false := Q3.free 2; have z3 : w3.cell? ⟨w.heap.size, 3, none⟩ = some (.int .u8 0) := Q3.cell 3; have zf3 : w3.frozen? ⟨w.heap.size, 3, none⟩ = false := Q3.free 3; have z4 : w3.cell? ⟨w.heap.size, 4, none⟩ = some (.int .i64 0) := Q3.cell 4; have zf4 : w3.frozen? ⟨w.heap.size, 4, none⟩ = false := Q3.free 4)
    all_goals (
      go_wp2_with fail
      generalize hW : World.setCell _ _ _ = W9
      have FR : IsRow W9 w.heap.size 30 #[.int .u8 0, .int .u8 0, .int .u8 0, .int .u8 0, .int .i64 0] := by rw [← hW]; exact (((((Q3.set 0 _).set 1 _).set 2 _).set 3 _).set 4 _)
      have B9 : Below w.heap.size w W9 := by rw [← hW]; exact (((((B3.setCell (Nat.le_refl _) _).setCell (Nat.le_refl _) _).setCell (Nat.le_refl _) _).setCell (Nat.le_refl _) _).setCell (Nat.le_refl _) _)
      have g0 : W9.cell? ⟨w.heap.size, 0, none⟩ = some (.int .u8 0) := FR.cell 0
      have g1 : W9.cell? ⟨w.heap.size, 1, none⟩ = some (.int .u8 0) := FR.cell 1
      have g2 : W9.cell? ⟨w.heap.size, 2, none⟩ = some (.int .u8 0) := FR.cell 2
      have g3 : W9.cell? ⟨w.heap.size, 3, none⟩ = some (.int .u8 0) := FR.cell 3
      have g4 : W9.cell? ⟨w.heap.size, 4, none⟩ = some (.int .i64 0) := FR.cell 4
      exact bodyPost_ret (v := .tuple #[endV 0 0 0 0 0, .int .i64 8]) (by simp [results, Tryz.results69, go_sem, g0, g1, g2, g3, g4]) rfl ⟨by rw [hV.out], B9⟩
    )

end Go.Proofs.YtdimfppijcebjaaGreatDoor.Ext
