/- The contracts of the document's answer of layer 17: New, May, User, Pass, Dialed, Heard (gen-login-ref.py). -/
import Derived.Test.YtkkajbnonfnbjaaLoginArg
import Derived.Test.YtkkajbnonfnbjaaRouteRef
import Derived.Test.YtkkajbnonfnbjaaEnvBare
import Derived.BigQuiet
import Derived.Deep.QuietTactic
namespace Go.Proofs.Ytkkajbnonfnbjaa.Lo
open Go.Proofs.Ytkkajbnonfnbjaa Go.Proofs.Ytkkajbnonfnbjaa.Ro
open Go Go.ChangeShapes Go.WideShapes Go.ChangeAt Go.RowKit
set_option maxRecDepth 100000
set_option linter.unusedSimpArgs false
set_option linter.unusedVariables false

set_option maxHeartbeats 400000 in
theorem rnew_any (w : World) : Calls Try.prog 22 #[] w fun e w' => e = .returned (.agg #[.int .i64 0, .int .i64 (-1), .string ⟨#[]⟩]) ∧ Below w.heap.size w w' := by
  go_enter Try.func22, Try.ntmps22
  go_wp2_with fail
  refine bodyPost_ret (v := .agg #[.int .i64 0, .int .i64 (-1), .string ⟨#[]⟩]) (by simp [results, Try.results22, go_sem]; done) rfl ?_
  exact ⟨by first | rfl | (simp [newL]; done), (Below.refl _ _).alloc (Nat.le_refl _) _⟩
set_option maxHeartbeats 400000 in
theorem rpass_of (q r : Lg) (k : Int) (h : passL q = (r, k)) (w : World) : Calls Try.prog 14 #[loginV q] w fun e w' => e = .returned (.tuple #[loginV r, .int .i64 k]) ∧ Below w.heap.size w w' := by
  obtain ⟨ph, te, us⟩ := q
  by_cases g : ph = 4
  · subst g
    have e : passL ⟨4, te, us⟩ = (⟨5, te, us⟩, 0) := rfl
    rw [e] at h
    injection h with h1 h2
    subst h1; subst h2
    clear e
    go_enter Try.func14, Try.ntmps14
    go_wp2_with fail
    refine bodyPost_ret (v := .tuple #[.agg #[.int .i64 5, .int .i64 te, .string ⟨us.toArray⟩], .int .i64 0]) (by simp [results, Try.results14, go_sem]; done) rfl ?_
    exact ⟨by first | rfl | (simp [newL]; done), ((Below.refl _ _).alloc (Nat.le_refl _) _).alloc (by simp) _⟩
  · have e : passL ⟨ph, te, us⟩ = (⟨ph, te, us⟩, 7) := by unfold passL; rw [if_neg g]
    rw [e] at h
    injection h with h1 h2
    subst h1; subst h2
    clear e
    have hne : (ph != 4) = true := bne_iff_ne.2 g
    go_enter Try.func14, Try.ntmps14
    go_wp2_with fail
    refine bodyPost_ret (v := .tuple #[.agg #[.int .i64 ph, .int .i64 te, .string ⟨us.toArray⟩], .int .i64 7]) (by simp [results, Try.results14, go_sem]; done) rfl ?_
    exact ⟨by first | rfl | (simp [newL]; done), ((Below.refl _ _).alloc (Nat.le_refl _) _).alloc (by simp) _⟩
set_option maxHeartbeats 1000000 in
theorem rdial_of (q r : Lg) (up : Bool) (k : Int) (h : dialL q up = (r, k)) (w : World) : Calls Try.prog 16 #[loginV q, .bool up] w fun e w' => e = .returned (.tuple #[loginV r, .int .i64 k]) ∧ Below w.heap.size w w' := by
  obtain ⟨ph, te, us⟩ := q
  by_cases g : ph = 1
  · subst g
    cases up with
    | true =>
      have e : dialL ⟨1, te, us⟩ true = (⟨2, te, us⟩, 0) := rfl
      rw [e] at h
      injection h with h1 h2
      subst h1; subst h2
      clear e
      go_enter Try.func16, Try.ntmps16
      go_wp2_with fail
      refine bodyPost_ret (v := .tuple #[.agg #[.int .i64 2, .int .i64 te, .string ⟨us.toArray⟩], .int .i64 0]) (by simp [results, Try.results16, go_sem]; done) rfl ?_
      exact ⟨by first | rfl | (simp [newL]; done), ((Below.refl _ _).alloc (Nat.le_refl _) _).alloc (by simp) _⟩
    | false =>
      have e : dialL ⟨1, te, us⟩ false = (newL, 0) := rfl
      rw [e] at h
      injection h with h1 h2
      subst h1; subst h2
      clear e
      go_enter Try.func16, Try.ntmps16
      go_wp2_with (go_at_call 22; refine (rnew_any _).mono ?_; rintro e w2 ⟨rfl, b2⟩; have R2 := (IsRow.made (w.alloc (.cells #[.int .i64 1, .int .i64 te, .string ⟨us.toArray⟩] 23)) 23 #[.int .i64 0, .int .i64 0, .string ⟨#[]⟩]).call b2; have hb2 := (((Below.refl _ _).alloc (Nat.le_refl _) _).alloc (by simp) _ : Below w.heap.size w _).trans (b2.mono (by simp; omega)); simp at R2; have z0 := R2.cell 0; have z1 := R2.cell 1; have z2 := R2.cell 2; have f0 := R2.free 0; have f1 := R2.free 1; have f2 := R2.free 2; have zl := R2.lt)
      obtain ⟨W9, hW⟩ : ∃ W9, World.setCell (World.setCell (World.setCell w2 ⟨w.heap.size + 1, 0, none⟩ (.int .i64 0)) ⟨w.heap.size + 1, 1, none⟩ (.int .i64 (-1))) ⟨w.heap.size + 1, 2, none⟩ (.string ⟨#[]⟩) = W9 := ⟨_, rfl⟩
      have R9 : IsRow W9 (w.heap.size + 1) 23 #[.int .i64 0, .int .i64 (-1), .string ⟨#[]⟩] := by
        rw [← hW]
        exact ((R2.set 0 (.int .i64 0)).set 1 (.int .i64 (-1))).set 2 (.string ⟨#[]⟩)
      have B9 : Below w.heap.size w W9 := by
        rw [← hW]
        exact ((hb2.setCell (p := ⟨w.heap.size + 1, 0, none⟩) (by show _ ≤ w.heap.size + 1; omega) _).setCell (p := ⟨w.heap.size + 1, 1, none⟩) (by show _ ≤ w.heap.size + 1; omega) _).setCell (p := ⟨w.heap.size + 1, 2, none⟩) (by show _ ≤ w.heap.size + 1; omega) _
      rw [hW]
      have y0 := R9.cell 0
      have y1 := R9.cell 1
      have y2 := R9.cell 2
      refine bodyPost_ret (v := .tuple #[.agg #[.int .i64 0, .int .i64 (-1), .string ⟨#[]⟩], .int .i64 0]) (by simp [results, Try.results16, go_sem, y0, y1, y2]; done) rfl ?_
      exact ⟨by first | rfl | (simp [newL]; done), B9⟩
  · have e : dialL ⟨ph, te, us⟩ up = (⟨ph, te, us⟩, 7) := by unfold dialL; rw [if_neg g]
    rw [e] at h
    injection h with h1 h2
    subst h1; subst h2
    clear e
    have hne : (ph != 1) = true := bne_iff_ne.2 g
    go_enter Try.func16, Try.ntmps16
    go_wp2_with fail
    refine bodyPost_ret (v := .tuple #[.agg #[.int .i64 ph, .int .i64 te, .string ⟨us.toArray⟩], .int .i64 7]) (by simp [results, Try.results16, go_sem]; done) rfl ?_
    exact ⟨by first | rfl | (simp [newL]; done), ((Below.refl _ _).alloc (Nat.le_refl _) _).alloc (by simp) _⟩
set_option maxHeartbeats 4000000 in
theorem rheard_of (q r : Lg) (code k : Int) (h : hearL q code = (r, k)) (w : World) : Calls Try.prog 18 #[loginV q, .int .i64 code] w fun e w' => e = .returned (.tuple #[loginV r, .int .i64 k]) ∧ Below w.heap.size w w' := by
  obtain ⟨ph, te, us⟩ := q
  by_cases g0 : code < 200
  · obtain ⟨rfl, rfl⟩ : r = ⟨ph, te, us⟩ ∧ k = 0 := by
      have e := h.symm
      simp [hearL, g0] at e
      exact e
    clear h
    go_enter Try.func18, Try.ntmps18
    go_wp2_with fail
    refine bodyPost_ret (v := .tuple #[.agg #[.int .i64 ph, .int .i64 te, .string ⟨us.toArray⟩], .int .i64 0]) (by simp [results, Try.results18, go_sem]; done) rfl ?_
    exact ⟨by first | rfl | (simp [newL]; done), ((Below.refl _ _).alloc (Nat.le_refl _) _).alloc (by simp) _⟩
  have g0' : (200 : Int) ≤ code := by omega
  by_cases g2 : ph = 2
  · subst g2
    by_cases c1 : code = 220
    · subst c1
      obtain ⟨rfl, rfl⟩ : r = ⟨3, te, us⟩ ∧ k = 1 := by
        have e := h.symm
        simp [hearL] at e
        exact e
      clear h
      go_enter Try.func18, Try.ntmps18
      go_wp2_with fail
      refine bodyPost_ret (v := .tuple #[.agg #[.int .i64 3, .int .i64 te, .string ⟨us.toArray⟩], .int .i64 1]) (by simp [results, Try.results18, go_sem]; done) rfl ?_
      exact ⟨by first | rfl | (simp [newL]; done), ((Below.refl _ _).alloc (Nat.le_refl _) _).alloc (by simp) _⟩
    · have d1 : (code == 220) = false := beq_eq_false_iff_ne.2 c1
      obtain ⟨rfl, rfl⟩ : r = newL ∧ k = 3 := by
        have e := h.symm
        simp [hearL, g0, c1] at e
        exact e
      clear h
      go_enter Try.func18, Try.ntmps18
      go_wp2_with (go_at_call 22; refine (rnew_any _).mono ?_; rintro e w2 ⟨rfl, b2⟩; have R2 := (IsRow.made (w.alloc (.cells #[.int .i64 2, .int .i64 te, .string ⟨us.toArray⟩] 23)) 23 #[.int .i64 0, .int .i64 0, .string ⟨#[]⟩]).call b2; have hb2 := (((Below.refl _ _).alloc (Nat.le_refl _) _).alloc (by simp) _ : Below w.heap.size w _).trans (b2.mono (by simp; omega)); simp at R2; have z0 := R2.cell 0; have z1 := R2.cell 1; have z2 := R2.cell 2; have f0 := R2.free 0; have f1 := R2.free 1; have f2 := R2.free 2; have zl := R2.lt)
      obtain ⟨W9, hW⟩ : ∃ W9, World.setCell (World.setCell (World.setCell w2 ⟨w.heap.size + 1, 0, none⟩ (.int .i64 0)) ⟨w.heap.size + 1, 1, none⟩ (.int .i64 (-1))) ⟨w.heap.size + 1, 2, none⟩ (.string ⟨#[]⟩) = W9 := ⟨_, rfl⟩
      have R9 : IsRow W9 (w.heap.size + 1) 23 #[.int .i64 0, .int .i64 (-1), .string ⟨#[]⟩] := by
        rw [← hW]
        exact ((R2.set 0 (.int .i64 0)).set 1 (.int .i64 (-1))).set 2 (.string ⟨#[]⟩)
      have B9 : Below w.heap.size w W9 := by
        rw [← hW]
        exact ((hb2.setCell (p := ⟨w.heap.size + 1, 0, none⟩) (by show _ ≤ w.heap.size + 1; omega) _).setCell (p := ⟨w.heap.size + 1, 1, none⟩) (by show _ ≤ w.heap.size + 1; omega) _).setCell (p := ⟨w.heap.size + 1, 2, none⟩) (by show _ ≤ w.heap.size + 1; omega) _
      rw [hW]
      have y0 := R9.cell 0
      have y1 := R9.cell 1
      have y2 := R9.cell 2
      refine bodyPost_ret (v := .tuple #[.agg #[.int .i64 0, .int .i64 (-1), .string ⟨#[]⟩], .int .i64 3]) (by simp [results, Try.results18, go_sem, y0, y1, y2]; done) rfl ?_
      exact ⟨by first | rfl | (simp [newL]; done), B9⟩
  have n2 : (ph != 2) = true := bne_iff_ne.2 g2
  have m2 : (ph == 2) = false := beq_eq_false_iff_ne.2 g2
  by_cases g3 : ph = 3
  · subst g3
    by_cases c1 : code = 331
    · subst c1
      obtain ⟨rfl, rfl⟩ : r = ⟨4, te, us⟩ ∧ k = 2 := by
        have e := h.symm
        simp [hearL] at e
        exact e
      clear h
      go_enter Try.func18, Try.ntmps18
      go_wp2_with fail
      refine bodyPost_ret (v := .tuple #[.agg #[.int .i64 4, .int .i64 te, .string ⟨us.toArray⟩], .int .i64 2]) (by simp [results, Try.results18, go_sem]; done) rfl ?_
      exact ⟨by first | rfl | (simp [newL]; done), ((Below.refl _ _).alloc (Nat.le_refl _) _).alloc (by simp) _⟩
    · have d1 : (code == 331) = false := beq_eq_false_iff_ne.2 c1
      by_cases c2 : code = 230
      · subst c2
        obtain ⟨rfl, rfl⟩ : r = ⟨6, te, us⟩ ∧ k = 4 := by
          have e := h.symm
          simp [hearL] at e
          exact e
        clear h
        go_enter Try.func18, Try.ntmps18
        go_wp2_with fail
        refine bodyPost_ret (v := .tuple #[.agg #[.int .i64 6, .int .i64 te, .string ⟨us.toArray⟩], .int .i64 4]) (by simp [results, Try.results18, go_sem]; done) rfl ?_
        exact ⟨by first | rfl | (simp [newL]; done), ((Below.refl _ _).alloc (Nat.le_refl _) _).alloc (by simp) _⟩
      have d2 : (code == 230) = false := beq_eq_false_iff_ne.2 c2
      by_cases c3 : code = 232
      · subst c3
        obtain ⟨rfl, rfl⟩ : r = ⟨6, te, us⟩ ∧ k = 4 := by
          have e := h.symm
          simp [hearL] at e
          exact e
        clear h
        go_enter Try.func18, Try.ntmps18
        go_wp2_with fail
        refine bodyPost_ret (v := .tuple #[.agg #[.int .i64 6, .int .i64 te, .string ⟨us.toArray⟩], .int .i64 4]) (by simp [results, Try.results18, go_sem]; done) rfl ?_
        exact ⟨by first | rfl | (simp [newL]; done), ((Below.refl _ _).alloc (Nat.le_refl _) _).alloc (by simp) _⟩
      have d3 : (code == 232) = false := beq_eq_false_iff_ne.2 c3
      obtain ⟨rfl, rfl⟩ : r = newL ∧ k = 3 := by
        have e := h.symm
        simp [hearL, g0, c2, c3, c1] at e
        exact e
      clear h
      go_enter Try.func18, Try.ntmps18
      go_wp2_with (go_at_call 22; refine (rnew_any _).mono ?_; rintro e w2 ⟨rfl, b2⟩; have R2 := (IsRow.made (w.alloc (.cells #[.int .i64 3, .int .i64 te, .string ⟨us.toArray⟩] 23)) 23 #[.int .i64 0, .int .i64 0, .string ⟨#[]⟩]).call b2; have hb2 := (((Below.refl _ _).alloc (Nat.le_refl _) _).alloc (by simp) _ : Below w.heap.size w _).trans (b2.mono (by simp; omega)); simp at R2; have z0 := R2.cell 0; have z1 := R2.cell 1; have z2 := R2.cell 2; have f0 := R2.free 0; have f1 := R2.free 1; have f2 := R2.free 2; have zl := R2.lt)
      obtain ⟨W9, hW⟩ : ∃ W9, World.setCell (World.setCell (World.setCell w2 ⟨w.heap.size + 1, 0, none⟩ (.int .i64 0)) ⟨w.heap.size + 1, 1, none⟩ (.int .i64 (-1))) ⟨w.heap.size + 1, 2, none⟩ (.string ⟨#[]⟩) = W9 := ⟨_, rfl⟩
      have R9 : IsRow W9 (w.heap.size + 1) 23 #[.int .i64 0, .int .i64 (-1), .string ⟨#[]⟩] := by
        rw [← hW]
        exact ((R2.set 0 (.int .i64 0)).set 1 (.int .i64 (-1))).set 2 (.string ⟨#[]⟩)
      have B9 : Below w.heap.size w W9 := by
        rw [← hW]
        exact ((hb2.setCell (p := ⟨w.heap.size + 1, 0, none⟩) (by show _ ≤ w.heap.size + 1; omega) _).setCell (p := ⟨w.heap.size + 1, 1, none⟩) (by show _ ≤ w.heap.size + 1; omega) _).setCell (p := ⟨w.heap.size + 1, 2, none⟩) (by show _ ≤ w.heap.size + 1; omega) _
      rw [hW]
      have y0 := R9.cell 0
      have y1 := R9.cell 1
      have y2 := R9.cell 2
      refine bodyPost_ret (v := .tuple #[.agg #[.int .i64 0, .int .i64 (-1), .string ⟨#[]⟩], .int .i64 3]) (by simp [results, Try.results18, go_sem, y0, y1, y2]; done) rfl ?_
      exact ⟨by first | rfl | (simp [newL]; done), B9⟩
  have n3 : (ph != 3) = true := bne_iff_ne.2 g3
  have m3 : (ph == 3) = false := beq_eq_false_iff_ne.2 g3
  by_cases g5 : ph = 5
  · subst g5
    by_cases c2 : code = 230
    · subst c2
      obtain ⟨rfl, rfl⟩ : r = ⟨6, te, us⟩ ∧ k = 4 := by
        have e := h.symm
        simp [hearL] at e
        exact e
      clear h
      go_enter Try.func18, Try.ntmps18
      go_wp2_with fail
      refine bodyPost_ret (v := .tuple #[.agg #[.int .i64 6, .int .i64 te, .string ⟨us.toArray⟩], .int .i64 4]) (by simp [results, Try.results18, go_sem]; done) rfl ?_
      exact ⟨by first | rfl | (simp [newL]; done), ((Below.refl _ _).alloc (Nat.le_refl _) _).alloc (by simp) _⟩
    have d2 : (code == 230) = false := beq_eq_false_iff_ne.2 c2
    by_cases c3 : code = 232
    · subst c3
      obtain ⟨rfl, rfl⟩ : r = ⟨6, te, us⟩ ∧ k = 4 := by
        have e := h.symm
        simp [hearL] at e
        exact e
      clear h
      go_enter Try.func18, Try.ntmps18
      go_wp2_with fail
      refine bodyPost_ret (v := .tuple #[.agg #[.int .i64 6, .int .i64 te, .string ⟨us.toArray⟩], .int .i64 4]) (by simp [results, Try.results18, go_sem]; done) rfl ?_
      exact ⟨by first | rfl | (simp [newL]; done), ((Below.refl _ _).alloc (Nat.le_refl _) _).alloc (by simp) _⟩
    have d3 : (code == 232) = false := beq_eq_false_iff_ne.2 c3
    obtain ⟨rfl, rfl⟩ : r = newL ∧ k = 3 := by
      have e := h.symm
      simp [hearL, g0, c2, c3] at e
      exact e
    clear h
    go_enter Try.func18, Try.ntmps18
    go_wp2_with (go_at_call 22; refine (rnew_any _).mono ?_; rintro e w2 ⟨rfl, b2⟩; have R2 := (IsRow.made (w.alloc (.cells #[.int .i64 5, .int .i64 te, .string ⟨us.toArray⟩] 23)) 23 #[.int .i64 0, .int .i64 0, .string ⟨#[]⟩]).call b2; have hb2 := (((Below.refl _ _).alloc (Nat.le_refl _) _).alloc (by simp) _ : Below w.heap.size w _).trans (b2.mono (by simp; omega)); simp at R2; have z0 := R2.cell 0; have z1 := R2.cell 1; have z2 := R2.cell 2; have f0 := R2.free 0; have f1 := R2.free 1; have f2 := R2.free 2; have zl := R2.lt)
    obtain ⟨W9, hW⟩ : ∃ W9, World.setCell (World.setCell (World.setCell w2 ⟨w.heap.size + 1, 0, none⟩ (.int .i64 0)) ⟨w.heap.size + 1, 1, none⟩ (.int .i64 (-1))) ⟨w.heap.size + 1, 2, none⟩ (.string ⟨#[]⟩) = W9 := ⟨_, rfl⟩
    have R9 : IsRow W9 (w.heap.size + 1) 23 #[.int .i64 0, .int .i64 (-1), .string ⟨#[]⟩] := by
      rw [← hW]
      exact ((R2.set 0 (.int .i64 0)).set 1 (.int .i64 (-1))).set 2 (.string ⟨#[]⟩)
    have B9 : Below w.heap.size w W9 := by
      rw [← hW]
      exact ((hb2.setCell (p := ⟨w.heap.size + 1, 0, none⟩) (by show _ ≤ w.heap.size + 1; omega) _).setCell (p := ⟨w.heap.size + 1, 1, none⟩) (by show _ ≤ w.heap.size + 1; omega) _).setCell (p := ⟨w.heap.size + 1, 2, none⟩) (by show _ ≤ w.heap.size + 1; omega) _
    rw [hW]
    have y0 := R9.cell 0
    have y1 := R9.cell 1
    have y2 := R9.cell 2
    refine bodyPost_ret (v := .tuple #[.agg #[.int .i64 0, .int .i64 (-1), .string ⟨#[]⟩], .int .i64 3]) (by simp [results, Try.results18, go_sem, y0, y1, y2]; done) rfl ?_
    exact ⟨by first | rfl | (simp [newL]; done), B9⟩
  have n5 : (ph != 5) = true := bne_iff_ne.2 g5
  have m5 : (ph == 5) = false := beq_eq_false_iff_ne.2 g5
  obtain ⟨rfl, rfl⟩ : r = ⟨ph, te, us⟩ ∧ k = 0 := by
    have e := h.symm
    simp [hearL, g2, g3, g5] at e
    exact e
  clear h
  go_enter Try.func18, Try.ntmps18
  go_wp2_with fail
  refine bodyPost_ret (v := .tuple #[.agg #[.int .i64 ph, .int .i64 te, .string ⟨us.toArray⟩], .int .i64 0]) (by simp [results, Try.results18, go_sem]; done) rfl ?_
  exact ⟨by first | rfl | (simp [newL]; done), ((Below.refl _ _).alloc (Nat.le_refl _) _).alloc (by simp) _⟩

set_option maxHeartbeats 4000000 in
theorem rmay_of (q : Lg) (hl : q.us.length ≤ 9223372036854775807) (b : Bool) (h : mayL q = b) (w : World) : Calls Try.prog 19 #[loginV q] w fun e w' => e = .returned (.bool b) ∧ Below w.heap.size w w' := by
  obtain ⟨ph, te, us⟩ := q
  have hl : us.length ≤ 9223372036854775807 := hl
  by_cases p0 : ph = 0
  · subst p0
    by_cases gt : te = -1
    · subst gt
      cases hu : (us == []) with
      | false =>
        have hu' : us ≠ [] := by simpa using hu
        obtain rfl : b = false := by
          rw [← h]
          unfold mayL; exact decide_eq_false (by unfold May; rintro (⟨h1, h2, h3⟩ | ⟨h1, h2, h3, h4, h5⟩) <;> simp_all <;> omega)
        clear h
        clear hu'
        go_enter Try.func19, Try.ntmps19
        go_wp2_with fail
        go_ret
        exact ⟨by first | rfl | (simp; done) | (simp; omega), (Below.refl _ _).alloc (Nat.le_refl _) _⟩
      | true =>
        have hu' : us = [] := by simpa using hu
        obtain rfl : b = true := by
          rw [← h]
          unfold mayL; exact decide_eq_true (Or.inl ⟨by simp, by simp_all, by simp_all⟩)
        clear h
        clear hu'
        go_enter Try.func19, Try.ntmps19
        go_wp2_with fail
        go_ret
        exact ⟨by first | rfl | (simp; done) | (simp; omega), (Below.refl _ _).alloc (Nat.le_refl _) _⟩
    have gt' : (te == -1) = false := beq_eq_false_iff_ne.2 gt
    obtain rfl : b = false := by
      rw [← h]
      unfold mayL; exact decide_eq_false (by unfold May; rintro (⟨h1, h2, h3⟩ | ⟨h1, h2, h3, h4, h5⟩) <;> simp_all <;> omega)
    clear h
    go_enter Try.func19, Try.ntmps19
    go_wp2_with fail
    go_ret
    exact ⟨by first | rfl | (simp; done) | (simp; omega), (Below.refl _ _).alloc (Nat.le_refl _) _⟩
  by_cases p7 : ph = 7
  · subst p7
    by_cases gt : te = -1
    · subst gt
      cases hu : (us == []) with
      | false =>
        have hu' : us ≠ [] := by simpa using hu
        obtain rfl : b = false := by
          rw [← h]
          unfold mayL; exact decide_eq_false (by unfold May; rintro (⟨h1, h2, h3⟩ | ⟨h1, h2, h3, h4, h5⟩) <;> simp_all <;> omega)
        clear h
        clear hu'
        go_enter Try.func19, Try.ntmps19
        go_wp2_with fail
        go_ret
        exact ⟨by first | rfl | (simp; done) | (simp; omega), (Below.refl _ _).alloc (Nat.le_refl _) _⟩
      | true =>
        have hu' : us = [] := by simpa using hu
        obtain rfl : b = true := by
          rw [← h]
          unfold mayL; exact decide_eq_true (Or.inl ⟨by simp, by simp_all, by simp_all⟩)
        clear h
        clear hu'
        go_enter Try.func19, Try.ntmps19
        go_wp2_with fail
        go_ret
        exact ⟨by first | rfl | (simp; done) | (simp; omega), (Below.refl _ _).alloc (Nat.le_refl _) _⟩
    have gt' : (te == -1) = false := beq_eq_false_iff_ne.2 gt
    obtain rfl : b = false := by
      rw [← h]
      unfold mayL; exact decide_eq_false (by unfold May; rintro (⟨h1, h2, h3⟩ | ⟨h1, h2, h3, h4, h5⟩) <;> simp_all <;> omega)
    clear h
    go_enter Try.func19, Try.ntmps19
    go_wp2_with fail
    go_ret
    exact ⟨by first | rfl | (simp; done) | (simp; omega), (Below.refl _ _).alloc (Nat.le_refl _) _⟩
  have m0 : (ph == 0) = false := beq_eq_false_iff_ne.2 p0
  have m7 : (ph == 7) = false := beq_eq_false_iff_ne.2 p7
  have HU := Lib.hid (fun W => ruser_any us hl W)
  cases hu : userB us with
  | false =>
    rw [hu] at HU
    obtain rfl : b = false := by
      rw [← h]
      unfold mayL; exact decide_eq_false (by unfold May; rintro (⟨h1, h2, h3⟩ | ⟨h1, h2, h3, h4, h5⟩) <;> simp_all <;> omega)
    clear h
    clear hu
    go_enter Try.func19, Try.ntmps19
    go_wp2_with (go_at_call 32; refine (HU.out _).mono ?_; rintro e w2 ⟨rfl, b2⟩; have R2 := (IsRow.made w 23 #[.int .i64 ph, .int .i64 te, .string ⟨us.toArray⟩]).call b2; have hb2 := ((Below.refl w.heap.size w).alloc (Nat.le_refl _) (.cells #[.int .i64 ph, .int .i64 te, .string ⟨us.toArray⟩] 23)).trans (b2.mono (by simp)); have z0 := R2.cell 0; have z1 := R2.cell 1; have z2 := R2.cell 2; have zl := R2.lt; clear HU b2)
    go_ret
    exact ⟨by first | rfl | (simp; done) | (simp; omega), hb2⟩
  | true =>
    rw [hu] at HU
    by_cases t1 : 1 ≤ ph
    · have t1' : (1 : Int) ≤ ph := t1
      by_cases t2 : ph ≤ 6
      · have t2' : ph ≤ 6 := t2
        by_cases t3 : 0 ≤ te
        · have t3' : (0 : Int) ≤ te := t3
          by_cases t4 : te < 4
          · have t4' : te < 4 := t4
            obtain rfl : b = true := by
              rw [← h]
              unfold mayL; exact decide_eq_true (Or.inr ⟨by simp_all, by simp_all, by simp_all, by simp_all, by simp_all⟩)
            clear h
            clear hu
            go_enter Try.func19, Try.ntmps19
            go_wp2_with (go_at_call 32; refine (HU.out _).mono ?_; rintro e w2 ⟨rfl, b2⟩; have R2 := (IsRow.made w 23 #[.int .i64 ph, .int .i64 te, .string ⟨us.toArray⟩]).call b2; have hb2 := ((Below.refl w.heap.size w).alloc (Nat.le_refl _) (.cells #[.int .i64 ph, .int .i64 te, .string ⟨us.toArray⟩] 23)).trans (b2.mono (by simp)); have z0 := R2.cell 0; have z1 := R2.cell 1; have z2 := R2.cell 2; have zl := R2.lt; clear HU b2)
            go_ret
            exact ⟨by first | rfl | (simp; done) | (simp; omega), hb2⟩
          have t4' : ¬ te < 4 := t4
          obtain rfl : b = false := by
            rw [← h]
            unfold mayL; exact decide_eq_false (by unfold May; rintro (⟨h1, h2, h3⟩ | ⟨h1, h2, h3, h4, h5⟩) <;> simp_all <;> omega)
          clear h
          clear hu
          go_enter Try.func19, Try.ntmps19
          go_wp2_with (go_at_call 32; refine (HU.out _).mono ?_; rintro e w2 ⟨rfl, b2⟩; have R2 := (IsRow.made w 23 #[.int .i64 ph, .int .i64 te, .string ⟨us.toArray⟩]).call b2; have hb2 := ((Below.refl w.heap.size w).alloc (Nat.le_refl _) (.cells #[.int .i64 ph, .int .i64 te, .string ⟨us.toArray⟩] 23)).trans (b2.mono (by simp)); have z0 := R2.cell 0; have z1 := R2.cell 1; have z2 := R2.cell 2; have zl := R2.lt; clear HU b2)
          go_ret
          exact ⟨by first | rfl | (simp; done) | (simp; omega), hb2⟩
        have t3' : ¬ (0 : Int) ≤ te := t3
        obtain rfl : b = false := by
          rw [← h]
          unfold mayL; exact decide_eq_false (by unfold May; rintro (⟨h1, h2, h3⟩ | ⟨h1, h2, h3, h4, h5⟩) <;> simp_all <;> omega)
        clear h
        clear hu
        go_enter Try.func19, Try.ntmps19
        go_wp2_with (go_at_call 32; refine (HU.out _).mono ?_; rintro e w2 ⟨rfl, b2⟩; have R2 := (IsRow.made w 23 #[.int .i64 ph, .int .i64 te, .string ⟨us.toArray⟩]).call b2; have hb2 := ((Below.refl w.heap.size w).alloc (Nat.le_refl _) (.cells #[.int .i64 ph, .int .i64 te, .string ⟨us.toArray⟩] 23)).trans (b2.mono (by simp)); have z0 := R2.cell 0; have z1 := R2.cell 1; have z2 := R2.cell 2; have zl := R2.lt; clear HU b2)
        go_ret
        exact ⟨by first | rfl | (simp; done) | (simp; omega), hb2⟩
      have t2' : ¬ ph ≤ 6 := t2
      obtain rfl : b = false := by
        rw [← h]
        unfold mayL; exact decide_eq_false (by unfold May; rintro (⟨h1, h2, h3⟩ | ⟨h1, h2, h3, h4, h5⟩) <;> simp_all <;> omega)
      clear h
      clear hu
      go_enter Try.func19, Try.ntmps19
      go_wp2_with (go_at_call 32; refine (HU.out _).mono ?_; rintro e w2 ⟨rfl, b2⟩; have R2 := (IsRow.made w 23 #[.int .i64 ph, .int .i64 te, .string ⟨us.toArray⟩]).call b2; have hb2 := ((Below.refl w.heap.size w).alloc (Nat.le_refl _) (.cells #[.int .i64 ph, .int .i64 te, .string ⟨us.toArray⟩] 23)).trans (b2.mono (by simp)); have z0 := R2.cell 0; have z1 := R2.cell 1; have z2 := R2.cell 2; have zl := R2.lt; clear HU b2)
      go_ret
      exact ⟨by first | rfl | (simp; done) | (simp; omega), hb2⟩
    have t1' : ¬ (1 : Int) ≤ ph := t1
    obtain rfl : b = false := by
      rw [← h]
      unfold mayL; exact decide_eq_false (by unfold May; rintro (⟨h1, h2, h3⟩ | ⟨h1, h2, h3, h4, h5⟩) <;> simp_all <;> omega)
    clear h
    clear hu
    go_enter Try.func19, Try.ntmps19
    go_wp2_with (go_at_call 32; refine (HU.out _).mono ?_; rintro e w2 ⟨rfl, b2⟩; have R2 := (IsRow.made w 23 #[.int .i64 ph, .int .i64 te, .string ⟨us.toArray⟩]).call b2; have hb2 := ((Below.refl w.heap.size w).alloc (Nat.le_refl _) (.cells #[.int .i64 ph, .int .i64 te, .string ⟨us.toArray⟩] 23)).trans (b2.mono (by simp)); have z0 := R2.cell 0; have z1 := R2.cell 1; have z2 := R2.cell 2; have zl := R2.lt; clear HU b2)
    go_ret
    exact ⟨by first | rfl | (simp; done) | (simp; omega), hb2⟩

set_option maxHeartbeats 4000000 in
theorem ruser_of (q r : Lg) (u : Value) (hs : List (List UInt8)) (arg : List UInt8) (ha : arg.length ≤ 100000) (k : Int) (h : userL q hs arg = (r, k)) (w : World) (H : HostsIs w u hs) :
    Calls Try.prog 12 #[loginV q, u, .string ⟨arg.toArray⟩] w fun e w' => e = .returned (.tuple #[loginV r, .int .i64 k]) ∧ Below w.heap.size w w' := by
  obtain ⟨ph, te, us⟩ := q
  obtain ⟨p, n, c, rfl, -⟩ := H.form
  by_cases g : ph = 0
  · subst g
    have HS := Lib.hid (fun W => rsplit_any arg ha W)
    obtain ⟨x, y, t, hsp⟩ : ∃ x y t, splitR arg = (x, y, t) := ⟨_, _, _, rfl⟩
    unfold splitV at HS
    rw [hsp] at HS
    cases t with
    | false =>
      have e : userL ⟨0, te, us⟩ hs arg = (⟨0, te, us⟩, 2) := user_form rfl hsp
      rw [e] at h
      injection h with h1 h2
      subst h1; subst h2
      clear e
      clear hsp
      go_enter Try.func12, Try.ntmps12
      go_wp2_with (go_at_call 27; refine (HS.out _).mono ?_; rintro e w2 ⟨rfl, b2⟩; have R2 := ((IsRow.made w 23 #[.int .i64 0, .int .i64 te, .string ⟨us.toArray⟩]).alloc (.cells #[.int .i64 0, .int .i64 0, .string ⟨#[]⟩] 23)).call b2; have S2 := (IsRow.made (w.alloc (.cells #[.int .i64 0, .int .i64 te, .string ⟨us.toArray⟩] 23)) 23 #[.int .i64 0, .int .i64 0, .string ⟨#[]⟩]).call b2; simp only [World.size_alloc] at S2; have hb2 := (((Below.refl _ _).alloc (Nat.le_refl _) _).alloc (by simp) _ : Below w.heap.size w ((w.alloc (.cells #[.int .i64 0, .int .i64 te, .string ⟨us.toArray⟩] 23)).alloc (.cells #[.int .i64 0, .int .i64 0, .string ⟨#[]⟩] 23))).trans (b2.mono (by simp; omega)); have z0 := R2.cell 0; have z1 := R2.cell 1; have z2 := R2.cell 2; have zl := R2.lt; have y0 := S2.cell 0; have y1 := S2.cell 1; have y2 := S2.cell 2; have yf0 := S2.free 0; have yf1 := S2.free 1; have yf2 := S2.free 2; have yl := S2.lt; clear HS)
      obtain ⟨W9, hW⟩ : ∃ W9, (World.setCell (World.setCell (World.setCell w2 ⟨w.heap.size + 1, 0, none⟩ (.int .i64 0)) ⟨w.heap.size + 1, 1, none⟩ (.int .i64 te)) ⟨w.heap.size + 1, 2, none⟩ (.string ⟨us.toArray⟩)) = W9 := ⟨_, rfl⟩
      have R9 : IsRow W9 (w.heap.size + 1) 23 #[.int .i64 0, .int .i64 te, .string ⟨us.toArray⟩] := by
        rw [← hW]
        exact (((S2.set 0 (.int .i64 0)).set 1 (.int .i64 te)).set 2 (.string ⟨us.toArray⟩))
      have B9 : Below w.heap.size w W9 := by
        rw [← hW]
        exact (((hb2.setCell (p := ⟨w.heap.size + 1, 0, none⟩) (by show _ ≤ w.heap.size + 1; omega) (.int .i64 0)).setCell (p := ⟨w.heap.size + 1, 1, none⟩) (by show _ ≤ w.heap.size + 1; omega) (.int .i64 te)).setCell (p := ⟨w.heap.size + 1, 2, none⟩) (by show _ ≤ w.heap.size + 1; omega) (.string ⟨us.toArray⟩))
      rw [hW]
      clear z0 z1 z2 zl y0 y1 y2 yf0 yf1 yf2 yl
      have y0 := R9.cell 0
      have y1 := R9.cell 1
      have y2 := R9.cell 2
      refine bodyPost_ret (v := .tuple #[.agg #[.int .i64 0, .int .i64 te, .string ⟨us.toArray⟩], .int .i64 2]) (by simp [results, Try.results12, go_sem, y0, y1, y2]; done) rfl ?_
      exact ⟨by first | rfl | (simp [newL]; done), B9⟩
    | true =>
      have HF := Lib.hid (fun W HR => rfind_any (.slice p n c) hs y W HR)
      by_cases gf : findH hs y < 0
      · have e : userL ⟨0, te, us⟩ hs arg = (⟨0, te, us⟩, 3) := user_none rfl hsp gf
        rw [e] at h
        injection h with h1 h2
        subst h1; subst h2
        clear e
        clear hsp
        generalize findH hs y = z at *
        go_enter Try.func12, Try.ntmps12
        go_wp2_with (first | (go_at_call 27; refine (HS.out _).mono ?_; rintro e w2 ⟨rfl, b2⟩; have R2 := ((IsRow.made w 23 #[.int .i64 0, .int .i64 te, .string ⟨us.toArray⟩]).alloc (.cells #[.int .i64 0, .int .i64 0, .string ⟨#[]⟩] 23)).call b2; have S2 := (IsRow.made (w.alloc (.cells #[.int .i64 0, .int .i64 te, .string ⟨us.toArray⟩] 23)) 23 #[.int .i64 0, .int .i64 0, .string ⟨#[]⟩]).call b2; simp only [World.size_alloc] at S2; have hb2 := (((Below.refl _ _).alloc (Nat.le_refl _) _).alloc (by simp) _ : Below w.heap.size w ((w.alloc (.cells #[.int .i64 0, .int .i64 te, .string ⟨us.toArray⟩] 23)).alloc (.cells #[.int .i64 0, .int .i64 0, .string ⟨#[]⟩] 23))).trans (b2.mono (by simp; omega)); have z0 := R2.cell 0; have z1 := R2.cell 1; have z2 := R2.cell 2; have zl := R2.lt; have y0 := S2.cell 0; have y1 := S2.cell 1; have y2 := S2.cell 2; have yf0 := S2.free 0; have yf1 := S2.free 1; have yf2 := S2.free 2; have yl := S2.lt; clear HS) | (go_at_call 28; refine (HF.out _ (H.call hb2)).mono ?_; rintro e w3 ⟨rfl, b3⟩; have R3 := R2.call b3; have S3 := S2.call b3; have hb3 := hb2.trans (b3.mono hb2.size); clear z0 z1 z2 zl y0 y1 y2 yf0 yf1 yf2 yl; have z0 := R3.cell 0; have z1 := R3.cell 1; have z2 := R3.cell 2; have zl := R3.lt; have y0 := S3.cell 0; have y1 := S3.cell 1; have y2 := S3.cell 2; have yf0 := S3.free 0; have yf1 := S3.free 1; have yf2 := S3.free 2; have yl := S3.lt; clear HF))
        obtain ⟨W9, hW⟩ : ∃ W9, (World.setCell (World.setCell (World.setCell w3 ⟨w.heap.size + 1, 0, none⟩ (.int .i64 0)) ⟨w.heap.size + 1, 1, none⟩ (.int .i64 te)) ⟨w.heap.size + 1, 2, none⟩ (.string ⟨us.toArray⟩)) = W9 := ⟨_, rfl⟩
        have R9 : IsRow W9 (w.heap.size + 1) 23 #[.int .i64 0, .int .i64 te, .string ⟨us.toArray⟩] := by
          rw [← hW]
          exact (((S3.set 0 (.int .i64 0)).set 1 (.int .i64 te)).set 2 (.string ⟨us.toArray⟩))
        have B9 : Below w.heap.size w W9 := by
          rw [← hW]
          exact (((hb3.setCell (p := ⟨w.heap.size + 1, 0, none⟩) (by show _ ≤ w.heap.size + 1; omega) (.int .i64 0)).setCell (p := ⟨w.heap.size + 1, 1, none⟩) (by show _ ≤ w.heap.size + 1; omega) (.int .i64 te)).setCell (p := ⟨w.heap.size + 1, 2, none⟩) (by show _ ≤ w.heap.size + 1; omega) (.string ⟨us.toArray⟩))
        rw [hW]
        clear z0 z1 z2 zl y0 y1 y2 yf0 yf1 yf2 yl
        have y0 := R9.cell 0
        have y1 := R9.cell 1
        have y2 := R9.cell 2
        refine bodyPost_ret (v := .tuple #[.agg #[.int .i64 0, .int .i64 te, .string ⟨us.toArray⟩], .int .i64 3]) (by simp [results, Try.results12, go_sem, y0, y1, y2]; done) rfl ?_
        exact ⟨by first | rfl | (simp [newL]; done), B9⟩
      · have e : userL ⟨0, te, us⟩ hs arg = (⟨1, findH hs y, x⟩, 0) := user_fine rfl hsp gf
        rw [e] at h
        injection h with h1 h2
        subst h1; subst h2
        clear e
        clear hsp
        generalize findH hs y = z at *
        go_enter Try.func12, Try.ntmps12
        go_wp2_with (first | (go_at_call 27; refine (HS.out _).mono ?_; rintro e w2 ⟨rfl, b2⟩; have R2 := ((IsRow.made w 23 #[.int .i64 0, .int .i64 te, .string ⟨us.toArray⟩]).alloc (.cells #[.int .i64 0, .int .i64 0, .string ⟨#[]⟩] 23)).call b2; have S2 := (IsRow.made (w.alloc (.cells #[.int .i64 0, .int .i64 te, .string ⟨us.toArray⟩] 23)) 23 #[.int .i64 0, .int .i64 0, .string ⟨#[]⟩]).call b2; simp only [World.size_alloc] at S2; have hb2 := (((Below.refl _ _).alloc (Nat.le_refl _) _).alloc (by simp) _ : Below w.heap.size w ((w.alloc (.cells #[.int .i64 0, .int .i64 te, .string ⟨us.toArray⟩] 23)).alloc (.cells #[.int .i64 0, .int .i64 0, .string ⟨#[]⟩] 23))).trans (b2.mono (by simp; omega)); have z0 := R2.cell 0; have z1 := R2.cell 1; have z2 := R2.cell 2; have zl := R2.lt; have y0 := S2.cell 0; have y1 := S2.cell 1; have y2 := S2.cell 2; have yf0 := S2.free 0; have yf1 := S2.free 1; have yf2 := S2.free 2; have yl := S2.lt; clear HS) | (go_at_call 28; refine (HF.out _ (H.call hb2)).mono ?_; rintro e w3 ⟨rfl, b3⟩; have R3 := R2.call b3; have S3 := S2.call b3; have hb3 := hb2.trans (b3.mono hb2.size); clear z0 z1 z2 zl y0 y1 y2 yf0 yf1 yf2 yl; have z0 := R3.cell 0; have z1 := R3.cell 1; have z2 := R3.cell 2; have zl := R3.lt; have y0 := S3.cell 0; have y1 := S3.cell 1; have y2 := S3.cell 2; have yf0 := S3.free 0; have yf1 := S3.free 1; have yf2 := S3.free 2; have yl := S3.lt; clear HF))
        obtain ⟨W9, hW⟩ : ∃ W9, (World.setCell (World.setCell (World.setCell w3 ⟨w.heap.size + 1, 0, none⟩ (.int .i64 1)) ⟨w.heap.size + 1, 1, none⟩ (.int .i64 z)) ⟨w.heap.size + 1, 2, none⟩ (.string ⟨x.toArray⟩)) = W9 := ⟨_, rfl⟩
        have R9 : IsRow W9 (w.heap.size + 1) 23 #[.int .i64 1, .int .i64 z, .string ⟨x.toArray⟩] := by
          rw [← hW]
          exact (((S3.set 0 (.int .i64 1)).set 1 (.int .i64 z)).set 2 (.string ⟨x.toArray⟩))
        have B9 : Below w.heap.size w W9 := by
          rw [← hW]
          exact (((hb3.setCell (p := ⟨w.heap.size + 1, 0, none⟩) (by show _ ≤ w.heap.size + 1; omega) (.int .i64 1)).setCell (p := ⟨w.heap.size + 1, 1, none⟩) (by show _ ≤ w.heap.size + 1; omega) (.int .i64 z)).setCell (p := ⟨w.heap.size + 1, 2, none⟩) (by show _ ≤ w.heap.size + 1; omega) (.string ⟨x.toArray⟩))
        rw [hW]
        clear z0 z1 z2 zl y0 y1 y2 yf0 yf1 yf2 yl
        have y0 := R9.cell 0
        have y1 := R9.cell 1
        have y2 := R9.cell 2
        refine bodyPost_ret (v := .tuple #[.agg #[.int .i64 1, .int .i64 z, .string ⟨x.toArray⟩], .int .i64 0]) (by simp [results, Try.results12, go_sem, y0, y1, y2]; done) rfl ?_
        exact ⟨by first | rfl | (simp [newL]; done), B9⟩
  · have e : userL ⟨ph, te, us⟩ hs arg = (⟨ph, te, us⟩, 7) := user_odd g hs arg
    rw [e] at h
    injection h with h1 h2
    subst h1; subst h2
    clear e
    have hne : (ph != 0) = true := bne_iff_ne.2 g
    go_enter Try.func12, Try.ntmps12
    go_wp2_with fail
    refine bodyPost_ret (v := .tuple #[.agg #[.int .i64 ph, .int .i64 te, .string ⟨us.toArray⟩], .int .i64 7]) (by simp [results, Try.results12, go_sem]; done) rfl ?_
    exact ⟨by first | rfl | (simp [newL]; done), ((Below.refl _ _).alloc (Nat.le_refl _) _).alloc (by simp) _⟩

#print axioms rpass_of
#print axioms rmay_of
#print axioms ruser_of
#print axioms rdial_of
#print axioms rheard_of
end Go.Proofs.Ytkkajbnonfnbjaa.Lo
