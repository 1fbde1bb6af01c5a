/- The contract of package login's Heard (gen-login-heard.py). -/
import Derived.Test.YtkkajbnonfnbjaaLoginCode
namespace Go.Proofs.Ytkkajbnonfnbjaa.Lo
open Go.Proofs.Ytkkajbnonfnbjaa Go.Proofs.Ytkkajbnonfnbjaa.Ro
open Go Go.ChangeShapes Go.WideShapes Go.ChangeAt Go.RowKit
set_option maxRecDepth 100000
set_option linter.unusedSimpArgs false
set_option linter.unusedVariables false

theorem steps_at (w : World) : Calls Try.prog 31 #[] w fun e w' => ∃ b, e = .returned (.map (some b)) ∧ Tab w' b ∧ Below w.heap.size w w' :=
  (steps_any w).mono fun _ _ h => ⟨_, h.1, h.2.1, h.2.2⟩
theorem look_hit {w : World} {b : Nat} (h : Tab w b) (j : Nat) (hj : j < 6) : (Instr.lookup MT (.map (some b)) (pairV (phT j) (coT j)) true).run Try.prog w = .ok (.tuple #[pairV (toT j) (acT j), .bool true]) w :=
  (h.look (phT_wf j) (coT_wf j)).1 j hj rfl rfl
theorem look_miss {w : World} {b : Nat} (h : Tab w b) {p c : Int} (hp : p = 2 ∨ p = 3 ∨ p = 5) (h0 : -9223372036854775808 ≤ c) (h1 : c ≤ 9223372036854775807) (hn : ∀ j, j < 6 → ¬ (p = phT j ∧ c = coT j)) : (Instr.lookup MT (.map (some b)) (pairV p c) true).run Try.prog w = .ok (.tuple #[pairV 0 0, .bool false]) w :=
  (h.look (wf_of (by omega) (by omega)) (wf_of h0 h1)).2 hn

set_option maxHeartbeats 16000000 in
theorem heard_of (q r : Lg) (code k : Int) (z0 : -9223372036854775808 ≤ code) (z1 : code ≤ 9223372036854775807) (h : hearL q code = (r, k)) (w : World) : Calls Try.prog 17 #[loginV q, .int .i64 code] w fun e w' => e = .returned (.tuple #[loginV r, .int .i64 k]) ∧ Below w.heap.size w w' := by
  obtain ⟨ph, te, us⟩ := q
  by_cases g0 : code < 200
  · obtain ⟨rfl, rfl⟩ : r = ⟨ph, te, us⟩ ∧ k = 0 := by
      have e := h.symm
      simp [hearL, g0] at e
      exact e
    clear h
    go_enter Try.func17, Try.ntmps17
    go_wp2_with fail
    refine bodyPost_ret (v := .tuple #[.agg #[.int .i64 ph, .int .i64 te, .string ⟨us.toArray⟩], .int .i64 0]) (by simp [results, Try.results17, go_sem]; done) rfl ?_
    exact ⟨by first | rfl | (simp [newL]; done), ((Below.refl _ _).alloc (Nat.le_refl _) _).alloc (by simp) _⟩
  have g0' : (200 : Int) ≤ code := by omega
  by_cases g2 : ph = 2
  · subst g2
    by_cases c1 : code = 220
    · subst c1
      obtain ⟨rfl, rfl⟩ : r = ⟨3, te, us⟩ ∧ k = 1 := by
        have e := h.symm
        simp [hearL] at e
        exact e
      clear h
      have HW := Lib.hid (fun W => waits_any 2 W)
      rw [decide_eq_true (by omega : (2 : Int) = 2 ∨ (2 : Int) = 3 ∨ (2 : Int) = 5)] at HW
      go_enter Try.func17, Try.ntmps17
      go_wp2_with (go_at_call 30; refine (HW.out _).mono ?_; rintro e w2 ⟨rfl, h2⟩; obtain rfl := h2; clear HW)
      obtain ⟨w1, e1, RL1, RZ1, B1⟩ : ∃ W, (w.alloc (.cells #[.int .i64 2, .int .i64 te, .string ⟨us.toArray⟩] 23)).alloc (.cells #[.int .i64 0, .int .i64 0, .string ⟨#[]⟩] 23) = W ∧ IsRow W w.heap.size 23 #[.int .i64 2, .int .i64 te, .string ⟨us.toArray⟩] ∧ IsRow W (w.heap.size + 1) 23 #[.int .i64 0, .int .i64 0, .string ⟨#[]⟩] ∧ Below w.heap.size w W := ⟨_, rfl, (IsRow.made w _ _).alloc _, by have := IsRow.made (w.alloc (.cells #[.int .i64 2, .int .i64 te, .string ⟨us.toArray⟩] 23)) 23 #[.int .i64 0, .int .i64 0, .string ⟨#[]⟩]; simp only [World.size_alloc] at this; exact this, ((Below.refl _ _).alloc (Nat.le_refl _) _).alloc (by simp) _⟩
      rw [e1]
      clear e1
      have c0 := RL1.cell 0
      have hlt1 := RZ1.lt
      have hn7 : w1.heap.size ≠ w.heap.size := by omega
      go_region_held (fun w' => w'.cell? ⟨w.heap.size, 0, none⟩ = some (.int .i64 2)) (first | go_keep | exact K2) (first
        | (go_at_call 31; refine (steps_at _).mono ?_; rintro e w2 ⟨bt, rfl, T2, b2⟩; have bA : Below (w1.drew.alloc (.cells #[.int .i64 0, .int .i64 0] 54)).heap.size (w1.drew.alloc (.cells #[.int .i64 0, .int .i64 0] 54)) w2 := b2; have bb := ((show Below w1.heap.size w1 w1.drew from ⟨rfl, rfl, rfl, Nat.le_refl _, fun _ _ => rfl⟩).alloc (Nat.le_refl _) (.cells #[.int .i64 0, .int .i64 0] 54)).trans (bA.mono (by simp)); have RS2 := (show IsRow (w1.drew.alloc (.cells #[.int .i64 0, .int .i64 0] 54)) w1.heap.size 54 #[.int .i64 0, .int .i64 0] from IsRow.made w1.drew _ _).call bA; have RL2 := RL1.call bb; have RZ2 := RZ1.call bb; have K2 := RL2.cell 0; have hk : (Instr.lookup MT (.map (some bt)) (pairV 2 220) true).run Try.prog w2 = .ok (.tuple #[pairV 3 1, .bool true]) w2 := look_hit T2 0 (by decide); have s0 := RS2.cell 0; have s1 := RS2.cell 1; have sf0 := RS2.free 0; have sf1 := RS2.free 1; have sl := RS2.lt)
        | (go_at_call 31; refine (steps_at _).mono ?_; rintro e w2 ⟨bt, rfl, T2, b2⟩; have bB : Below w1.drew.heap.size w1.drew w2 := b2; have bb := (show Below w1.heap.size w1 w1.drew from ⟨rfl, rfl, rfl, Nat.le_refl _, fun _ _ => rfl⟩).trans bB; have RL2 := RL1.call bb; have RZ2 := RZ1.call bb; have K2 := RL2.cell 0; have hk : (Instr.lookup MT (.map (some bt)) (pairV 2 220) true).run Try.prog w2 = .ok (.tuple #[pairV 3 1, .bool true]) w2 := look_hit T2 0 (by decide); have hk2 : (Instr.lookup MT (.map (some bt)) (pairV 2 220) true).run Try.prog (w2.alloc (.cells #[.int .i64 0, .int .i64 0] 54)) = .ok (.tuple #[pairV 3 1, .bool true]) (w2.alloc (.cells #[.int .i64 0, .int .i64 0] 54)) := look_hit (T2.alloc (.cells #[.int .i64 0, .int .i64 0] 54)) 0 (by decide); have hn6 : w2.heap.size ≠ w.heap.size := (by have := bb.size; omega)))
      all_goals (
        first
        | (obtain ⟨W3, hW3⟩ : ∃ W, World.setCell (World.setCell w2 ⟨w1.heap.size, 0, none⟩ (.int .i64 3)) ⟨w1.heap.size, 1, none⟩ (.int .i64 1) = W := ⟨_, rfl⟩
           rw [hW3]
           have RZ3 : IsRow W3 (w.heap.size + 1) 23 #[.int .i64 0, .int .i64 0, .string ⟨#[]⟩] := by rw [← hW3]; exact (RZ2.other (by show w.heap.size + 1 ≠ w1.heap.size; omega) _).other (by show w.heap.size + 1 ≠ w1.heap.size; omega) _
           have RL3 : IsRow W3 w.heap.size 23 #[.int .i64 2, .int .i64 te, .string ⟨us.toArray⟩] := by rw [← hW3]; exact (RL2.other (by show w.heap.size ≠ w1.heap.size; omega) _).other (by show w.heap.size ≠ w1.heap.size; omega) _
           have B3 : Below w.heap.size w W3 := by rw [← hW3]; exact B1.trans (((bb.setCell (p := ⟨w1.heap.size, 0, none⟩) (by show _ ≤ w1.heap.size; omega) _).setCell (p := ⟨w1.heap.size, 1, none⟩) (by show _ ≤ w1.heap.size; omega) _).mono B1.size)
           have RS3 : IsRow W3 w1.heap.size 54 #[.int .i64 3, .int .i64 1] := by rw [← hW3]; exact (RS2.set 0 (.int .i64 3)).set 1 (.int .i64 1)
           clear hW3 s0 s1 sf0 sf1 sl hk
           have l0 := RL3.cell 0
           have l1 := RL3.cell 1
           have l2 := RL3.cell 2
           have p0 := RS3.cell 0
           have p1 := RS3.cell 1
           have hn9 : w.heap.size + 1 ≠ w1.heap.size := by have := bb.size; omega
           have hn8 : w.heap.size + 1 ≠ w.heap.size := by omega
           go_wp2_with fail
           go_region_held (fun w' => w'.cell? ⟨w.heap.size, 0, none⟩ = some (.int .i64 2) ∧ w'.cell? ⟨w.heap.size, 1, none⟩ = some (.int .i64 te) ∧ w'.cell? ⟨w.heap.size, 2, none⟩ = some (.string ⟨us.toArray⟩) ∧ w'.cell? ⟨w1.heap.size, 0, none⟩ = some (.int .i64 3) ∧ w'.cell? ⟨w1.heap.size, 1, none⟩ = some (.int .i64 1)) (first | go_keep | exact K4) ((go_at_call 29; refine (phase_any 2 te 3 us _).mono ?_; rintro e w4 ⟨rfl, b4⟩; have bb4 : Below W3.heap.size W3 w4 := (show Below W3.heap.size W3 W3.drew from ⟨rfl, rfl, rfl, Nat.le_refl _, fun _ _ => rfl⟩).trans b4; have RL4 := RL3.call bb4; have RS4 := RS3.call bb4; have R4 := RZ3.call bb4; have hb4 := B3.trans (bb4.mono B3.size); have K4 := (⟨RL4.cell 0, RL4.cell 1, RL4.cell 2, RS4.cell 0, RS4.cell 1⟩ : w4.cell? ⟨w.heap.size, 0, none⟩ = some (.int .i64 2) ∧ w4.cell? ⟨w.heap.size, 1, none⟩ = some (.int .i64 te) ∧ w4.cell? ⟨w.heap.size, 2, none⟩ = some (.string ⟨us.toArray⟩) ∧ w4.cell? ⟨w1.heap.size, 0, none⟩ = some (.int .i64 3) ∧ w4.cell? ⟨w1.heap.size, 1, none⟩ = some (.int .i64 1)); have z0 := R4.cell 0; have z1 := R4.cell 1; have z2 := R4.cell 2; have f0 := R4.free 0; have f1 := R4.free 1; have f2 := R4.free 2; have zl := R4.lt))
           all_goals (
             obtain ⟨W9, hW⟩ : ∃ W9, (World.setCell (World.setCell (World.setCell w4 ⟨w.heap.size + 1, 0, none⟩ (.int .i64 3)) ⟨w.heap.size + 1, 1, none⟩ (.int .i64 te)) ⟨w.heap.size + 1, 2, none⟩ (.string ⟨us.toArray⟩)) = W9 := ⟨_, rfl⟩
             have R9 : IsRow W9 (w.heap.size + 1) 23 #[.int .i64 3, .int .i64 te, .string ⟨us.toArray⟩] := by
               rw [← hW]
               exact (((R4.set 0 (.int .i64 3)).set 1 (.int .i64 te)).set 2 (.string ⟨us.toArray⟩))
             have B9 : Below w.heap.size w W9 := by
               rw [← hW]
               exact (((hb4.setCell (p := ⟨w.heap.size + 1, 0, none⟩) (by show _ ≤ w.heap.size + 1; omega) (.int .i64 3)).setCell (p := ⟨w.heap.size + 1, 1, none⟩) (by show _ ≤ w.heap.size + 1; omega) (.int .i64 te)).setCell (p := ⟨w.heap.size + 1, 2, none⟩) (by show _ ≤ w.heap.size + 1; omega) (.string ⟨us.toArray⟩))
             rw [hW]
             clear z0 z1 z2 f0 f1 f2 zl
             have y0 := R9.cell 0
             have y1 := R9.cell 1
             have y2 := R9.cell 2
             go_wp2_with fail
             refine bodyPost_ret (v := .tuple #[.agg #[.int .i64 3, .int .i64 te, .string ⟨us.toArray⟩], .int .i64 1]) (by simp [results, Try.results17, go_sem, y0, y1, y2]; done) rfl ?_
             exact ⟨by first | rfl | (simp [newL]; done), B9⟩))
        | (obtain ⟨W3, hW3⟩ : ∃ W, w2.alloc (.cells #[.int .i64 3, .int .i64 1] 54) = W := ⟨_, rfl⟩
           rw [hW3]
           have RZ3 : IsRow W3 (w.heap.size + 1) 23 #[.int .i64 0, .int .i64 0, .string ⟨#[]⟩] := by rw [← hW3]; exact RZ2.alloc _
           have RL3 : IsRow W3 w.heap.size 23 #[.int .i64 2, .int .i64 te, .string ⟨us.toArray⟩] := by rw [← hW3]; exact RL2.alloc _
           have B3 : Below w.heap.size w W3 := by rw [← hW3]; exact B1.trans ((bb.alloc bb.size _).mono B1.size)
           have RS3 : IsRow W3 w2.heap.size 54 #[.int .i64 3, .int .i64 1] := by rw [← hW3]; exact IsRow.made _ _ _
           clear hW3 hk hk2
           have l0 := RL3.cell 0
           have l1 := RL3.cell 1
           have l2 := RL3.cell 2
           have p0 := RS3.cell 0
           have p1 := RS3.cell 1
           have hn9 : w.heap.size + 1 ≠ w2.heap.size := by have := bb.size; omega
           have hn8 : w.heap.size + 1 ≠ w.heap.size := by omega
           go_wp2_with fail
           go_region_held (fun w' => w'.cell? ⟨w.heap.size, 0, none⟩ = some (.int .i64 2) ∧ w'.cell? ⟨w.heap.size, 1, none⟩ = some (.int .i64 te) ∧ w'.cell? ⟨w.heap.size, 2, none⟩ = some (.string ⟨us.toArray⟩) ∧ w'.cell? ⟨w2.heap.size, 0, none⟩ = some (.int .i64 3) ∧ w'.cell? ⟨w2.heap.size, 1, none⟩ = some (.int .i64 1)) (first | go_keep | exact K4) ((go_at_call 29; refine (phase_any 2 te 3 us _).mono ?_; rintro e w4 ⟨rfl, b4⟩; have bb4 : Below W3.heap.size W3 w4 := (show Below W3.heap.size W3 W3.drew from ⟨rfl, rfl, rfl, Nat.le_refl _, fun _ _ => rfl⟩).trans b4; have RL4 := RL3.call bb4; have RS4 := RS3.call bb4; have R4 := RZ3.call bb4; have hb4 := B3.trans (bb4.mono B3.size); have K4 := (⟨RL4.cell 0, RL4.cell 1, RL4.cell 2, RS4.cell 0, RS4.cell 1⟩ : w4.cell? ⟨w.heap.size, 0, none⟩ = some (.int .i64 2) ∧ w4.cell? ⟨w.heap.size, 1, none⟩ = some (.int .i64 te) ∧ w4.cell? ⟨w.heap.size, 2, none⟩ = some (.string ⟨us.toArray⟩) ∧ w4.cell? ⟨w2.heap.size, 0, none⟩ = some (.int .i64 3) ∧ w4.cell? ⟨w2.heap.size, 1, none⟩ = some (.int .i64 1)); have z0 := R4.cell 0; have z1 := R4.cell 1; have z2 := R4.cell 2; have f0 := R4.free 0; have f1 := R4.free 1; have f2 := R4.free 2; have zl := R4.lt))
           all_goals (
             obtain ⟨W9, hW⟩ : ∃ W9, (World.setCell (World.setCell (World.setCell w4 ⟨w.heap.size + 1, 0, none⟩ (.int .i64 3)) ⟨w.heap.size + 1, 1, none⟩ (.int .i64 te)) ⟨w.heap.size + 1, 2, none⟩ (.string ⟨us.toArray⟩)) = W9 := ⟨_, rfl⟩
             have R9 : IsRow W9 (w.heap.size + 1) 23 #[.int .i64 3, .int .i64 te, .string ⟨us.toArray⟩] := by
               rw [← hW]
               exact (((R4.set 0 (.int .i64 3)).set 1 (.int .i64 te)).set 2 (.string ⟨us.toArray⟩))
             have B9 : Below w.heap.size w W9 := by
               rw [← hW]
               exact (((hb4.setCell (p := ⟨w.heap.size + 1, 0, none⟩) (by show _ ≤ w.heap.size + 1; omega) (.int .i64 3)).setCell (p := ⟨w.heap.size + 1, 1, none⟩) (by show _ ≤ w.heap.size + 1; omega) (.int .i64 te)).setCell (p := ⟨w.heap.size + 1, 2, none⟩) (by show _ ≤ w.heap.size + 1; omega) (.string ⟨us.toArray⟩))
             rw [hW]
             clear z0 z1 z2 f0 f1 f2 zl
             have y0 := R9.cell 0
             have y1 := R9.cell 1
             have y2 := R9.cell 2
             go_wp2_with fail
             refine bodyPost_ret (v := .tuple #[.agg #[.int .i64 3, .int .i64 te, .string ⟨us.toArray⟩], .int .i64 1]) (by simp [results, Try.results17, go_sem, y0, y1, y2]; done) rfl ?_
             exact ⟨by first | rfl | (simp [newL]; done), B9⟩)))
    · have d1 : (code == 220) = false := beq_eq_false_iff_ne.2 c1
      obtain ⟨rfl, rfl⟩ : r = newL ∧ k = 3 := by
        have e := h.symm
        simp [hearL, g0, c1] at e
        exact e
      clear h
      have HMISS := Lib.hid (fun (w : World) (b : Nat) (h : Tab w b) => look_miss (p := 2) (c := code) h (by omega) z0 z1 (by
        intro j hj
        match j, hj with
        | 0, _ => rintro ⟨e1, e2⟩; first | (exact absurd e1 (by decide)) | (exact c1 e2)
        | 1, _ => rintro ⟨e1, e2⟩; first | (exact absurd e1 (by decide)) | (exact c1 e2)
        | 2, _ => rintro ⟨e1, e2⟩; first | (exact absurd e1 (by decide)) | (exact c2 e2)
        | 3, _ => rintro ⟨e1, e2⟩; first | (exact absurd e1 (by decide)) | (exact c3 e2)
        | 4, _ => rintro ⟨e1, e2⟩; first | (exact absurd e1 (by decide)) | (exact c2 e2)
        | 5, _ => rintro ⟨e1, e2⟩; first | (exact absurd e1 (by decide)) | (exact c3 e2)
      ))
      have HW := Lib.hid (fun W => waits_any 2 W)
      rw [decide_eq_true (by omega : (2 : Int) = 2 ∨ (2 : Int) = 3 ∨ (2 : Int) = 5)] at HW
      clear z0 z1
      go_enter Try.func17, Try.ntmps17
      go_wp2_with (go_at_call 30; refine (HW.out _).mono ?_; rintro e w2 ⟨rfl, h2⟩; obtain rfl := h2; clear HW)
      obtain ⟨w1, e1, RL1, RZ1, B1⟩ : ∃ W, (w.alloc (.cells #[.int .i64 2, .int .i64 te, .string ⟨us.toArray⟩] 23)).alloc (.cells #[.int .i64 0, .int .i64 0, .string ⟨#[]⟩] 23) = W ∧ IsRow W w.heap.size 23 #[.int .i64 2, .int .i64 te, .string ⟨us.toArray⟩] ∧ IsRow W (w.heap.size + 1) 23 #[.int .i64 0, .int .i64 0, .string ⟨#[]⟩] ∧ Below w.heap.size w W := ⟨_, rfl, (IsRow.made w _ _).alloc _, by have := IsRow.made (w.alloc (.cells #[.int .i64 2, .int .i64 te, .string ⟨us.toArray⟩] 23)) 23 #[.int .i64 0, .int .i64 0, .string ⟨#[]⟩]; simp only [World.size_alloc] at this; exact this, ((Below.refl _ _).alloc (Nat.le_refl _) _).alloc (by simp) _⟩
      rw [e1]
      clear e1
      have c0 := RL1.cell 0
      have hlt1 := RZ1.lt
      have hn7 : w1.heap.size ≠ w.heap.size := by omega
      go_region_held (fun w' => w'.cell? ⟨w.heap.size, 0, none⟩ = some (.int .i64 2)) (first | go_keep | exact K2) (first
        | (go_at_call 31; refine (steps_at _).mono ?_; rintro e w2 ⟨bt, rfl, T2, b2⟩; have bA : Below (w1.drew.alloc (.cells #[.int .i64 0, .int .i64 0] 54)).heap.size (w1.drew.alloc (.cells #[.int .i64 0, .int .i64 0] 54)) w2 := b2; have bb := ((show Below w1.heap.size w1 w1.drew from ⟨rfl, rfl, rfl, Nat.le_refl _, fun _ _ => rfl⟩).alloc (Nat.le_refl _) (.cells #[.int .i64 0, .int .i64 0] 54)).trans (bA.mono (by simp)); have RS2 := (show IsRow (w1.drew.alloc (.cells #[.int .i64 0, .int .i64 0] 54)) w1.heap.size 54 #[.int .i64 0, .int .i64 0] from IsRow.made w1.drew _ _).call bA; have RL2 := RL1.call bb; have RZ2 := RZ1.call bb; have K2 := RL2.cell 0; have hk := HMISS.out _ _ T2; have s0 := RS2.cell 0; have s1 := RS2.cell 1; have sf0 := RS2.free 0; have sf1 := RS2.free 1; have sl := RS2.lt)
        | (go_at_call 31; refine (steps_at _).mono ?_; rintro e w2 ⟨bt, rfl, T2, b2⟩; have bB : Below w1.drew.heap.size w1.drew w2 := b2; have bb := (show Below w1.heap.size w1 w1.drew from ⟨rfl, rfl, rfl, Nat.le_refl _, fun _ _ => rfl⟩).trans bB; have RL2 := RL1.call bb; have RZ2 := RZ1.call bb; have K2 := RL2.cell 0; have hk := HMISS.out _ _ T2; have hk2 := HMISS.out _ _ (T2.alloc (.cells #[.int .i64 0, .int .i64 0] 54)); have hn6 : w2.heap.size ≠ w.heap.size := (by have := bb.size; omega)))
      all_goals (
        first
        | (obtain ⟨W3, hW3⟩ : ∃ W, World.setCell (World.setCell w2 ⟨w1.heap.size, 0, none⟩ (.int .i64 0)) ⟨w1.heap.size, 1, none⟩ (.int .i64 0) = W := ⟨_, rfl⟩
           rw [hW3]
           have RZ3 : IsRow W3 (w.heap.size + 1) 23 #[.int .i64 0, .int .i64 0, .string ⟨#[]⟩] := by rw [← hW3]; exact (RZ2.other (by show w.heap.size + 1 ≠ w1.heap.size; omega) _).other (by show w.heap.size + 1 ≠ w1.heap.size; omega) _
           have B3 : Below w.heap.size w W3 := by rw [← hW3]; exact B1.trans (((bb.setCell (p := ⟨w1.heap.size, 0, none⟩) (by show _ ≤ w1.heap.size; omega) _).setCell (p := ⟨w1.heap.size, 1, none⟩) (by show _ ≤ w1.heap.size; omega) _).mono B1.size)
           clear hW3 s0 s1 sf0 sf1 sl hk
           go_wp2_with (go_at_call 21; refine (new_any _).mono ?_; rintro e w4 ⟨rfl, b4⟩; have R4 := RZ3.call b4; have hb4 := B3.trans (b4.mono B3.size); have z0 := R4.cell 0; have z1 := R4.cell 1; have z2 := R4.cell 2; have f0 := R4.free 0; have f1 := R4.free 1; have f2 := R4.free 2; have zl := R4.lt)
           obtain ⟨W9, hW⟩ : ∃ W9, (World.setCell (World.setCell (World.setCell w4 ⟨w.heap.size + 1, 0, none⟩ (.int .i64 0)) ⟨w.heap.size + 1, 1, none⟩ (.int .i64 (-1))) ⟨w.heap.size + 1, 2, none⟩ (.string ⟨#[]⟩)) = W9 := ⟨_, rfl⟩
           have R9 : IsRow W9 (w.heap.size + 1) 23 #[.int .i64 0, .int .i64 (-1), .string ⟨#[]⟩] := by
             rw [← hW]
             exact (((R4.set 0 (.int .i64 0)).set 1 (.int .i64 (-1))).set 2 (.string ⟨#[]⟩))
           have B9 : Below w.heap.size w W9 := by
             rw [← hW]
             exact (((hb4.setCell (p := ⟨w.heap.size + 1, 0, none⟩) (by show _ ≤ w.heap.size + 1; omega) (.int .i64 0)).setCell (p := ⟨w.heap.size + 1, 1, none⟩) (by show _ ≤ w.heap.size + 1; omega) (.int .i64 (-1))).setCell (p := ⟨w.heap.size + 1, 2, none⟩) (by show _ ≤ w.heap.size + 1; omega) (.string ⟨#[]⟩))
           rw [hW]
           clear z0 z1 z2 f0 f1 f2 zl
           have y0 := R9.cell 0
           have y1 := R9.cell 1
           have y2 := R9.cell 2
           refine bodyPost_ret (v := .tuple #[.agg #[.int .i64 0, .int .i64 (-1), .string ⟨#[]⟩], .int .i64 3]) (by simp [results, Try.results17, go_sem, y0, y1, y2]; done) rfl ?_
           exact ⟨by first | rfl | (simp [newL]; done), B9⟩)
        | (obtain ⟨W3, hW3⟩ : ∃ W, w2.alloc (.cells #[.int .i64 0, .int .i64 0] 54) = W := ⟨_, rfl⟩
           rw [hW3]
           have RZ3 : IsRow W3 (w.heap.size + 1) 23 #[.int .i64 0, .int .i64 0, .string ⟨#[]⟩] := by rw [← hW3]; exact RZ2.alloc _
           have B3 : Below w.heap.size w W3 := by rw [← hW3]; exact B1.trans ((bb.alloc bb.size _).mono B1.size)
           clear hW3 hk hk2
           go_wp2_with (go_at_call 21; refine (new_any _).mono ?_; rintro e w4 ⟨rfl, b4⟩; have R4 := RZ3.call b4; have hb4 := B3.trans (b4.mono B3.size); have z0 := R4.cell 0; have z1 := R4.cell 1; have z2 := R4.cell 2; have f0 := R4.free 0; have f1 := R4.free 1; have f2 := R4.free 2; have zl := R4.lt)
           obtain ⟨W9, hW⟩ : ∃ W9, (World.setCell (World.setCell (World.setCell w4 ⟨w.heap.size + 1, 0, none⟩ (.int .i64 0)) ⟨w.heap.size + 1, 1, none⟩ (.int .i64 (-1))) ⟨w.heap.size + 1, 2, none⟩ (.string ⟨#[]⟩)) = W9 := ⟨_, rfl⟩
           have R9 : IsRow W9 (w.heap.size + 1) 23 #[.int .i64 0, .int .i64 (-1), .string ⟨#[]⟩] := by
             rw [← hW]
             exact (((R4.set 0 (.int .i64 0)).set 1 (.int .i64 (-1))).set 2 (.string ⟨#[]⟩))
           have B9 : Below w.heap.size w W9 := by
             rw [← hW]
             exact (((hb4.setCell (p := ⟨w.heap.size + 1, 0, none⟩) (by show _ ≤ w.heap.size + 1; omega) (.int .i64 0)).setCell (p := ⟨w.heap.size + 1, 1, none⟩) (by show _ ≤ w.heap.size + 1; omega) (.int .i64 (-1))).setCell (p := ⟨w.heap.size + 1, 2, none⟩) (by show _ ≤ w.heap.size + 1; omega) (.string ⟨#[]⟩))
           rw [hW]
           clear z0 z1 z2 f0 f1 f2 zl
           have y0 := R9.cell 0
           have y1 := R9.cell 1
           have y2 := R9.cell 2
           refine bodyPost_ret (v := .tuple #[.agg #[.int .i64 0, .int .i64 (-1), .string ⟨#[]⟩], .int .i64 3]) (by simp [results, Try.results17, go_sem, y0, y1, y2]; done) rfl ?_
           exact ⟨by first | rfl | (simp [newL]; done), B9⟩))
  have n2 : (ph != 2) = true := bne_iff_ne.2 g2
  have m2 : (ph == 2) = false := beq_eq_false_iff_ne.2 g2
  by_cases g3 : ph = 3
  · subst g3
    by_cases c1 : code = 331
    · subst c1
      obtain ⟨rfl, rfl⟩ : r = ⟨4, te, us⟩ ∧ k = 2 := by
        have e := h.symm
        simp [hearL] at e
        exact e
      clear h
      have HW := Lib.hid (fun W => waits_any 3 W)
      rw [decide_eq_true (by omega : (3 : Int) = 2 ∨ (3 : Int) = 3 ∨ (3 : Int) = 5)] at HW
      go_enter Try.func17, Try.ntmps17
      go_wp2_with (go_at_call 30; refine (HW.out _).mono ?_; rintro e w2 ⟨rfl, h2⟩; obtain rfl := h2; clear HW)
      obtain ⟨w1, e1, RL1, RZ1, B1⟩ : ∃ W, (w.alloc (.cells #[.int .i64 3, .int .i64 te, .string ⟨us.toArray⟩] 23)).alloc (.cells #[.int .i64 0, .int .i64 0, .string ⟨#[]⟩] 23) = W ∧ IsRow W w.heap.size 23 #[.int .i64 3, .int .i64 te, .string ⟨us.toArray⟩] ∧ IsRow W (w.heap.size + 1) 23 #[.int .i64 0, .int .i64 0, .string ⟨#[]⟩] ∧ Below w.heap.size w W := ⟨_, rfl, (IsRow.made w _ _).alloc _, by have := IsRow.made (w.alloc (.cells #[.int .i64 3, .int .i64 te, .string ⟨us.toArray⟩] 23)) 23 #[.int .i64 0, .int .i64 0, .string ⟨#[]⟩]; simp only [World.size_alloc] at this; exact this, ((Below.refl _ _).alloc (Nat.le_refl _) _).alloc (by simp) _⟩
      rw [e1]
      clear e1
      have c0 := RL1.cell 0
      have hlt1 := RZ1.lt
      have hn7 : w1.heap.size ≠ w.heap.size := by omega
      go_region_held (fun w' => w'.cell? ⟨w.heap.size, 0, none⟩ = some (.int .i64 3)) (first | go_keep | exact K2) (first
        | (go_at_call 31; refine (steps_at _).mono ?_; rintro e w2 ⟨bt, rfl, T2, b2⟩; have bA : Below (w1.drew.alloc (.cells #[.int .i64 0, .int .i64 0] 54)).heap.size (w1.drew.alloc (.cells #[.int .i64 0, .int .i64 0] 54)) w2 := b2; have bb := ((show Below w1.heap.size w1 w1.drew from ⟨rfl, rfl, rfl, Nat.le_refl _, fun _ _ => rfl⟩).alloc (Nat.le_refl _) (.cells #[.int .i64 0, .int .i64 0] 54)).trans (bA.mono (by simp)); have RS2 := (show IsRow (w1.drew.alloc (.cells #[.int .i64 0, .int .i64 0] 54)) w1.heap.size 54 #[.int .i64 0, .int .i64 0] from IsRow.made w1.drew _ _).call bA; have RL2 := RL1.call bb; have RZ2 := RZ1.call bb; have K2 := RL2.cell 0; have hk : (Instr.lookup MT (.map (some bt)) (pairV 3 331) true).run Try.prog w2 = .ok (.tuple #[pairV 4 2, .bool true]) w2 := look_hit T2 1 (by decide); have s0 := RS2.cell 0; have s1 := RS2.cell 1; have sf0 := RS2.free 0; have sf1 := RS2.free 1; have sl := RS2.lt)
        | (go_at_call 31; refine (steps_at _).mono ?_; rintro e w2 ⟨bt, rfl, T2, b2⟩; have bB : Below w1.drew.heap.size w1.drew w2 := b2; have bb := (show Below w1.heap.size w1 w1.drew from ⟨rfl, rfl, rfl, Nat.le_refl _, fun _ _ => rfl⟩).trans bB; have RL2 := RL1.call bb; have RZ2 := RZ1.call bb; have K2 := RL2.cell 0; have hk : (Instr.lookup MT (.map (some bt)) (pairV 3 331) true).run Try.prog w2 = .ok (.tuple #[pairV 4 2, .bool true]) w2 := look_hit T2 1 (by decide); have hk2 : (Instr.lookup MT (.map (some bt)) (pairV 3 331) true).run Try.prog (w2.alloc (.cells #[.int .i64 0, .int .i64 0] 54)) = .ok (.tuple #[pairV 4 2, .bool true]) (w2.alloc (.cells #[.int .i64 0, .int .i64 0] 54)) := look_hit (T2.alloc (.cells #[.int .i64 0, .int .i64 0] 54)) 1 (by decide); have hn6 : w2.heap.size ≠ w.heap.size := (by have := bb.size; omega)))
      all_goals (
        first
        | (obtain ⟨W3, hW3⟩ : ∃ W, World.setCell (World.setCell w2 ⟨w1.heap.size, 0, none⟩ (.int .i64 4)) ⟨w1.heap.size, 1, none⟩ (.int .i64 2) = W := ⟨_, rfl⟩
           rw [hW3]
           have RZ3 : IsRow W3 (w.heap.size + 1) 23 #[.int .i64 0, .int .i64 0, .string ⟨#[]⟩] := by rw [← hW3]; exact (RZ2.other (by show w.heap.size + 1 ≠ w1.heap.size; omega) _).other (by show w.heap.size + 1 ≠ w1.heap.size; omega) _
           have RL3 : IsRow W3 w.heap.size 23 #[.int .i64 3, .int .i64 te, .string ⟨us.toArray⟩] := by rw [← hW3]; exact (RL2.other (by show w.heap.size ≠ w1.heap.size; omega) _).other (by show w.heap.size ≠ w1.heap.size; omega) _
           have B3 : Below w.heap.size w W3 := by rw [← hW3]; exact B1.trans (((bb.setCell (p := ⟨w1.heap.size, 0, none⟩) (by show _ ≤ w1.heap.size; omega) _).setCell (p := ⟨w1.heap.size, 1, none⟩) (by show _ ≤ w1.heap.size; omega) _).mono B1.size)
           have RS3 : IsRow W3 w1.heap.size 54 #[.int .i64 4, .int .i64 2] := by rw [← hW3]; exact (RS2.set 0 (.int .i64 4)).set 1 (.int .i64 2)
           clear hW3 s0 s1 sf0 sf1 sl hk
           have l0 := RL3.cell 0
           have l1 := RL3.cell 1
           have l2 := RL3.cell 2
           have p0 := RS3.cell 0
           have p1 := RS3.cell 1
           have hn9 : w.heap.size + 1 ≠ w1.heap.size := by have := bb.size; omega
           have hn8 : w.heap.size + 1 ≠ w.heap.size := by omega
           go_wp2_with fail
           go_region_held (fun w' => w'.cell? ⟨w.heap.size, 0, none⟩ = some (.int .i64 3) ∧ w'.cell? ⟨w.heap.size, 1, none⟩ = some (.int .i64 te) ∧ w'.cell? ⟨w.heap.size, 2, none⟩ = some (.string ⟨us.toArray⟩) ∧ w'.cell? ⟨w1.heap.size, 0, none⟩ = some (.int .i64 4) ∧ w'.cell? ⟨w1.heap.size, 1, none⟩ = some (.int .i64 2)) (first | go_keep | exact K4) ((go_at_call 29; refine (phase_any 3 te 4 us _).mono ?_; rintro e w4 ⟨rfl, b4⟩; have bb4 : Below W3.heap.size W3 w4 := (show Below W3.heap.size W3 W3.drew from ⟨rfl, rfl, rfl, Nat.le_refl _, fun _ _ => rfl⟩).trans b4; have RL4 := RL3.call bb4; have RS4 := RS3.call bb4; have R4 := RZ3.call bb4; have hb4 := B3.trans (bb4.mono B3.size); have K4 := (⟨RL4.cell 0, RL4.cell 1, RL4.cell 2, RS4.cell 0, RS4.cell 1⟩ : w4.cell? ⟨w.heap.size, 0, none⟩ = some (.int .i64 3) ∧ w4.cell? ⟨w.heap.size, 1, none⟩ = some (.int .i64 te) ∧ w4.cell? ⟨w.heap.size, 2, none⟩ = some (.string ⟨us.toArray⟩) ∧ w4.cell? ⟨w1.heap.size, 0, none⟩ = some (.int .i64 4) ∧ w4.cell? ⟨w1.heap.size, 1, none⟩ = some (.int .i64 2)); have z0 := R4.cell 0; have z1 := R4.cell 1; have z2 := R4.cell 2; have f0 := R4.free 0; have f1 := R4.free 1; have f2 := R4.free 2; have zl := R4.lt))
           all_goals (
             obtain ⟨W9, hW⟩ : ∃ W9, (World.setCell (World.setCell (World.setCell w4 ⟨w.heap.size + 1, 0, none⟩ (.int .i64 4)) ⟨w.heap.size + 1, 1, none⟩ (.int .i64 te)) ⟨w.heap.size + 1, 2, none⟩ (.string ⟨us.toArray⟩)) = W9 := ⟨_, rfl⟩
             have R9 : IsRow W9 (w.heap.size + 1) 23 #[.int .i64 4, .int .i64 te, .string ⟨us.toArray⟩] := by
               rw [← hW]
               exact (((R4.set 0 (.int .i64 4)).set 1 (.int .i64 te)).set 2 (.string ⟨us.toArray⟩))
             have B9 : Below w.heap.size w W9 := by
               rw [← hW]
               exact (((hb4.setCell (p := ⟨w.heap.size + 1, 0, none⟩) (by show _ ≤ w.heap.size + 1; omega) (.int .i64 4)).setCell (p := ⟨w.heap.size + 1, 1, none⟩) (by show _ ≤ w.heap.size + 1; omega) (.int .i64 te)).setCell (p := ⟨w.heap.size + 1, 2, none⟩) (by show _ ≤ w.heap.size + 1; omega) (.string ⟨us.toArray⟩))
             rw [hW]
             clear z0 z1 z2 f0 f1 f2 zl
             have y0 := R9.cell 0
             have y1 := R9.cell 1
             have y2 := R9.cell 2
             go_wp2_with fail
             refine bodyPost_ret (v := .tuple #[.agg #[.int .i64 4, .int .i64 te, .string ⟨us.toArray⟩], .int .i64 2]) (by simp [results, Try.results17, go_sem, y0, y1, y2]; done) rfl ?_
             exact ⟨by first | rfl | (simp [newL]; done), B9⟩))
        | (obtain ⟨W3, hW3⟩ : ∃ W, w2.alloc (.cells #[.int .i64 4, .int .i64 2] 54) = W := ⟨_, rfl⟩
           rw [hW3]
           have RZ3 : IsRow W3 (w.heap.size + 1) 23 #[.int .i64 0, .int .i64 0, .string ⟨#[]⟩] := by rw [← hW3]; exact RZ2.alloc _
           have RL3 : IsRow W3 w.heap.size 23 #[.int .i64 3, .int .i64 te, .string ⟨us.toArray⟩] := by rw [← hW3]; exact RL2.alloc _
           have B3 : Below w.heap.size w W3 := by rw [← hW3]; exact B1.trans ((bb.alloc bb.size _).mono B1.size)
           have RS3 : IsRow W3 w2.heap.size 54 #[.int .i64 4, .int .i64 2] := by rw [← hW3]; exact IsRow.made _ _ _
           clear hW3 hk hk2
           have l0 := RL3.cell 0
           have l1 := RL3.cell 1
           have l2 := RL3.cell 2
           have p0 := RS3.cell 0
           have p1 := RS3.cell 1
           have hn9 : w.heap.size + 1 ≠ w2.heap.size := by have := bb.size; omega
           have hn8 : w.heap.size + 1 ≠ w.heap.size := by omega
           go_wp2_with fail
           go_region_held (fun w' => w'.cell? ⟨w.heap.size, 0, none⟩ = some (.int .i64 3) ∧ w'.cell? ⟨w.heap.size, 1, none⟩ = some (.int .i64 te) ∧ w'.cell? ⟨w.heap.size, 2, none⟩ = some (.string ⟨us.toArray⟩) ∧ w'.cell? ⟨w2.heap.size, 0, none⟩ = some (.int .i64 4) ∧ w'.cell? ⟨w2.heap.size, 1, none⟩ = some (.int .i64 2)) (first | go_keep | exact K4) ((go_at_call 29; refine (phase_any 3 te 4 us _).mono ?_; rintro e w4 ⟨rfl, b4⟩; have bb4 : Below W3.heap.size W3 w4 := (show Below W3.heap.size W3 W3.drew from ⟨rfl, rfl, rfl, Nat.le_refl _, fun _ _ => rfl⟩).trans b4; have RL4 := RL3.call bb4; have RS4 := RS3.call bb4; have R4 := RZ3.call bb4; have hb4 := B3.trans (bb4.mono B3.size); have K4 := (⟨RL4.cell 0, RL4.cell 1, RL4.cell 2, RS4.cell 0, RS4.cell 1⟩ : w4.cell? ⟨w.heap.size, 0, none⟩ = some (.int .i64 3) ∧ w4.cell? ⟨w.heap.size, 1, none⟩ = some (.int .i64 te) ∧ w4.cell? ⟨w.heap.size, 2, none⟩ = some (.string ⟨us.toArray⟩) ∧ w4.cell? ⟨w2.heap.size, 0, none⟩ = some (.int .i64 4) ∧ w4.cell? ⟨w2.heap.size, 1, none⟩ = some (.int .i64 2)); have z0 := R4.cell 0; have z1 := R4.cell 1; have z2 := R4.cell 2; have f0 := R4.free 0; have f1 := R4.free 1; have f2 := R4.free 2; have zl := R4.lt))
           all_goals (
             obtain ⟨W9, hW⟩ : ∃ W9, (World.setCell (World.setCell (World.setCell w4 ⟨w.heap.size + 1, 0, none⟩ (.int .i64 4)) ⟨w.heap.size + 1, 1, none⟩ (.int .i64 te)) ⟨w.heap.size + 1, 2, none⟩ (.string ⟨us.toArray⟩)) = W9 := ⟨_, rfl⟩
             have R9 : IsRow W9 (w.heap.size + 1) 23 #[.int .i64 4, .int .i64 te, .string ⟨us.toArray⟩] := by
               rw [← hW]
               exact (((R4.set 0 (.int .i64 4)).set 1 (.int .i64 te)).set 2 (.string ⟨us.toArray⟩))
             have B9 : Below w.heap.size w W9 := by
               rw [← hW]
               exact (((hb4.setCell (p := ⟨w.heap.size + 1, 0, none⟩) (by show _ ≤ w.heap.size + 1; omega) (.int .i64 4)).setCell (p := ⟨w.heap.size + 1, 1, none⟩) (by show _ ≤ w.heap.size + 1; omega) (.int .i64 te)).setCell (p := ⟨w.heap.size + 1, 2, none⟩) (by show _ ≤ w.heap.size + 1; omega) (.string ⟨us.toArray⟩))
             rw [hW]
             clear z0 z1 z2 f0 f1 f2 zl
             have y0 := R9.cell 0
             have y1 := R9.cell 1
             have y2 := R9.cell 2
             go_wp2_with fail
             refine bodyPost_ret (v := .tuple #[.agg #[.int .i64 4, .int .i64 te, .string ⟨us.toArray⟩], .int .i64 2]) (by simp [results, Try.results17, go_sem, y0, y1, y2]; done) rfl ?_
             exact ⟨by first | rfl | (simp [newL]; done), B9⟩)))
    · have d1 : (code == 331) = false := beq_eq_false_iff_ne.2 c1
      by_cases c2 : code = 230
      · subst c2
        obtain ⟨rfl, rfl⟩ : r = ⟨6, te, us⟩ ∧ k = 4 := by
          have e := h.symm
          simp [hearL] at e
          exact e
        clear h
        have HW := Lib.hid (fun W => waits_any 3 W)
        rw [decide_eq_true (by omega : (3 : Int) = 2 ∨ (3 : Int) = 3 ∨ (3 : Int) = 5)] at HW
        go_enter Try.func17, Try.ntmps17
        go_wp2_with (go_at_call 30; refine (HW.out _).mono ?_; rintro e w2 ⟨rfl, h2⟩; obtain rfl := h2; clear HW)
        obtain ⟨w1, e1, RL1, RZ1, B1⟩ : ∃ W, (w.alloc (.cells #[.int .i64 3, .int .i64 te, .string ⟨us.toArray⟩] 23)).alloc (.cells #[.int .i64 0, .int .i64 0, .string ⟨#[]⟩] 23) = W ∧ IsRow W w.heap.size 23 #[.int .i64 3, .int .i64 te, .string ⟨us.toArray⟩] ∧ IsRow W (w.heap.size + 1) 23 #[.int .i64 0, .int .i64 0, .string ⟨#[]⟩] ∧ Below w.heap.size w W := ⟨_, rfl, (IsRow.made w _ _).alloc _, by have := IsRow.made (w.alloc (.cells #[.int .i64 3, .int .i64 te, .string ⟨us.toArray⟩] 23)) 23 #[.int .i64 0, .int .i64 0, .string ⟨#[]⟩]; simp only [World.size_alloc] at this; exact this, ((Below.refl _ _).alloc (Nat.le_refl _) _).alloc (by simp) _⟩
        rw [e1]
        clear e1
        have c0 := RL1.cell 0
        have hlt1 := RZ1.lt
        have hn7 : w1.heap.size ≠ w.heap.size := by omega
        go_region_held (fun w' => w'.cell? ⟨w.heap.size, 0, none⟩ = some (.int .i64 3)) (first | go_keep | exact K2) (first
          | (go_at_call 31; refine (steps_at _).mono ?_; rintro e w2 ⟨bt, rfl, T2, b2⟩; have bA : Below (w1.drew.alloc (.cells #[.int .i64 0, .int .i64 0] 54)).heap.size (w1.drew.alloc (.cells #[.int .i64 0, .int .i64 0] 54)) w2 := b2; have bb := ((show Below w1.heap.size w1 w1.drew from ⟨rfl, rfl, rfl, Nat.le_refl _, fun _ _ => rfl⟩).alloc (Nat.le_refl _) (.cells #[.int .i64 0, .int .i64 0] 54)).trans (bA.mono (by simp)); have RS2 := (show IsRow (w1.drew.alloc (.cells #[.int .i64 0, .int .i64 0] 54)) w1.heap.size 54 #[.int .i64 0, .int .i64 0] from IsRow.made w1.drew _ _).call bA; have RL2 := RL1.call bb; have RZ2 := RZ1.call bb; have K2 := RL2.cell 0; have hk : (Instr.lookup MT (.map (some bt)) (pairV 3 230) true).run Try.prog w2 = .ok (.tuple #[pairV 6 4, .bool true]) w2 := look_hit T2 2 (by decide); have s0 := RS2.cell 0; have s1 := RS2.cell 1; have sf0 := RS2.free 0; have sf1 := RS2.free 1; have sl := RS2.lt)
          | (go_at_call 31; refine (steps_at _).mono ?_; rintro e w2 ⟨bt, rfl, T2, b2⟩; have bB : Below w1.drew.heap.size w1.drew w2 := b2; have bb := (show Below w1.heap.size w1 w1.drew from ⟨rfl, rfl, rfl, Nat.le_refl _, fun _ _ => rfl⟩).trans bB; have RL2 := RL1.call bb; have RZ2 := RZ1.call bb; have K2 := RL2.cell 0; have hk : (Instr.lookup MT (.map (some bt)) (pairV 3 230) true).run Try.prog w2 = .ok (.tuple #[pairV 6 4, .bool true]) w2 := look_hit T2 2 (by decide); have hk2 : (Instr.lookup MT (.map (some bt)) (pairV 3 230) true).run Try.prog (w2.alloc (.cells #[.int .i64 0, .int .i64 0] 54)) = .ok (.tuple #[pairV 6 4, .bool true]) (w2.alloc (.cells #[.int .i64 0, .int .i64 0] 54)) := look_hit (T2.alloc (.cells #[.int .i64 0, .int .i64 0] 54)) 2 (by decide); have hn6 : w2.heap.size ≠ w.heap.size := (by have := bb.size; omega)))
        all_goals (
          first
          | (obtain ⟨W3, hW3⟩ : ∃ W, World.setCell (World.setCell w2 ⟨w1.heap.size, 0, none⟩ (.int .i64 6)) ⟨w1.heap.size, 1, none⟩ (.int .i64 4) = W := ⟨_, rfl⟩
             rw [hW3]
             have RZ3 : IsRow W3 (w.heap.size + 1) 23 #[.int .i64 0, .int .i64 0, .string ⟨#[]⟩] := by rw [← hW3]; exact (RZ2.other (by show w.heap.size + 1 ≠ w1.heap.size; omega) _).other (by show w.heap.size + 1 ≠ w1.heap.size; omega) _
             have RL3 : IsRow W3 w.heap.size 23 #[.int .i64 3, .int .i64 te, .string ⟨us.toArray⟩] := by rw [← hW3]; exact (RL2.other (by show w.heap.size ≠ w1.heap.size; omega) _).other (by show w.heap.size ≠ w1.heap.size; omega) _
             have B3 : Below w.heap.size w W3 := by rw [← hW3]; exact B1.trans (((bb.setCell (p := ⟨w1.heap.size, 0, none⟩) (by show _ ≤ w1.heap.size; omega) _).setCell (p := ⟨w1.heap.size, 1, none⟩) (by show _ ≤ w1.heap.size; omega) _).mono B1.size)
             have RS3 : IsRow W3 w1.heap.size 54 #[.int .i64 6, .int .i64 4] := by rw [← hW3]; exact (RS2.set 0 (.int .i64 6)).set 1 (.int .i64 4)
             clear hW3 s0 s1 sf0 sf1 sl hk
             have l0 := RL3.cell 0
             have l1 := RL3.cell 1
             have l2 := RL3.cell 2
             have p0 := RS3.cell 0
             have p1 := RS3.cell 1
             have hn9 : w.heap.size + 1 ≠ w1.heap.size := by have := bb.size; omega
             have hn8 : w.heap.size + 1 ≠ w.heap.size := by omega
             go_wp2_with fail
             go_region_held (fun w' => w'.cell? ⟨w.heap.size, 0, none⟩ = some (.int .i64 3) ∧ w'.cell? ⟨w.heap.size, 1, none⟩ = some (.int .i64 te) ∧ w'.cell? ⟨w.heap.size, 2, none⟩ = some (.string ⟨us.toArray⟩) ∧ w'.cell? ⟨w1.heap.size, 0, none⟩ = some (.int .i64 6) ∧ w'.cell? ⟨w1.heap.size, 1, none⟩ = some (.int .i64 4)) (first | go_keep | exact K4) ((go_at_call 29; refine (phase_any 3 te 6 us _).mono ?_; rintro e w4 ⟨rfl, b4⟩; have bb4 : Below W3.heap.size W3 w4 := (show Below W3.heap.size W3 W3.drew from ⟨rfl, rfl, rfl, Nat.le_refl _, fun _ _ => rfl⟩).trans b4; have RL4 := RL3.call bb4; have RS4 := RS3.call bb4; have R4 := RZ3.call bb4; have hb4 := B3.trans (bb4.mono B3.size); have K4 := (⟨RL4.cell 0, RL4.cell 1, RL4.cell 2, RS4.cell 0, RS4.cell 1⟩ : w4.cell? ⟨w.heap.size, 0, none⟩ = some (.int .i64 3) ∧ w4.cell? ⟨w.heap.size, 1, none⟩ = some (.int .i64 te) ∧ w4.cell? ⟨w.heap.size, 2, none⟩ = some (.string ⟨us.toArray⟩) ∧ w4.cell? ⟨w1.heap.size, 0, none⟩ = some (.int .i64 6) ∧ w4.cell? ⟨w1.heap.size, 1, none⟩ = some (.int .i64 4)); have z0 := R4.cell 0; have z1 := R4.cell 1; have z2 := R4.cell 2; have f0 := R4.free 0; have f1 := R4.free 1; have f2 := R4.free 2; have zl := R4.lt))
             all_goals (
               obtain ⟨W9, hW⟩ : ∃ W9, (World.setCell (World.setCell (World.setCell w4 ⟨w.heap.size + 1, 0, none⟩ (.int .i64 6)) ⟨w.heap.size + 1, 1, none⟩ (.int .i64 te)) ⟨w.heap.size + 1, 2, none⟩ (.string ⟨us.toArray⟩)) = W9 := ⟨_, rfl⟩
               have R9 : IsRow W9 (w.heap.size + 1) 23 #[.int .i64 6, .int .i64 te, .string ⟨us.toArray⟩] := by
                 rw [← hW]
                 exact (((R4.set 0 (.int .i64 6)).set 1 (.int .i64 te)).set 2 (.string ⟨us.toArray⟩))
               have B9 : Below w.heap.size w W9 := by
                 rw [← hW]
                 exact (((hb4.setCell (p := ⟨w.heap.size + 1, 0, none⟩) (by show _ ≤ w.heap.size + 1; omega) (.int .i64 6)).setCell (p := ⟨w.heap.size + 1, 1, none⟩) (by show _ ≤ w.heap.size + 1; omega) (.int .i64 te)).setCell (p := ⟨w.heap.size + 1, 2, none⟩) (by show _ ≤ w.heap.size + 1; omega) (.string ⟨us.toArray⟩))
               rw [hW]
               clear z0 z1 z2 f0 f1 f2 zl
               have y0 := R9.cell 0
               have y1 := R9.cell 1
               have y2 := R9.cell 2
               go_wp2_with fail
               refine bodyPost_ret (v := .tuple #[.agg #[.int .i64 6, .int .i64 te, .string ⟨us.toArray⟩], .int .i64 4]) (by simp [results, Try.results17, go_sem, y0, y1, y2]; done) rfl ?_
               exact ⟨by first | rfl | (simp [newL]; done), B9⟩))
          | (obtain ⟨W3, hW3⟩ : ∃ W, w2.alloc (.cells #[.int .i64 6, .int .i64 4] 54) = W := ⟨_, rfl⟩
             rw [hW3]
             have RZ3 : IsRow W3 (w.heap.size + 1) 23 #[.int .i64 0, .int .i64 0, .string ⟨#[]⟩] := by rw [← hW3]; exact RZ2.alloc _
             have RL3 : IsRow W3 w.heap.size 23 #[.int .i64 3, .int .i64 te, .string ⟨us.toArray⟩] := by rw [← hW3]; exact RL2.alloc _
             have B3 : Below w.heap.size w W3 := by rw [← hW3]; exact B1.trans ((bb.alloc bb.size _).mono B1.size)
             have RS3 : IsRow W3 w2.heap.size 54 #[.int .i64 6, .int .i64 4] := by rw [← hW3]; exact IsRow.made _ _ _
             clear hW3 hk hk2
             have l0 := RL3.cell 0
             have l1 := RL3.cell 1
             have l2 := RL3.cell 2
             have p0 := RS3.cell 0
             have p1 := RS3.cell 1
             have hn9 : w.heap.size + 1 ≠ w2.heap.size := by have := bb.size; omega
             have hn8 : w.heap.size + 1 ≠ w.heap.size := by omega
             go_wp2_with fail
             go_region_held (fun w' => w'.cell? ⟨w.heap.size, 0, none⟩ = some (.int .i64 3) ∧ w'.cell? ⟨w.heap.size, 1, none⟩ = some (.int .i64 te) ∧ w'.cell? ⟨w.heap.size, 2, none⟩ = some (.string ⟨us.toArray⟩) ∧ w'.cell? ⟨w2.heap.size, 0, none⟩ = some (.int .i64 6) ∧ w'.cell? ⟨w2.heap.size, 1, none⟩ = some (.int .i64 4)) (first | go_keep | exact K4) ((go_at_call 29; refine (phase_any 3 te 6 us _).mono ?_; rintro e w4 ⟨rfl, b4⟩; have bb4 : Below W3.heap.size W3 w4 := (show Below W3.heap.size W3 W3.drew from ⟨rfl, rfl, rfl, Nat.le_refl _, fun _ _ => rfl⟩).trans b4; have RL4 := RL3.call bb4; have RS4 := RS3.call bb4; have R4 := RZ3.call bb4; have hb4 := B3.trans (bb4.mono B3.size); have K4 := (⟨RL4.cell 0, RL4.cell 1, RL4.cell 2, RS4.cell 0, RS4.cell 1⟩ : w4.cell? ⟨w.heap.size, 0, none⟩ = some (.int .i64 3) ∧ w4.cell? ⟨w.heap.size, 1, none⟩ = some (.int .i64 te) ∧ w4.cell? ⟨w.heap.size, 2, none⟩ = some (.string ⟨us.toArray⟩) ∧ w4.cell? ⟨w2.heap.size, 0, none⟩ = some (.int .i64 6) ∧ w4.cell? ⟨w2.heap.size, 1, none⟩ = some (.int .i64 4)); have z0 := R4.cell 0; have z1 := R4.cell 1; have z2 := R4.cell 2; have f0 := R4.free 0; have f1 := R4.free 1; have f2 := R4.free 2; have zl := R4.lt))
             all_goals (
               obtain ⟨W9, hW⟩ : ∃ W9, (World.setCell (World.setCell (World.setCell w4 ⟨w.heap.size + 1, 0, none⟩ (.int .i64 6)) ⟨w.heap.size + 1, 1, none⟩ (.int .i64 te)) ⟨w.heap.size + 1, 2, none⟩ (.string ⟨us.toArray⟩)) = W9 := ⟨_, rfl⟩
               have R9 : IsRow W9 (w.heap.size + 1) 23 #[.int .i64 6, .int .i64 te, .string ⟨us.toArray⟩] := by
                 rw [← hW]
                 exact (((R4.set 0 (.int .i64 6)).set 1 (.int .i64 te)).set 2 (.string ⟨us.toArray⟩))
               have B9 : Below w.heap.size w W9 := by
                 rw [← hW]
                 exact (((hb4.setCell (p := ⟨w.heap.size + 1, 0, none⟩) (by show _ ≤ w.heap.size + 1; omega) (.int .i64 6)).setCell (p := ⟨w.heap.size + 1, 1, none⟩) (by show _ ≤ w.heap.size + 1; omega) (.int .i64 te)).setCell (p := ⟨w.heap.size + 1, 2, none⟩) (by show _ ≤ w.heap.size + 1; omega) (.string ⟨us.toArray⟩))
               rw [hW]
               clear z0 z1 z2 f0 f1 f2 zl
               have y0 := R9.cell 0
               have y1 := R9.cell 1
               have y2 := R9.cell 2
               go_wp2_with fail
               refine bodyPost_ret (v := .tuple #[.agg #[.int .i64 6, .int .i64 te, .string ⟨us.toArray⟩], .int .i64 4]) (by simp [results, Try.results17, go_sem, y0, y1, y2]; done) rfl ?_
               exact ⟨by first | rfl | (simp [newL]; done), B9⟩)))
      have d2 : (code == 230) = false := beq_eq_false_iff_ne.2 c2
      by_cases c3 : code = 232
      · subst c3
        obtain ⟨rfl, rfl⟩ : r = ⟨6, te, us⟩ ∧ k = 4 := by
          have e := h.symm
          simp [hearL] at e
          exact e
        clear h
        have HW := Lib.hid (fun W => waits_any 3 W)
        rw [decide_eq_true (by omega : (3 : Int) = 2 ∨ (3 : Int) = 3 ∨ (3 : Int) = 5)] at HW
        go_enter Try.func17, Try.ntmps17
        go_wp2_with (go_at_call 30; refine (HW.out _).mono ?_; rintro e w2 ⟨rfl, h2⟩; obtain rfl := h2; clear HW)
        obtain ⟨w1, e1, RL1, RZ1, B1⟩ : ∃ W, (w.alloc (.cells #[.int .i64 3, .int .i64 te, .string ⟨us.toArray⟩] 23)).alloc (.cells #[.int .i64 0, .int .i64 0, .string ⟨#[]⟩] 23) = W ∧ IsRow W w.heap.size 23 #[.int .i64 3, .int .i64 te, .string ⟨us.toArray⟩] ∧ IsRow W (w.heap.size + 1) 23 #[.int .i64 0, .int .i64 0, .string ⟨#[]⟩] ∧ Below w.heap.size w W := ⟨_, rfl, (IsRow.made w _ _).alloc _, by have := IsRow.made (w.alloc (.cells #[.int .i64 3, .int .i64 te, .string ⟨us.toArray⟩] 23)) 23 #[.int .i64 0, .int .i64 0, .string ⟨#[]⟩]; simp only [World.size_alloc] at this; exact this, ((Below.refl _ _).alloc (Nat.le_refl _) _).alloc (by simp) _⟩
        rw [e1]
        clear e1
        have c0 := RL1.cell 0
        have hlt1 := RZ1.lt
        have hn7 : w1.heap.size ≠ w.heap.size := by omega
        go_region_held (fun w' => w'.cell? ⟨w.heap.size, 0, none⟩ = some (.int .i64 3)) (first | go_keep | exact K2) (first
          | (go_at_call 31; refine (steps_at _).mono ?_; rintro e w2 ⟨bt, rfl, T2, b2⟩; have bA : Below (w1.drew.alloc (.cells #[.int .i64 0, .int .i64 0] 54)).heap.size (w1.drew.alloc (.cells #[.int .i64 0, .int .i64 0] 54)) w2 := b2; have bb := ((show Below w1.heap.size w1 w1.drew from ⟨rfl, rfl, rfl, Nat.le_refl _, fun _ _ => rfl⟩).alloc (Nat.le_refl _) (.cells #[.int .i64 0, .int .i64 0] 54)).trans (bA.mono (by simp)); have RS2 := (show IsRow (w1.drew.alloc (.cells #[.int .i64 0, .int .i64 0] 54)) w1.heap.size 54 #[.int .i64 0, .int .i64 0] from IsRow.made w1.drew _ _).call bA; have RL2 := RL1.call bb; have RZ2 := RZ1.call bb; have K2 := RL2.cell 0; have hk : (Instr.lookup MT (.map (some bt)) (pairV 3 232) true).run Try.prog w2 = .ok (.tuple #[pairV 6 4, .bool true]) w2 := look_hit T2 3 (by decide); have s0 := RS2.cell 0; have s1 := RS2.cell 1; have sf0 := RS2.free 0; have sf1 := RS2.free 1; have sl := RS2.lt)
          | (go_at_call 31; refine (steps_at _).mono ?_; rintro e w2 ⟨bt, rfl, T2, b2⟩; have bB : Below w1.drew.heap.size w1.drew w2 := b2; have bb := (show Below w1.heap.size w1 w1.drew from ⟨rfl, rfl, rfl, Nat.le_refl _, fun _ _ => rfl⟩).trans bB; have RL2 := RL1.call bb; have RZ2 := RZ1.call bb; have K2 := RL2.cell 0; have hk : (Instr.lookup MT (.map (some bt)) (pairV 3 232) true).run Try.prog w2 = .ok (.tuple #[pairV 6 4, .bool true]) w2 := look_hit T2 3 (by decide); have hk2 : (Instr.lookup MT (.map (some bt)) (pairV 3 232) true).run Try.prog (w2.alloc (.cells #[.int .i64 0, .int .i64 0] 54)) = .ok (.tuple #[pairV 6 4, .bool true]) (w2.alloc (.cells #[.int .i64 0, .int .i64 0] 54)) := look_hit (T2.alloc (.cells #[.int .i64 0, .int .i64 0] 54)) 3 (by decide); have hn6 : w2.heap.size ≠ w.heap.size := (by have := bb.size; omega)))
        all_goals (
          first
          | (obtain ⟨W3, hW3⟩ : ∃ W, World.setCell (World.setCell w2 ⟨w1.heap.size, 0, none⟩ (.int .i64 6)) ⟨w1.heap.size, 1, none⟩ (.int .i64 4) = W := ⟨_, rfl⟩
             rw [hW3]
             have RZ3 : IsRow W3 (w.heap.size + 1) 23 #[.int .i64 0, .int .i64 0, .string ⟨#[]⟩] := by rw [← hW3]; exact (RZ2.other (by show w.heap.size + 1 ≠ w1.heap.size; omega) _).other (by show w.heap.size + 1 ≠ w1.heap.size; omega) _
             have RL3 : IsRow W3 w.heap.size 23 #[.int .i64 3, .int .i64 te, .string ⟨us.toArray⟩] := by rw [← hW3]; exact (RL2.other (by show w.heap.size ≠ w1.heap.size; omega) _).other (by show w.heap.size ≠ w1.heap.size; omega) _
             have B3 : Below w.heap.size w W3 := by rw [← hW3]; exact B1.trans (((bb.setCell (p := ⟨w1.heap.size, 0, none⟩) (by show _ ≤ w1.heap.size; omega) _).setCell (p := ⟨w1.heap.size, 1, none⟩) (by show _ ≤ w1.heap.size; omega) _).mono B1.size)
             have RS3 : IsRow W3 w1.heap.size 54 #[.int .i64 6, .int .i64 4] := by rw [← hW3]; exact (RS2.set 0 (.int .i64 6)).set 1 (.int .i64 4)
             clear hW3 s0 s1 sf0 sf1 sl hk
             have l0 := RL3.cell 0
             have l1 := RL3.cell 1
             have l2 := RL3.cell 2
             have p0 := RS3.cell 0
             have p1 := RS3.cell 1
             have hn9 : w.heap.size + 1 ≠ w1.heap.size := by have := bb.size; omega
             have hn8 : w.heap.size + 1 ≠ w.heap.size := by omega
             go_wp2_with fail
             go_region_held (fun w' => w'.cell? ⟨w.heap.size, 0, none⟩ = some (.int .i64 3) ∧ w'.cell? ⟨w.heap.size, 1, none⟩ = some (.int .i64 te) ∧ w'.cell? ⟨w.heap.size, 2, none⟩ = some (.string ⟨us.toArray⟩) ∧ w'.cell? ⟨w1.heap.size, 0, none⟩ = some (.int .i64 6) ∧ w'.cell? ⟨w1.heap.size, 1, none⟩ = some (.int .i64 4)) (first | go_keep | exact K4) ((go_at_call 29; refine (phase_any 3 te 6 us _).mono ?_; rintro e w4 ⟨rfl, b4⟩; have bb4 : Below W3.heap.size W3 w4 := (show Below W3.heap.size W3 W3.drew from ⟨rfl, rfl, rfl, Nat.le_refl _, fun _ _ => rfl⟩).trans b4; have RL4 := RL3.call bb4; have RS4 := RS3.call bb4; have R4 := RZ3.call bb4; have hb4 := B3.trans (bb4.mono B3.size); have K4 := (⟨RL4.cell 0, RL4.cell 1, RL4.cell 2, RS4.cell 0, RS4.cell 1⟩ : w4.cell? ⟨w.heap.size, 0, none⟩ = some (.int .i64 3) ∧ w4.cell? ⟨w.heap.size, 1, none⟩ = some (.int .i64 te) ∧ w4.cell? ⟨w.heap.size, 2, none⟩ = some (.string ⟨us.toArray⟩) ∧ w4.cell? ⟨w1.heap.size, 0, none⟩ = some (.int .i64 6) ∧ w4.cell? ⟨w1.heap.size, 1, none⟩ = some (.int .i64 4)); have z0 := R4.cell 0; have z1 := R4.cell 1; have z2 := R4.cell 2; have f0 := R4.free 0; have f1 := R4.free 1; have f2 := R4.free 2; have zl := R4.lt))
             all_goals (
               obtain ⟨W9, hW⟩ : ∃ W9, (World.setCell (World.setCell (World.setCell w4 ⟨w.heap.size + 1, 0, none⟩ (.int .i64 6)) ⟨w.heap.size + 1, 1, none⟩ (.int .i64 te)) ⟨w.heap.size + 1, 2, none⟩ (.string ⟨us.toArray⟩)) = W9 := ⟨_, rfl⟩
               have R9 : IsRow W9 (w.heap.size + 1) 23 #[.int .i64 6, .int .i64 te, .string ⟨us.toArray⟩] := by
                 rw [← hW]
                 exact (((R4.set 0 (.int .i64 6)).set 1 (.int .i64 te)).set 2 (.string ⟨us.toArray⟩))
               have B9 : Below w.heap.size w W9 := by
                 rw [← hW]
                 exact (((hb4.setCell (p := ⟨w.heap.size + 1, 0, none⟩) (by show _ ≤ w.heap.size + 1; omega) (.int .i64 6)).setCell (p := ⟨w.heap.size + 1, 1, none⟩) (by show _ ≤ w.heap.size + 1; omega) (.int .i64 te)).setCell (p := ⟨w.heap.size + 1, 2, none⟩) (by show _ ≤ w.heap.size + 1; omega) (.string ⟨us.toArray⟩))
               rw [hW]
               clear z0 z1 z2 f0 f1 f2 zl
               have y0 := R9.cell 0
               have y1 := R9.cell 1
               have y2 := R9.cell 2
               go_wp2_with fail
               refine bodyPost_ret (v := .tuple #[.agg #[.int .i64 6, .int .i64 te, .string ⟨us.toArray⟩], .int .i64 4]) (by simp [results, Try.results17, go_sem, y0, y1, y2]; done) rfl ?_
               exact ⟨by first | rfl | (simp [newL]; done), B9⟩))
          | (obtain ⟨W3, hW3⟩ : ∃ W, w2.alloc (.cells #[.int .i64 6, .int .i64 4] 54) = W := ⟨_, rfl⟩
             rw [hW3]
             have RZ3 : IsRow W3 (w.heap.size + 1) 23 #[.int .i64 0, .int .i64 0, .string ⟨#[]⟩] := by rw [← hW3]; exact RZ2.alloc _
             have RL3 : IsRow W3 w.heap.size 23 #[.int .i64 3, .int .i64 te, .string ⟨us.toArray⟩] := by rw [← hW3]; exact RL2.alloc _
             have B3 : Below w.heap.size w W3 := by rw [← hW3]; exact B1.trans ((bb.alloc bb.size _).mono B1.size)
             have RS3 : IsRow W3 w2.heap.size 54 #[.int .i64 6, .int .i64 4] := by rw [← hW3]; exact IsRow.made _ _ _
             clear hW3 hk hk2
             have l0 := RL3.cell 0
             have l1 := RL3.cell 1
             have l2 := RL3.cell 2
             have p0 := RS3.cell 0
             have p1 := RS3.cell 1
             have hn9 : w.heap.size + 1 ≠ w2.heap.size := by have := bb.size; omega
             have hn8 : w.heap.size + 1 ≠ w.heap.size := by omega
             go_wp2_with fail
             go_region_held (fun w' => w'.cell? ⟨w.heap.size, 0, none⟩ = some (.int .i64 3) ∧ w'.cell? ⟨w.heap.size, 1, none⟩ = some (.int .i64 te) ∧ w'.cell? ⟨w.heap.size, 2, none⟩ = some (.string ⟨us.toArray⟩) ∧ w'.cell? ⟨w2.heap.size, 0, none⟩ = some (.int .i64 6) ∧ w'.cell? ⟨w2.heap.size, 1, none⟩ = some (.int .i64 4)) (first | go_keep | exact K4) ((go_at_call 29; refine (phase_any 3 te 6 us _).mono ?_; rintro e w4 ⟨rfl, b4⟩; have bb4 : Below W3.heap.size W3 w4 := (show Below W3.heap.size W3 W3.drew from ⟨rfl, rfl, rfl, Nat.le_refl _, fun _ _ => rfl⟩).trans b4; have RL4 := RL3.call bb4; have RS4 := RS3.call bb4; have R4 := RZ3.call bb4; have hb4 := B3.trans (bb4.mono B3.size); have K4 := (⟨RL4.cell 0, RL4.cell 1, RL4.cell 2, RS4.cell 0, RS4.cell 1⟩ : w4.cell? ⟨w.heap.size, 0, none⟩ = some (.int .i64 3) ∧ w4.cell? ⟨w.heap.size, 1, none⟩ = some (.int .i64 te) ∧ w4.cell? ⟨w.heap.size, 2, none⟩ = some (.string ⟨us.toArray⟩) ∧ w4.cell? ⟨w2.heap.size, 0, none⟩ = some (.int .i64 6) ∧ w4.cell? ⟨w2.heap.size, 1, none⟩ = some (.int .i64 4)); have z0 := R4.cell 0; have z1 := R4.cell 1; have z2 := R4.cell 2; have f0 := R4.free 0; have f1 := R4.free 1; have f2 := R4.free 2; have zl := R4.lt))
             all_goals (
               obtain ⟨W9, hW⟩ : ∃ W9, (World.setCell (World.setCell (World.setCell w4 ⟨w.heap.size + 1, 0, none⟩ (.int .i64 6)) ⟨w.heap.size + 1, 1, none⟩ (.int .i64 te)) ⟨w.heap.size + 1, 2, none⟩ (.string ⟨us.toArray⟩)) = W9 := ⟨_, rfl⟩
               have R9 : IsRow W9 (w.heap.size + 1) 23 #[.int .i64 6, .int .i64 te, .string ⟨us.toArray⟩] := by
                 rw [← hW]
                 exact (((R4.set 0 (.int .i64 6)).set 1 (.int .i64 te)).set 2 (.string ⟨us.toArray⟩))
               have B9 : Below w.heap.size w W9 := by
                 rw [← hW]
                 exact (((hb4.setCell (p := ⟨w.heap.size + 1, 0, none⟩) (by show _ ≤ w.heap.size + 1; omega) (.int .i64 6)).setCell (p := ⟨w.heap.size + 1, 1, none⟩) (by show _ ≤ w.heap.size + 1; omega) (.int .i64 te)).setCell (p := ⟨w.heap.size + 1, 2, none⟩) (by show _ ≤ w.heap.size + 1; omega) (.string ⟨us.toArray⟩))
               rw [hW]
               clear z0 z1 z2 f0 f1 f2 zl
               have y0 := R9.cell 0
               have y1 := R9.cell 1
               have y2 := R9.cell 2
               go_wp2_with fail
               refine bodyPost_ret (v := .tuple #[.agg #[.int .i64 6, .int .i64 te, .string ⟨us.toArray⟩], .int .i64 4]) (by simp [results, Try.results17, go_sem, y0, y1, y2]; done) rfl ?_
               exact ⟨by first | rfl | (simp [newL]; done), B9⟩)))
      have d3 : (code == 232) = false := beq_eq_false_iff_ne.2 c3
      obtain ⟨rfl, rfl⟩ : r = newL ∧ k = 3 := by
        have e := h.symm
        simp [hearL, g0, c2, c3, c1] at e
        exact e
      clear h
      have HMISS := Lib.hid (fun (w : World) (b : Nat) (h : Tab w b) => look_miss (p := 3) (c := code) h (by omega) z0 z1 (by
        intro j hj
        match j, hj with
        | 0, _ => rintro ⟨e1, e2⟩; first | (exact absurd e1 (by decide)) | (exact c1 e2)
        | 1, _ => rintro ⟨e1, e2⟩; first | (exact absurd e1 (by decide)) | (exact c1 e2)
        | 2, _ => rintro ⟨e1, e2⟩; first | (exact absurd e1 (by decide)) | (exact c2 e2)
        | 3, _ => rintro ⟨e1, e2⟩; first | (exact absurd e1 (by decide)) | (exact c3 e2)
        | 4, _ => rintro ⟨e1, e2⟩; first | (exact absurd e1 (by decide)) | (exact c2 e2)
        | 5, _ => rintro ⟨e1, e2⟩; first | (exact absurd e1 (by decide)) | (exact c3 e2)
      ))
      have HW := Lib.hid (fun W => waits_any 3 W)
      rw [decide_eq_true (by omega : (3 : Int) = 2 ∨ (3 : Int) = 3 ∨ (3 : Int) = 5)] at HW
      clear z0 z1
      go_enter Try.func17, Try.ntmps17
      go_wp2_with (go_at_call 30; refine (HW.out _).mono ?_; rintro e w2 ⟨rfl, h2⟩; obtain rfl := h2; clear HW)
      obtain ⟨w1, e1, RL1, RZ1, B1⟩ : ∃ W, (w.alloc (.cells #[.int .i64 3, .int .i64 te, .string ⟨us.toArray⟩] 23)).alloc (.cells #[.int .i64 0, .int .i64 0, .string ⟨#[]⟩] 23) = W ∧ IsRow W w.heap.size 23 #[.int .i64 3, .int .i64 te, .string ⟨us.toArray⟩] ∧ IsRow W (w.heap.size + 1) 23 #[.int .i64 0, .int .i64 0, .string ⟨#[]⟩] ∧ Below w.heap.size w W := ⟨_, rfl, (IsRow.made w _ _).alloc _, by have := IsRow.made (w.alloc (.cells #[.int .i64 3, .int .i64 te, .string ⟨us.toArray⟩] 23)) 23 #[.int .i64 0, .int .i64 0, .string ⟨#[]⟩]; simp only [World.size_alloc] at this; exact this, ((Below.refl _ _).alloc (Nat.le_refl _) _).alloc (by simp) _⟩
      rw [e1]
      clear e1
      have c0 := RL1.cell 0
      have hlt1 := RZ1.lt
      have hn7 : w1.heap.size ≠ w.heap.size := by omega
      go_region_held (fun w' => w'.cell? ⟨w.heap.size, 0, none⟩ = some (.int .i64 3)) (first | go_keep | exact K2) (first
        | (go_at_call 31; refine (steps_at _).mono ?_; rintro e w2 ⟨bt, rfl, T2, b2⟩; have bA : Below (w1.drew.alloc (.cells #[.int .i64 0, .int .i64 0] 54)).heap.size (w1.drew.alloc (.cells #[.int .i64 0, .int .i64 0] 54)) w2 := b2; have bb := ((show Below w1.heap.size w1 w1.drew from ⟨rfl, rfl, rfl, Nat.le_refl _, fun _ _ => rfl⟩).alloc (Nat.le_refl _) (.cells #[.int .i64 0, .int .i64 0] 54)).trans (bA.mono (by simp)); have RS2 := (show IsRow (w1.drew.alloc (.cells #[.int .i64 0, .int .i64 0] 54)) w1.heap.size 54 #[.int .i64 0, .int .i64 0] from IsRow.made w1.drew _ _).call bA; have RL2 := RL1.call bb; have RZ2 := RZ1.call bb; have K2 := RL2.cell 0; have hk := HMISS.out _ _ T2; have s0 := RS2.cell 0; have s1 := RS2.cell 1; have sf0 := RS2.free 0; have sf1 := RS2.free 1; have sl := RS2.lt)
        | (go_at_call 31; refine (steps_at _).mono ?_; rintro e w2 ⟨bt, rfl, T2, b2⟩; have bB : Below w1.drew.heap.size w1.drew w2 := b2; have bb := (show Below w1.heap.size w1 w1.drew from ⟨rfl, rfl, rfl, Nat.le_refl _, fun _ _ => rfl⟩).trans bB; have RL2 := RL1.call bb; have RZ2 := RZ1.call bb; have K2 := RL2.cell 0; have hk := HMISS.out _ _ T2; have hk2 := HMISS.out _ _ (T2.alloc (.cells #[.int .i64 0, .int .i64 0] 54)); have hn6 : w2.heap.size ≠ w.heap.size := (by have := bb.size; omega)))
      all_goals (
        first
        | (obtain ⟨W3, hW3⟩ : ∃ W, World.setCell (World.setCell w2 ⟨w1.heap.size, 0, none⟩ (.int .i64 0)) ⟨w1.heap.size, 1, none⟩ (.int .i64 0) = W := ⟨_, rfl⟩
           rw [hW3]
           have RZ3 : IsRow W3 (w.heap.size + 1) 23 #[.int .i64 0, .int .i64 0, .string ⟨#[]⟩] := by rw [← hW3]; exact (RZ2.other (by show w.heap.size + 1 ≠ w1.heap.size; omega) _).other (by show w.heap.size + 1 ≠ w1.heap.size; omega) _
           have B3 : Below w.heap.size w W3 := by rw [← hW3]; exact B1.trans (((bb.setCell (p := ⟨w1.heap.size, 0, none⟩) (by show _ ≤ w1.heap.size; omega) _).setCell (p := ⟨w1.heap.size, 1, none⟩) (by show _ ≤ w1.heap.size; omega) _).mono B1.size)
           clear hW3 s0 s1 sf0 sf1 sl hk
           go_wp2_with (go_at_call 21; refine (new_any _).mono ?_; rintro e w4 ⟨rfl, b4⟩; have R4 := RZ3.call b4; have hb4 := B3.trans (b4.mono B3.size); have z0 := R4.cell 0; have z1 := R4.cell 1; have z2 := R4.cell 2; have f0 := R4.free 0; have f1 := R4.free 1; have f2 := R4.free 2; have zl := R4.lt)
           obtain ⟨W9, hW⟩ : ∃ W9, (World.setCell (World.setCell (World.setCell w4 ⟨w.heap.size + 1, 0, none⟩ (.int .i64 0)) ⟨w.heap.size + 1, 1, none⟩ (.int .i64 (-1))) ⟨w.heap.size + 1, 2, none⟩ (.string ⟨#[]⟩)) = W9 := ⟨_, rfl⟩
           have R9 : IsRow W9 (w.heap.size + 1) 23 #[.int .i64 0, .int .i64 (-1), .string ⟨#[]⟩] := by
             rw [← hW]
             exact (((R4.set 0 (.int .i64 0)).set 1 (.int .i64 (-1))).set 2 (.string ⟨#[]⟩))
           have B9 : Below w.heap.size w W9 := by
             rw [← hW]
             exact (((hb4.setCell (p := ⟨w.heap.size + 1, 0, none⟩) (by show _ ≤ w.heap.size + 1; omega) (.int .i64 0)).setCell (p := ⟨w.heap.size + 1, 1, none⟩) (by show _ ≤ w.heap.size + 1; omega) (.int .i64 (-1))).setCell (p := ⟨w.heap.size + 1, 2, none⟩) (by show _ ≤ w.heap.size + 1; omega) (.string ⟨#[]⟩))
           rw [hW]
           clear z0 z1 z2 f0 f1 f2 zl
           have y0 := R9.cell 0
           have y1 := R9.cell 1
           have y2 := R9.cell 2
           refine bodyPost_ret (v := .tuple #[.agg #[.int .i64 0, .int .i64 (-1), .string ⟨#[]⟩], .int .i64 3]) (by simp [results, Try.results17, go_sem, y0, y1, y2]; done) rfl ?_
           exact ⟨by first | rfl | (simp [newL]; done), B9⟩)
        | (obtain ⟨W3, hW3⟩ : ∃ W, w2.alloc (.cells #[.int .i64 0, .int .i64 0] 54) = W := ⟨_, rfl⟩
           rw [hW3]
           have RZ3 : IsRow W3 (w.heap.size + 1) 23 #[.int .i64 0, .int .i64 0, .string ⟨#[]⟩] := by rw [← hW3]; exact RZ2.alloc _
           have B3 : Below w.heap.size w W3 := by rw [← hW3]; exact B1.trans ((bb.alloc bb.size _).mono B1.size)
           clear hW3 hk hk2
           go_wp2_with (go_at_call 21; refine (new_any _).mono ?_; rintro e w4 ⟨rfl, b4⟩; have R4 := RZ3.call b4; have hb4 := B3.trans (b4.mono B3.size); have z0 := R4.cell 0; have z1 := R4.cell 1; have z2 := R4.cell 2; have f0 := R4.free 0; have f1 := R4.free 1; have f2 := R4.free 2; have zl := R4.lt)
           obtain ⟨W9, hW⟩ : ∃ W9, (World.setCell (World.setCell (World.setCell w4 ⟨w.heap.size + 1, 0, none⟩ (.int .i64 0)) ⟨w.heap.size + 1, 1, none⟩ (.int .i64 (-1))) ⟨w.heap.size + 1, 2, none⟩ (.string ⟨#[]⟩)) = W9 := ⟨_, rfl⟩
           have R9 : IsRow W9 (w.heap.size + 1) 23 #[.int .i64 0, .int .i64 (-1), .string ⟨#[]⟩] := by
             rw [← hW]
             exact (((R4.set 0 (.int .i64 0)).set 1 (.int .i64 (-1))).set 2 (.string ⟨#[]⟩))
           have B9 : Below w.heap.size w W9 := by
             rw [← hW]
             exact (((hb4.setCell (p := ⟨w.heap.size + 1, 0, none⟩) (by show _ ≤ w.heap.size + 1; omega) (.int .i64 0)).setCell (p := ⟨w.heap.size + 1, 1, none⟩) (by show _ ≤ w.heap.size + 1; omega) (.int .i64 (-1))).setCell (p := ⟨w.heap.size + 1, 2, none⟩) (by show _ ≤ w.heap.size + 1; omega) (.string ⟨#[]⟩))
           rw [hW]
           clear z0 z1 z2 f0 f1 f2 zl
           have y0 := R9.cell 0
           have y1 := R9.cell 1
           have y2 := R9.cell 2
           refine bodyPost_ret (v := .tuple #[.agg #[.int .i64 0, .int .i64 (-1), .string ⟨#[]⟩], .int .i64 3]) (by simp [results, Try.results17, go_sem, y0, y1, y2]; done) rfl ?_
           exact ⟨by first | rfl | (simp [newL]; done), B9⟩))
  have n3 : (ph != 3) = true := bne_iff_ne.2 g3
  have m3 : (ph == 3) = false := beq_eq_false_iff_ne.2 g3
  by_cases g5 : ph = 5
  · subst g5
    by_cases c2 : code = 230
    · subst c2
      obtain ⟨rfl, rfl⟩ : r = ⟨6, te, us⟩ ∧ k = 4 := by
        have e := h.symm
        simp [hearL] at e
        exact e
      clear h
      have HW := Lib.hid (fun W => waits_any 5 W)
      rw [decide_eq_true (by omega : (5 : Int) = 2 ∨ (5 : Int) = 3 ∨ (5 : Int) = 5)] at HW
      go_enter Try.func17, Try.ntmps17
      go_wp2_with (go_at_call 30; refine (HW.out _).mono ?_; rintro e w2 ⟨rfl, h2⟩; obtain rfl := h2; clear HW)
      obtain ⟨w1, e1, RL1, RZ1, B1⟩ : ∃ W, (w.alloc (.cells #[.int .i64 5, .int .i64 te, .string ⟨us.toArray⟩] 23)).alloc (.cells #[.int .i64 0, .int .i64 0, .string ⟨#[]⟩] 23) = W ∧ IsRow W w.heap.size 23 #[.int .i64 5, .int .i64 te, .string ⟨us.toArray⟩] ∧ IsRow W (w.heap.size + 1) 23 #[.int .i64 0, .int .i64 0, .string ⟨#[]⟩] ∧ Below w.heap.size w W := ⟨_, rfl, (IsRow.made w _ _).alloc _, by have := IsRow.made (w.alloc (.cells #[.int .i64 5, .int .i64 te, .string ⟨us.toArray⟩] 23)) 23 #[.int .i64 0, .int .i64 0, .string ⟨#[]⟩]; simp only [World.size_alloc] at this; exact this, ((Below.refl _ _).alloc (Nat.le_refl _) _).alloc (by simp) _⟩
      rw [e1]
      clear e1
      have c0 := RL1.cell 0
      have hlt1 := RZ1.lt
      have hn7 : w1.heap.size ≠ w.heap.size := by omega
      go_region_held (fun w' => w'.cell? ⟨w.heap.size, 0, none⟩ = some (.int .i64 5)) (first | go_keep | exact K2) (first
        | (go_at_call 31; refine (steps_at _).mono ?_; rintro e w2 ⟨bt, rfl, T2, b2⟩; have bA : Below (w1.drew.alloc (.cells #[.int .i64 0, .int .i64 0] 54)).heap.size (w1.drew.alloc (.cells #[.int .i64 0, .int .i64 0] 54)) w2 := b2; have bb := ((show Below w1.heap.size w1 w1.drew from ⟨rfl, rfl, rfl, Nat.le_refl _, fun _ _ => rfl⟩).alloc (Nat.le_refl _) (.cells #[.int .i64 0, .int .i64 0] 54)).trans (bA.mono (by simp)); have RS2 := (show IsRow (w1.drew.alloc (.cells #[.int .i64 0, .int .i64 0] 54)) w1.heap.size 54 #[.int .i64 0, .int .i64 0] from IsRow.made w1.drew _ _).call bA; have RL2 := RL1.call bb; have RZ2 := RZ1.call bb; have K2 := RL2.cell 0; have hk : (Instr.lookup MT (.map (some bt)) (pairV 5 230) true).run Try.prog w2 = .ok (.tuple #[pairV 6 4, .bool true]) w2 := look_hit T2 4 (by decide); have s0 := RS2.cell 0; have s1 := RS2.cell 1; have sf0 := RS2.free 0; have sf1 := RS2.free 1; have sl := RS2.lt)
        | (go_at_call 31; refine (steps_at _).mono ?_; rintro e w2 ⟨bt, rfl, T2, b2⟩; have bB : Below w1.drew.heap.size w1.drew w2 := b2; have bb := (show Below w1.heap.size w1 w1.drew from ⟨rfl, rfl, rfl, Nat.le_refl _, fun _ _ => rfl⟩).trans bB; have RL2 := RL1.call bb; have RZ2 := RZ1.call bb; have K2 := RL2.cell 0; have hk : (Instr.lookup MT (.map (some bt)) (pairV 5 230) true).run Try.prog w2 = .ok (.tuple #[pairV 6 4, .bool true]) w2 := look_hit T2 4 (by decide); have hk2 : (Instr.lookup MT (.map (some bt)) (pairV 5 230) true).run Try.prog (w2.alloc (.cells #[.int .i64 0, .int .i64 0] 54)) = .ok (.tuple #[pairV 6 4, .bool true]) (w2.alloc (.cells #[.int .i64 0, .int .i64 0] 54)) := look_hit (T2.alloc (.cells #[.int .i64 0, .int .i64 0] 54)) 4 (by decide); have hn6 : w2.heap.size ≠ w.heap.size := (by have := bb.size; omega)))
      all_goals (
        first
        | (obtain ⟨W3, hW3⟩ : ∃ W, World.setCell (World.setCell w2 ⟨w1.heap.size, 0, none⟩ (.int .i64 6)) ⟨w1.heap.size, 1, none⟩ (.int .i64 4) = W := ⟨_, rfl⟩
           rw [hW3]
           have RZ3 : IsRow W3 (w.heap.size + 1) 23 #[.int .i64 0, .int .i64 0, .string ⟨#[]⟩] := by rw [← hW3]; exact (RZ2.other (by show w.heap.size + 1 ≠ w1.heap.size; omega) _).other (by show w.heap.size + 1 ≠ w1.heap.size; omega) _
           have RL3 : IsRow W3 w.heap.size 23 #[.int .i64 5, .int .i64 te, .string ⟨us.toArray⟩] := by rw [← hW3]; exact (RL2.other (by show w.heap.size ≠ w1.heap.size; omega) _).other (by show w.heap.size ≠ w1.heap.size; omega) _
           have B3 : Below w.heap.size w W3 := by rw [← hW3]; exact B1.trans (((bb.setCell (p := ⟨w1.heap.size, 0, none⟩) (by show _ ≤ w1.heap.size; omega) _).setCell (p := ⟨w1.heap.size, 1, none⟩) (by show _ ≤ w1.heap.size; omega) _).mono B1.size)
           have RS3 : IsRow W3 w1.heap.size 54 #[.int .i64 6, .int .i64 4] := by rw [← hW3]; exact (RS2.set 0 (.int .i64 6)).set 1 (.int .i64 4)
           clear hW3 s0 s1 sf0 sf1 sl hk
           have l0 := RL3.cell 0
           have l1 := RL3.cell 1
           have l2 := RL3.cell 2
           have p0 := RS3.cell 0
           have p1 := RS3.cell 1
           have hn9 : w.heap.size + 1 ≠ w1.heap.size := by have := bb.size; omega
           have hn8 : w.heap.size + 1 ≠ w.heap.size := by omega
           go_wp2_with fail
           go_region_held (fun w' => w'.cell? ⟨w.heap.size, 0, none⟩ = some (.int .i64 5) ∧ w'.cell? ⟨w.heap.size, 1, none⟩ = some (.int .i64 te) ∧ w'.cell? ⟨w.heap.size, 2, none⟩ = some (.string ⟨us.toArray⟩) ∧ w'.cell? ⟨w1.heap.size, 0, none⟩ = some (.int .i64 6) ∧ w'.cell? ⟨w1.heap.size, 1, none⟩ = some (.int .i64 4)) (first | go_keep | exact K4) ((go_at_call 29; refine (phase_any 5 te 6 us _).mono ?_; rintro e w4 ⟨rfl, b4⟩; have bb4 : Below W3.heap.size W3 w4 := (show Below W3.heap.size W3 W3.drew from ⟨rfl, rfl, rfl, Nat.le_refl _, fun _ _ => rfl⟩).trans b4; have RL4 := RL3.call bb4; have RS4 := RS3.call bb4; have R4 := RZ3.call bb4; have hb4 := B3.trans (bb4.mono B3.size); have K4 := (⟨RL4.cell 0, RL4.cell 1, RL4.cell 2, RS4.cell 0, RS4.cell 1⟩ : w4.cell? ⟨w.heap.size, 0, none⟩ = some (.int .i64 5) ∧ w4.cell? ⟨w.heap.size, 1, none⟩ = some (.int .i64 te) ∧ w4.cell? ⟨w.heap.size, 2, none⟩ = some (.string ⟨us.toArray⟩) ∧ w4.cell? ⟨w1.heap.size, 0, none⟩ = some (.int .i64 6) ∧ w4.cell? ⟨w1.heap.size, 1, none⟩ = some (.int .i64 4)); have z0 := R4.cell 0; have z1 := R4.cell 1; have z2 := R4.cell 2; have f0 := R4.free 0; have f1 := R4.free 1; have f2 := R4.free 2; have zl := R4.lt))
           all_goals (
             obtain ⟨W9, hW⟩ : ∃ W9, (World.setCell (World.setCell (World.setCell w4 ⟨w.heap.size + 1, 0, none⟩ (.int .i64 6)) ⟨w.heap.size + 1, 1, none⟩ (.int .i64 te)) ⟨w.heap.size + 1, 2, none⟩ (.string ⟨us.toArray⟩)) = W9 := ⟨_, rfl⟩
             have R9 : IsRow W9 (w.heap.size + 1) 23 #[.int .i64 6, .int .i64 te, .string ⟨us.toArray⟩] := by
               rw [← hW]
               exact (((R4.set 0 (.int .i64 6)).set 1 (.int .i64 te)).set 2 (.string ⟨us.toArray⟩))
             have B9 : Below w.heap.size w W9 := by
               rw [← hW]
               exact (((hb4.setCell (p := ⟨w.heap.size + 1, 0, none⟩) (by show _ ≤ w.heap.size + 1; omega) (.int .i64 6)).setCell (p := ⟨w.heap.size + 1, 1, none⟩) (by show _ ≤ w.heap.size + 1; omega) (.int .i64 te)).setCell (p := ⟨w.heap.size + 1, 2, none⟩) (by show _ ≤ w.heap.size + 1; omega) (.string ⟨us.toArray⟩))
             rw [hW]
             clear z0 z1 z2 f0 f1 f2 zl
             have y0 := R9.cell 0
             have y1 := R9.cell 1
             have y2 := R9.cell 2
             go_wp2_with fail
             refine bodyPost_ret (v := .tuple #[.agg #[.int .i64 6, .int .i64 te, .string ⟨us.toArray⟩], .int .i64 4]) (by simp [results, Try.results17, go_sem, y0, y1, y2]; done) rfl ?_
             exact ⟨by first | rfl | (simp [newL]; done), B9⟩))
        | (obtain ⟨W3, hW3⟩ : ∃ W, w2.alloc (.cells #[.int .i64 6, .int .i64 4] 54) = W := ⟨_, rfl⟩
           rw [hW3]
           have RZ3 : IsRow W3 (w.heap.size + 1) 23 #[.int .i64 0, .int .i64 0, .string ⟨#[]⟩] := by rw [← hW3]; exact RZ2.alloc _
           have RL3 : IsRow W3 w.heap.size 23 #[.int .i64 5, .int .i64 te, .string ⟨us.toArray⟩] := by rw [← hW3]; exact RL2.alloc _
           have B3 : Below w.heap.size w W3 := by rw [← hW3]; exact B1.trans ((bb.alloc bb.size _).mono B1.size)
           have RS3 : IsRow W3 w2.heap.size 54 #[.int .i64 6, .int .i64 4] := by rw [← hW3]; exact IsRow.made _ _ _
           clear hW3 hk hk2
           have l0 := RL3.cell 0
           have l1 := RL3.cell 1
           have l2 := RL3.cell 2
           have p0 := RS3.cell 0
           have p1 := RS3.cell 1
           have hn9 : w.heap.size + 1 ≠ w2.heap.size := by have := bb.size; omega
           have hn8 : w.heap.size + 1 ≠ w.heap.size := by omega
           go_wp2_with fail
           go_region_held (fun w' => w'.cell? ⟨w.heap.size, 0, none⟩ = some (.int .i64 5) ∧ w'.cell? ⟨w.heap.size, 1, none⟩ = some (.int .i64 te) ∧ w'.cell? ⟨w.heap.size, 2, none⟩ = some (.string ⟨us.toArray⟩) ∧ w'.cell? ⟨w2.heap.size, 0, none⟩ = some (.int .i64 6) ∧ w'.cell? ⟨w2.heap.size, 1, none⟩ = some (.int .i64 4)) (first | go_keep | exact K4) ((go_at_call 29; refine (phase_any 5 te 6 us _).mono ?_; rintro e w4 ⟨rfl, b4⟩; have bb4 : Below W3.heap.size W3 w4 := (show Below W3.heap.size W3 W3.drew from ⟨rfl, rfl, rfl, Nat.le_refl _, fun _ _ => rfl⟩).trans b4; have RL4 := RL3.call bb4; have RS4 := RS3.call bb4; have R4 := RZ3.call bb4; have hb4 := B3.trans (bb4.mono B3.size); have K4 := (⟨RL4.cell 0, RL4.cell 1, RL4.cell 2, RS4.cell 0, RS4.cell 1⟩ : w4.cell? ⟨w.heap.size, 0, none⟩ = some (.int .i64 5) ∧ w4.cell? ⟨w.heap.size, 1, none⟩ = some (.int .i64 te) ∧ w4.cell? ⟨w.heap.size, 2, none⟩ = some (.string ⟨us.toArray⟩) ∧ w4.cell? ⟨w2.heap.size, 0, none⟩ = some (.int .i64 6) ∧ w4.cell? ⟨w2.heap.size, 1, none⟩ = some (.int .i64 4)); have z0 := R4.cell 0; have z1 := R4.cell 1; have z2 := R4.cell 2; have f0 := R4.free 0; have f1 := R4.free 1; have f2 := R4.free 2; have zl := R4.lt))
           all_goals (
             obtain ⟨W9, hW⟩ : ∃ W9, (World.setCell (World.setCell (World.setCell w4 ⟨w.heap.size + 1, 0, none⟩ (.int .i64 6)) ⟨w.heap.size + 1, 1, none⟩ (.int .i64 te)) ⟨w.heap.size + 1, 2, none⟩ (.string ⟨us.toArray⟩)) = W9 := ⟨_, rfl⟩
             have R9 : IsRow W9 (w.heap.size + 1) 23 #[.int .i64 6, .int .i64 te, .string ⟨us.toArray⟩] := by
               rw [← hW]
               exact (((R4.set 0 (.int .i64 6)).set 1 (.int .i64 te)).set 2 (.string ⟨us.toArray⟩))
             have B9 : Below w.heap.size w W9 := by
               rw [← hW]
               exact (((hb4.setCell (p := ⟨w.heap.size + 1, 0, none⟩) (by show _ ≤ w.heap.size + 1; omega) (.int .i64 6)).setCell (p := ⟨w.heap.size + 1, 1, none⟩) (by show _ ≤ w.heap.size + 1; omega) (.int .i64 te)).setCell (p := ⟨w.heap.size + 1, 2, none⟩) (by show _ ≤ w.heap.size + 1; omega) (.string ⟨us.toArray⟩))
             rw [hW]
             clear z0 z1 z2 f0 f1 f2 zl
             have y0 := R9.cell 0
             have y1 := R9.cell 1
             have y2 := R9.cell 2
             go_wp2_with fail
             refine bodyPost_ret (v := .tuple #[.agg #[.int .i64 6, .int .i64 te, .string ⟨us.toArray⟩], .int .i64 4]) (by simp [results, Try.results17, go_sem, y0, y1, y2]; done) rfl ?_
             exact ⟨by first | rfl | (simp [newL]; done), B9⟩)))
    have d2 : (code == 230) = false := beq_eq_false_iff_ne.2 c2
    by_cases c3 : code = 232
    · subst c3
      obtain ⟨rfl, rfl⟩ : r = ⟨6, te, us⟩ ∧ k = 4 := by
        have e := h.symm
        simp [hearL] at e
        exact e
      clear h
      have HW := Lib.hid (fun W => waits_any 5 W)
      rw [decide_eq_true (by omega : (5 : Int) = 2 ∨ (5 : Int) = 3 ∨ (5 : Int) = 5)] at HW
      go_enter Try.func17, Try.ntmps17
      go_wp2_with (go_at_call 30; refine (HW.out _).mono ?_; rintro e w2 ⟨rfl, h2⟩; obtain rfl := h2; clear HW)
      obtain ⟨w1, e1, RL1, RZ1, B1⟩ : ∃ W, (w.alloc (.cells #[.int .i64 5, .int .i64 te, .string ⟨us.toArray⟩] 23)).alloc (.cells #[.int .i64 0, .int .i64 0, .string ⟨#[]⟩] 23) = W ∧ IsRow W w.heap.size 23 #[.int .i64 5, .int .i64 te, .string ⟨us.toArray⟩] ∧ IsRow W (w.heap.size + 1) 23 #[.int .i64 0, .int .i64 0, .string ⟨#[]⟩] ∧ Below w.heap.size w W := ⟨_, rfl, (IsRow.made w _ _).alloc _, by have := IsRow.made (w.alloc (.cells #[.int .i64 5, .int .i64 te, .string ⟨us.toArray⟩] 23)) 23 #[.int .i64 0, .int .i64 0, .string ⟨#[]⟩]; simp only [World.size_alloc] at this; exact this, ((Below.refl _ _).alloc (Nat.le_refl _) _).alloc (by simp) _⟩
      rw [e1]
      clear e1
      have c0 := RL1.cell 0
      have hlt1 := RZ1.lt
      have hn7 : w1.heap.size ≠ w.heap.size := by omega
      go_region_held (fun w' => w'.cell? ⟨w.heap.size, 0, none⟩ = some (.int .i64 5)) (first | go_keep | exact K2) (first
        | (go_at_call 31; refine (steps_at _).mono ?_; rintro e w2 ⟨bt, rfl, T2, b2⟩; have bA : Below (w1.drew.alloc (.cells #[.int .i64 0, .int .i64 0] 54)).heap.size (w1.drew.alloc (.cells #[.int .i64 0, .int .i64 0] 54)) w2 := b2; have bb := ((show Below w1.heap.size w1 w1.drew from ⟨rfl, rfl, rfl, Nat.le_refl _, fun _ _ => rfl⟩).alloc (Nat.le_refl _) (.cells #[.int .i64 0, .int .i64 0] 54)).trans (bA.mono (by simp)); have RS2 := (show IsRow (w1.drew.alloc (.cells #[.int .i64 0, .int .i64 0] 54)) w1.heap.size 54 #[.int .i64 0, .int .i64 0] from IsRow.made w1.drew _ _).call bA; have RL2 := RL1.call bb; have RZ2 := RZ1.call bb; have K2 := RL2.cell 0; have hk : (Instr.lookup MT (.map (some bt)) (pairV 5 232) true).run Try.prog w2 = .ok (.tuple #[pairV 6 4, .bool true]) w2 := look_hit T2 5 (by decide); have s0 := RS2.cell 0; have s1 := RS2.cell 1; have sf0 := RS2.free 0; have sf1 := RS2.free 1; have sl := RS2.lt)
        | (go_at_call 31; refine (steps_at _).mono ?_; rintro e w2 ⟨bt, rfl, T2, b2⟩; have bB : Below w1.drew.heap.size w1.drew w2 := b2; have bb := (show Below w1.heap.size w1 w1.drew from ⟨rfl, rfl, rfl, Nat.le_refl _, fun _ _ => rfl⟩).trans bB; have RL2 := RL1.call bb; have RZ2 := RZ1.call bb; have K2 := RL2.cell 0; have hk : (Instr.lookup MT (.map (some bt)) (pairV 5 232) true).run Try.prog w2 = .ok (.tuple #[pairV 6 4, .bool true]) w2 := look_hit T2 5 (by decide); have hk2 : (Instr.lookup MT (.map (some bt)) (pairV 5 232) true).run Try.prog (w2.alloc (.cells #[.int .i64 0, .int .i64 0] 54)) = .ok (.tuple #[pairV 6 4, .bool true]) (w2.alloc (.cells #[.int .i64 0, .int .i64 0] 54)) := look_hit (T2.alloc (.cells #[.int .i64 0, .int .i64 0] 54)) 5 (by decide); have hn6 : w2.heap.size ≠ w.heap.size := (by have := bb.size; omega)))
      all_goals (
        first
        | (obtain ⟨W3, hW3⟩ : ∃ W, World.setCell (World.setCell w2 ⟨w1.heap.size, 0, none⟩ (.int .i64 6)) ⟨w1.heap.size, 1, none⟩ (.int .i64 4) = W := ⟨_, rfl⟩
           rw [hW3]
           have RZ3 : IsRow W3 (w.heap.size + 1) 23 #[.int .i64 0, .int .i64 0, .string ⟨#[]⟩] := by rw [← hW3]; exact (RZ2.other (by show w.heap.size + 1 ≠ w1.heap.size; omega) _).other (by show w.heap.size + 1 ≠ w1.heap.size; omega) _
           have RL3 : IsRow W3 w.heap.size 23 #[.int .i64 5, .int .i64 te, .string ⟨us.toArray⟩] := by rw [← hW3]; exact (RL2.other (by show w.heap.size ≠ w1.heap.size; omega) _).other (by show w.heap.size ≠ w1.heap.size; omega) _
           have B3 : Below w.heap.size w W3 := by rw [← hW3]; exact B1.trans (((bb.setCell (p := ⟨w1.heap.size, 0, none⟩) (by show _ ≤ w1.heap.size; omega) _).setCell (p := ⟨w1.heap.size, 1, none⟩) (by show _ ≤ w1.heap.size; omega) _).mono B1.size)
           have RS3 : IsRow W3 w1.heap.size 54 #[.int .i64 6, .int .i64 4] := by rw [← hW3]; exact (RS2.set 0 (.int .i64 6)).set 1 (.int .i64 4)
           clear hW3 s0 s1 sf0 sf1 sl hk
           have l0 := RL3.cell 0
           have l1 := RL3.cell 1
           have l2 := RL3.cell 2
           have p0 := RS3.cell 0
           have p1 := RS3.cell 1
           have hn9 : w.heap.size + 1 ≠ w1.heap.size := by have := bb.size; omega
           have hn8 : w.heap.size + 1 ≠ w.heap.size := by omega
           go_wp2_with fail
           go_region_held (fun w' => w'.cell? ⟨w.heap.size, 0, none⟩ = some (.int .i64 5) ∧ w'.cell? ⟨w.heap.size, 1, none⟩ = some (.int .i64 te) ∧ w'.cell? ⟨w.heap.size, 2, none⟩ = some (.string ⟨us.toArray⟩) ∧ w'.cell? ⟨w1.heap.size, 0, none⟩ = some (.int .i64 6) ∧ w'.cell? ⟨w1.heap.size, 1, none⟩ = some (.int .i64 4)) (first | go_keep | exact K4) ((go_at_call 29; refine (phase_any 5 te 6 us _).mono ?_; rintro e w4 ⟨rfl, b4⟩; have bb4 : Below W3.heap.size W3 w4 := (show Below W3.heap.size W3 W3.drew from ⟨rfl, rfl, rfl, Nat.le_refl _, fun _ _ => rfl⟩).trans b4; have RL4 := RL3.call bb4; have RS4 := RS3.call bb4; have R4 := RZ3.call bb4; have hb4 := B3.trans (bb4.mono B3.size); have K4 := (⟨RL4.cell 0, RL4.cell 1, RL4.cell 2, RS4.cell 0, RS4.cell 1⟩ : w4.cell? ⟨w.heap.size, 0, none⟩ = some (.int .i64 5) ∧ w4.cell? ⟨w.heap.size, 1, none⟩ = some (.int .i64 te) ∧ w4.cell? ⟨w.heap.size, 2, none⟩ = some (.string ⟨us.toArray⟩) ∧ w4.cell? ⟨w1.heap.size, 0, none⟩ = some (.int .i64 6) ∧ w4.cell? ⟨w1.heap.size, 1, none⟩ = some (.int .i64 4)); have z0 := R4.cell 0; have z1 := R4.cell 1; have z2 := R4.cell 2; have f0 := R4.free 0; have f1 := R4.free 1; have f2 := R4.free 2; have zl := R4.lt))
           all_goals (
             obtain ⟨W9, hW⟩ : ∃ W9, (World.setCell (World.setCell (World.setCell w4 ⟨w.heap.size + 1, 0, none⟩ (.int .i64 6)) ⟨w.heap.size + 1, 1, none⟩ (.int .i64 te)) ⟨w.heap.size + 1, 2, none⟩ (.string ⟨us.toArray⟩)) = W9 := ⟨_, rfl⟩
             have R9 : IsRow W9 (w.heap.size + 1) 23 #[.int .i64 6, .int .i64 te, .string ⟨us.toArray⟩] := by
               rw [← hW]
               exact (((R4.set 0 (.int .i64 6)).set 1 (.int .i64 te)).set 2 (.string ⟨us.toArray⟩))
             have B9 : Below w.heap.size w W9 := by
               rw [← hW]
               exact (((hb4.setCell (p := ⟨w.heap.size + 1, 0, none⟩) (by show _ ≤ w.heap.size + 1; omega) (.int .i64 6)).setCell (p := ⟨w.heap.size + 1, 1, none⟩) (by show _ ≤ w.heap.size + 1; omega) (.int .i64 te)).setCell (p := ⟨w.heap.size + 1, 2, none⟩) (by show _ ≤ w.heap.size + 1; omega) (.string ⟨us.toArray⟩))
             rw [hW]
             clear z0 z1 z2 f0 f1 f2 zl
             have y0 := R9.cell 0
             have y1 := R9.cell 1
             have y2 := R9.cell 2
             go_wp2_with fail
             refine bodyPost_ret (v := .tuple #[.agg #[.int .i64 6, .int .i64 te, .string ⟨us.toArray⟩], .int .i64 4]) (by simp [results, Try.results17, go_sem, y0, y1, y2]; done) rfl ?_
             exact ⟨by first | rfl | (simp [newL]; done), B9⟩))
        | (obtain ⟨W3, hW3⟩ : ∃ W, w2.alloc (.cells #[.int .i64 6, .int .i64 4] 54) = W := ⟨_, rfl⟩
           rw [hW3]
           have RZ3 : IsRow W3 (w.heap.size + 1) 23 #[.int .i64 0, .int .i64 0, .string ⟨#[]⟩] := by rw [← hW3]; exact RZ2.alloc _
           have RL3 : IsRow W3 w.heap.size 23 #[.int .i64 5, .int .i64 te, .string ⟨us.toArray⟩] := by rw [← hW3]; exact RL2.alloc _
           have B3 : Below w.heap.size w W3 := by rw [← hW3]; exact B1.trans ((bb.alloc bb.size _).mono B1.size)
           have RS3 : IsRow W3 w2.heap.size 54 #[.int .i64 6, .int .i64 4] := by rw [← hW3]; exact IsRow.made _ _ _
           clear hW3 hk hk2
           have l0 := RL3.cell 0
           have l1 := RL3.cell 1
           have l2 := RL3.cell 2
           have p0 := RS3.cell 0
           have p1 := RS3.cell 1
           have hn9 : w.heap.size + 1 ≠ w2.heap.size := by have := bb.size; omega
           have hn8 : w.heap.size + 1 ≠ w.heap.size := by omega
           go_wp2_with fail
           go_region_held (fun w' => w'.cell? ⟨w.heap.size, 0, none⟩ = some (.int .i64 5) ∧ w'.cell? ⟨w.heap.size, 1, none⟩ = some (.int .i64 te) ∧ w'.cell? ⟨w.heap.size, 2, none⟩ = some (.string ⟨us.toArray⟩) ∧ w'.cell? ⟨w2.heap.size, 0, none⟩ = some (.int .i64 6) ∧ w'.cell? ⟨w2.heap.size, 1, none⟩ = some (.int .i64 4)) (first | go_keep | exact K4) ((go_at_call 29; refine (phase_any 5 te 6 us _).mono ?_; rintro e w4 ⟨rfl, b4⟩; have bb4 : Below W3.heap.size W3 w4 := (show Below W3.heap.size W3 W3.drew from ⟨rfl, rfl, rfl, Nat.le_refl _, fun _ _ => rfl⟩).trans b4; have RL4 := RL3.call bb4; have RS4 := RS3.call bb4; have R4 := RZ3.call bb4; have hb4 := B3.trans (bb4.mono B3.size); have K4 := (⟨RL4.cell 0, RL4.cell 1, RL4.cell 2, RS4.cell 0, RS4.cell 1⟩ : w4.cell? ⟨w.heap.size, 0, none⟩ = some (.int .i64 5) ∧ w4.cell? ⟨w.heap.size, 1, none⟩ = some (.int .i64 te) ∧ w4.cell? ⟨w.heap.size, 2, none⟩ = some (.string ⟨us.toArray⟩) ∧ w4.cell? ⟨w2.heap.size, 0, none⟩ = some (.int .i64 6) ∧ w4.cell? ⟨w2.heap.size, 1, none⟩ = some (.int .i64 4)); have z0 := R4.cell 0; have z1 := R4.cell 1; have z2 := R4.cell 2; have f0 := R4.free 0; have f1 := R4.free 1; have f2 := R4.free 2; have zl := R4.lt))
           all_goals (
             obtain ⟨W9, hW⟩ : ∃ W9, (World.setCell (World.setCell (World.setCell w4 ⟨w.heap.size + 1, 0, none⟩ (.int .i64 6)) ⟨w.heap.size + 1, 1, none⟩ (.int .i64 te)) ⟨w.heap.size + 1, 2, none⟩ (.string ⟨us.toArray⟩)) = W9 := ⟨_, rfl⟩
             have R9 : IsRow W9 (w.heap.size + 1) 23 #[.int .i64 6, .int .i64 te, .string ⟨us.toArray⟩] := by
               rw [← hW]
               exact (((R4.set 0 (.int .i64 6)).set 1 (.int .i64 te)).set 2 (.string ⟨us.toArray⟩))
             have B9 : Below w.heap.size w W9 := by
               rw [← hW]
               exact (((hb4.setCell (p := ⟨w.heap.size + 1, 0, none⟩) (by show _ ≤ w.heap.size + 1; omega) (.int .i64 6)).setCell (p := ⟨w.heap.size + 1, 1, none⟩) (by show _ ≤ w.heap.size + 1; omega) (.int .i64 te)).setCell (p := ⟨w.heap.size + 1, 2, none⟩) (by show _ ≤ w.heap.size + 1; omega) (.string ⟨us.toArray⟩))
             rw [hW]
             clear z0 z1 z2 f0 f1 f2 zl
             have y0 := R9.cell 0
             have y1 := R9.cell 1
             have y2 := R9.cell 2
             go_wp2_with fail
             refine bodyPost_ret (v := .tuple #[.agg #[.int .i64 6, .int .i64 te, .string ⟨us.toArray⟩], .int .i64 4]) (by simp [results, Try.results17, go_sem, y0, y1, y2]; done) rfl ?_
             exact ⟨by first | rfl | (simp [newL]; done), B9⟩)))
    have d3 : (code == 232) = false := beq_eq_false_iff_ne.2 c3
    obtain ⟨rfl, rfl⟩ : r = newL ∧ k = 3 := by
      have e := h.symm
      simp [hearL, g0, c2, c3] at e
      exact e
    clear h
    have HMISS := Lib.hid (fun (w : World) (b : Nat) (h : Tab w b) => look_miss (p := 5) (c := code) h (by omega) z0 z1 (by
      intro j hj
      match j, hj with
      | 0, _ => rintro ⟨e1, e2⟩; first | (exact absurd e1 (by decide)) | (exact c1 e2)
      | 1, _ => rintro ⟨e1, e2⟩; first | (exact absurd e1 (by decide)) | (exact c1 e2)
      | 2, _ => rintro ⟨e1, e2⟩; first | (exact absurd e1 (by decide)) | (exact c2 e2)
      | 3, _ => rintro ⟨e1, e2⟩; first | (exact absurd e1 (by decide)) | (exact c3 e2)
      | 4, _ => rintro ⟨e1, e2⟩; first | (exact absurd e1 (by decide)) | (exact c2 e2)
      | 5, _ => rintro ⟨e1, e2⟩; first | (exact absurd e1 (by decide)) | (exact c3 e2)
    ))
    have HW := Lib.hid (fun W => waits_any 5 W)
    rw [decide_eq_true (by omega : (5 : Int) = 2 ∨ (5 : Int) = 3 ∨ (5 : Int) = 5)] at HW
    clear z0 z1
    go_enter Try.func17, Try.ntmps17
    go_wp2_with (go_at_call 30; refine (HW.out _).mono ?_; rintro e w2 ⟨rfl, h2⟩; obtain rfl := h2; clear HW)
    obtain ⟨w1, e1, RL1, RZ1, B1⟩ : ∃ W, (w.alloc (.cells #[.int .i64 5, .int .i64 te, .string ⟨us.toArray⟩] 23)).alloc (.cells #[.int .i64 0, .int .i64 0, .string ⟨#[]⟩] 23) = W ∧ IsRow W w.heap.size 23 #[.int .i64 5, .int .i64 te, .string ⟨us.toArray⟩] ∧ IsRow W (w.heap.size + 1) 23 #[.int .i64 0, .int .i64 0, .string ⟨#[]⟩] ∧ Below w.heap.size w W := ⟨_, rfl, (IsRow.made w _ _).alloc _, by have := IsRow.made (w.alloc (.cells #[.int .i64 5, .int .i64 te, .string ⟨us.toArray⟩] 23)) 23 #[.int .i64 0, .int .i64 0, .string ⟨#[]⟩]; simp only [World.size_alloc] at this; exact this, ((Below.refl _ _).alloc (Nat.le_refl _) _).alloc (by simp) _⟩
    rw [e1]
    clear e1
    have c0 := RL1.cell 0
    have hlt1 := RZ1.lt
    have hn7 : w1.heap.size ≠ w.heap.size := by omega
    go_region_held (fun w' => w'.cell? ⟨w.heap.size, 0, none⟩ = some (.int .i64 5)) (first | go_keep | exact K2) (first
      | (go_at_call 31; refine (steps_at _).mono ?_; rintro e w2 ⟨bt, rfl, T2, b2⟩; have bA : Below (w1.drew.alloc (.cells #[.int .i64 0, .int .i64 0] 54)).heap.size (w1.drew.alloc (.cells #[.int .i64 0, .int .i64 0] 54)) w2 := b2; have bb := ((show Below w1.heap.size w1 w1.drew from ⟨rfl, rfl, rfl, Nat.le_refl _, fun _ _ => rfl⟩).alloc (Nat.le_refl _) (.cells #[.int .i64 0, .int .i64 0] 54)).trans (bA.mono (by simp)); have RS2 := (show IsRow (w1.drew.alloc (.cells #[.int .i64 0, .int .i64 0] 54)) w1.heap.size 54 #[.int .i64 0, .int .i64 0] from IsRow.made w1.drew _ _).call bA; have RL2 := RL1.call bb; have RZ2 := RZ1.call bb; have K2 := RL2.cell 0; have hk := HMISS.out _ _ T2; have s0 := RS2.cell 0; have s1 := RS2.cell 1; have sf0 := RS2.free 0; have sf1 := RS2.free 1; have sl := RS2.lt)
      | (go_at_call 31; refine (steps_at _).mono ?_; rintro e w2 ⟨bt, rfl, T2, b2⟩; have bB : Below w1.drew.heap.size w1.drew w2 := b2; have bb := (show Below w1.heap.size w1 w1.drew from ⟨rfl, rfl, rfl, Nat.le_refl _, fun _ _ => rfl⟩).trans bB; have RL2 := RL1.call bb; have RZ2 := RZ1.call bb; have K2 := RL2.cell 0; have hk := HMISS.out _ _ T2; have hk2 := HMISS.out _ _ (T2.alloc (.cells #[.int .i64 0, .int .i64 0] 54)); have hn6 : w2.heap.size ≠ w.heap.size := (by have := bb.size; omega)))
    all_goals (
      first
      | (obtain ⟨W3, hW3⟩ : ∃ W, World.setCell (World.setCell w2 ⟨w1.heap.size, 0, none⟩ (.int .i64 0)) ⟨w1.heap.size, 1, none⟩ (.int .i64 0) = W := ⟨_, rfl⟩
         rw [hW3]
         have RZ3 : IsRow W3 (w.heap.size + 1) 23 #[.int .i64 0, .int .i64 0, .string ⟨#[]⟩] := by rw [← hW3]; exact (RZ2.other (by show w.heap.size + 1 ≠ w1.heap.size; omega) _).other (by show w.heap.size + 1 ≠ w1.heap.size; omega) _
         have B3 : Below w.heap.size w W3 := by rw [← hW3]; exact B1.trans (((bb.setCell (p := ⟨w1.heap.size, 0, none⟩) (by show _ ≤ w1.heap.size; omega) _).setCell (p := ⟨w1.heap.size, 1, none⟩) (by show _ ≤ w1.heap.size; omega) _).mono B1.size)
         clear hW3 s0 s1 sf0 sf1 sl hk
         go_wp2_with (go_at_call 21; refine (new_any _).mono ?_; rintro e w4 ⟨rfl, b4⟩; have R4 := RZ3.call b4; have hb4 := B3.trans (b4.mono B3.size); have z0 := R4.cell 0; have z1 := R4.cell 1; have z2 := R4.cell 2; have f0 := R4.free 0; have f1 := R4.free 1; have f2 := R4.free 2; have zl := R4.lt)
         obtain ⟨W9, hW⟩ : ∃ W9, (World.setCell (World.setCell (World.setCell w4 ⟨w.heap.size + 1, 0, none⟩ (.int .i64 0)) ⟨w.heap.size + 1, 1, none⟩ (.int .i64 (-1))) ⟨w.heap.size + 1, 2, none⟩ (.string ⟨#[]⟩)) = W9 := ⟨_, rfl⟩
         have R9 : IsRow W9 (w.heap.size + 1) 23 #[.int .i64 0, .int .i64 (-1), .string ⟨#[]⟩] := by
           rw [← hW]
           exact (((R4.set 0 (.int .i64 0)).set 1 (.int .i64 (-1))).set 2 (.string ⟨#[]⟩))
         have B9 : Below w.heap.size w W9 := by
           rw [← hW]
           exact (((hb4.setCell (p := ⟨w.heap.size + 1, 0, none⟩) (by show _ ≤ w.heap.size + 1; omega) (.int .i64 0)).setCell (p := ⟨w.heap.size + 1, 1, none⟩) (by show _ ≤ w.heap.size + 1; omega) (.int .i64 (-1))).setCell (p := ⟨w.heap.size + 1, 2, none⟩) (by show _ ≤ w.heap.size + 1; omega) (.string ⟨#[]⟩))
         rw [hW]
         clear z0 z1 z2 f0 f1 f2 zl
         have y0 := R9.cell 0
         have y1 := R9.cell 1
         have y2 := R9.cell 2
         refine bodyPost_ret (v := .tuple #[.agg #[.int .i64 0, .int .i64 (-1), .string ⟨#[]⟩], .int .i64 3]) (by simp [results, Try.results17, go_sem, y0, y1, y2]; done) rfl ?_
         exact ⟨by first | rfl | (simp [newL]; done), B9⟩)
      | (obtain ⟨W3, hW3⟩ : ∃ W, w2.alloc (.cells #[.int .i64 0, .int .i64 0] 54) = W := ⟨_, rfl⟩
         rw [hW3]
         have RZ3 : IsRow W3 (w.heap.size + 1) 23 #[.int .i64 0, .int .i64 0, .string ⟨#[]⟩] := by rw [← hW3]; exact RZ2.alloc _
         have B3 : Below w.heap.size w W3 := by rw [← hW3]; exact B1.trans ((bb.alloc bb.size _).mono B1.size)
         clear hW3 hk hk2
         go_wp2_with (go_at_call 21; refine (new_any _).mono ?_; rintro e w4 ⟨rfl, b4⟩; have R4 := RZ3.call b4; have hb4 := B3.trans (b4.mono B3.size); have z0 := R4.cell 0; have z1 := R4.cell 1; have z2 := R4.cell 2; have f0 := R4.free 0; have f1 := R4.free 1; have f2 := R4.free 2; have zl := R4.lt)
         obtain ⟨W9, hW⟩ : ∃ W9, (World.setCell (World.setCell (World.setCell w4 ⟨w.heap.size + 1, 0, none⟩ (.int .i64 0)) ⟨w.heap.size + 1, 1, none⟩ (.int .i64 (-1))) ⟨w.heap.size + 1, 2, none⟩ (.string ⟨#[]⟩)) = W9 := ⟨_, rfl⟩
         have R9 : IsRow W9 (w.heap.size + 1) 23 #[.int .i64 0, .int .i64 (-1), .string ⟨#[]⟩] := by
           rw [← hW]
           exact (((R4.set 0 (.int .i64 0)).set 1 (.int .i64 (-1))).set 2 (.string ⟨#[]⟩))
         have B9 : Below w.heap.size w W9 := by
           rw [← hW]
           exact (((hb4.setCell (p := ⟨w.heap.size + 1, 0, none⟩) (by show _ ≤ w.heap.size + 1; omega) (.int .i64 0)).setCell (p := ⟨w.heap.size + 1, 1, none⟩) (by show _ ≤ w.heap.size + 1; omega) (.int .i64 (-1))).setCell (p := ⟨w.heap.size + 1, 2, none⟩) (by show _ ≤ w.heap.size + 1; omega) (.string ⟨#[]⟩))
         rw [hW]
         clear z0 z1 z2 f0 f1 f2 zl
         have y0 := R9.cell 0
         have y1 := R9.cell 1
         have y2 := R9.cell 2
         refine bodyPost_ret (v := .tuple #[.agg #[.int .i64 0, .int .i64 (-1), .string ⟨#[]⟩], .int .i64 3]) (by simp [results, Try.results17, go_sem, y0, y1, y2]; done) rfl ?_
         exact ⟨by first | rfl | (simp [newL]; done), B9⟩))
  have n5 : (ph != 5) = true := bne_iff_ne.2 g5
  have m5 : (ph == 5) = false := beq_eq_false_iff_ne.2 g5
  obtain ⟨rfl, rfl⟩ : r = ⟨ph, te, us⟩ ∧ k = 0 := by
    have e := h.symm
    simp [hearL, g2, g3, g5] at e
    exact e
  clear h
  have HW := Lib.hid (fun W => waits_any ph W)
  rw [decide_eq_false (by omega : ¬ (ph = 2 ∨ ph = 3 ∨ ph = 5))] at HW
  go_enter Try.func17, Try.ntmps17
  go_wp2_with (go_at_call 30; refine (HW.out _).mono ?_; rintro e w2 ⟨rfl, h2⟩; obtain rfl := h2; clear HW)
  refine bodyPost_ret (v := .tuple #[.agg #[.int .i64 ph, .int .i64 te, .string ⟨us.toArray⟩], .int .i64 0]) (by simp [results, Try.results17, go_sem]; done) rfl ?_
  exact ⟨by first | rfl | (simp [newL]; done), ((Below.refl _ _).alloc (Nat.le_refl _) _).alloc (by simp) _⟩

#print axioms heard_of
end Go.Proofs.Ytkkajbnonfnbjaa.Lo
