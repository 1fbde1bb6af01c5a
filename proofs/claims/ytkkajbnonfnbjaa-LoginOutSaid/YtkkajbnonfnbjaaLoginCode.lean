/- The contracts of package login: New, inPhase, waits, Pass, Dialed, User, May, Heard (gen-login-code.py). -/
import Derived.Test.YtkkajbnonfnbjaaLoginMap
import Derived.Test.YtkkajbnonfnbjaaRouteCode
import Derived.BigQuiet
import Derived.Deep.QuietTactic
import Derived.Deep.RegionHeld
import Derived.Lib.QuietBelow
namespace Go.Proofs.Ytkkajbnonfnbjaa.Lo
open Go.Proofs.Ytkkajbnonfnbjaa Go.Proofs.Ytkkajbnonfnbjaa.Ro
open Go Go.ChangeShapes Go.WideShapes Go.ChangeAt Go.RowKit
set_option maxRecDepth 100000
set_option linter.unusedSimpArgs false
set_option linter.unusedVariables false
open Go.Sort
set_option maxHeartbeats 400000 in
theorem new_any (w : World) : Calls Try.prog 21 #[] w fun e w' => e = .returned (.agg #[.int .i64 0, .int .i64 (-1), .string ⟨#[]⟩]) ∧ Below w.heap.size w w' := by
  go_enter Try.func21, Try.ntmps21
  go_wp2_with fail
  refine bodyPost_ret (v := .agg #[.int .i64 0, .int .i64 (-1), .string ⟨#[]⟩]) (by simp [results, Try.results21, go_sem]; done) rfl ?_
  exact ⟨by first | rfl | (simp [newL]; done), (Below.refl _ _).alloc (Nat.le_refl _) _⟩
set_option maxHeartbeats 400000 in
theorem phase_any (ph te p : Int) (us : List UInt8) (w : World) : Calls Try.prog 29 #[.agg #[.int .i64 ph, .int .i64 te, .string ⟨us.toArray⟩], .int .i64 p] w fun e w' => e = .returned (.agg #[.int .i64 p, .int .i64 te, .string ⟨us.toArray⟩]) ∧ Below w.heap.size w w' := by
  go_enter Try.func29, Try.ntmps29
  go_wp2_with fail
  refine bodyPost_ret (v := .agg #[.int .i64 p, .int .i64 te, .string ⟨us.toArray⟩]) (by simp [results, Try.results29, go_sem]; done) rfl ?_
  exact ⟨by first | rfl | (simp [newL]; done), ((Below.refl _ _).alloc (Nat.le_refl _) _).alloc (by simp) _⟩
set_option maxHeartbeats 400000 in
theorem waits_any (ph : Int) (w : World) : Calls Try.prog 30 #[.int .i64 ph] w fun e w' => e = .returned (.bool (decide (ph = 2 ∨ ph = 3 ∨ ph = 5))) ∧ w = w' := by
  by_cases g2 : ph = 2
  · subst g2
    go_enter Try.func30, Try.ntmps30
    go_wp2_with fail
    go_ret
    exact ⟨rfl, rfl⟩
  have m2 : (ph == 2) = false := beq_eq_false_iff_ne.2 g2
  by_cases g3 : ph = 3
  · subst g3
    go_enter Try.func30, Try.ntmps30
    go_wp2_with fail
    go_ret
    exact ⟨rfl, rfl⟩
  have m3 : (ph == 3) = false := beq_eq_false_iff_ne.2 g3
  by_cases g5 : ph = 5
  · subst g5
    go_enter Try.func30, Try.ntmps30
    go_wp2_with fail
    go_ret
    exact ⟨rfl, rfl⟩
  have m5 : (ph == 5) = false := beq_eq_false_iff_ne.2 g5
  rw [decide_eq_false (by omega : ¬ (ph = 2 ∨ ph = 3 ∨ ph = 5))]
  go_enter Try.func30, Try.ntmps30
  go_wp2_with fail
  go_ret
  exact ⟨rfl, rfl⟩
set_option maxHeartbeats 1000000 in
theorem pass_of (q r : Lg) (k : Int) (h : passL q = (r, k)) (w : World) : Calls Try.prog 13 #[loginV q] w fun e w' => e = .returned (.tuple #[loginV r, .int .i64 k]) ∧ Below w.heap.size w w' := by
  obtain ⟨ph, te, us⟩ := q
  by_cases g : ph = 4
  · subst g
    have e : passL ⟨4, te, us⟩ = (⟨5, te, us⟩, 0) := rfl
    rw [e] at h
    injection h with h1 h2
    subst h1; subst h2
    clear e
    go_enter Try.func13, Try.ntmps13
    go_wp2_with (go_at_call 29; refine (phase_any 4 te 5 us _).mono ?_; rintro e w2 ⟨rfl, b2⟩; have R2 := (IsRow.made (w.alloc (.cells #[.int .i64 4, .int .i64 te, .string ⟨us.toArray⟩] 23)) 23 #[.int .i64 0, .int .i64 0, .string ⟨#[]⟩]).call b2; have hb2 := (((Below.refl _ _).alloc (Nat.le_refl _) _).alloc (by simp) _ : Below w.heap.size w ((w.alloc (.cells #[.int .i64 4, .int .i64 te, .string ⟨us.toArray⟩] 23)).alloc (.cells #[.int .i64 0, .int .i64 0, .string ⟨#[]⟩] 23))).trans (b2.mono (by simp; omega)); simp only [World.size_alloc] at R2; have z0 := R2.cell 0; have z1 := R2.cell 1; have z2 := R2.cell 2; have f0 := R2.free 0; have f1 := R2.free 1; have f2 := R2.free 2; have zl := R2.lt)
    obtain ⟨W9, hW⟩ : ∃ W9, (World.setCell (World.setCell (World.setCell w2 ⟨w.heap.size + 1, 0, none⟩ (.int .i64 5)) ⟨w.heap.size + 1, 1, none⟩ (.int .i64 te)) ⟨w.heap.size + 1, 2, none⟩ (.string ⟨us.toArray⟩)) = W9 := ⟨_, rfl⟩
    have R9 : IsRow W9 (w.heap.size + 1) 23 #[.int .i64 5, .int .i64 te, .string ⟨us.toArray⟩] := by
      rw [← hW]
      exact (((R2.set 0 (.int .i64 5)).set 1 (.int .i64 te)).set 2 (.string ⟨us.toArray⟩))
    have B9 : Below w.heap.size w W9 := by
      rw [← hW]
      exact (((hb2.setCell (p := ⟨w.heap.size + 1, 0, none⟩) (by show _ ≤ w.heap.size + 1; omega) (.int .i64 5)).setCell (p := ⟨w.heap.size + 1, 1, none⟩) (by show _ ≤ w.heap.size + 1; omega) (.int .i64 te)).setCell (p := ⟨w.heap.size + 1, 2, none⟩) (by show _ ≤ w.heap.size + 1; omega) (.string ⟨us.toArray⟩))
    rw [hW]
    clear z0 z1 z2 f0 f1 f2 zl
    have y0 := R9.cell 0
    have y1 := R9.cell 1
    have y2 := R9.cell 2
    refine bodyPost_ret (v := .tuple #[.agg #[.int .i64 5, .int .i64 te, .string ⟨us.toArray⟩], .int .i64 0]) (by simp [results, Try.results13, go_sem, y0, y1, y2]; done) rfl ?_
    exact ⟨by first | rfl | (simp [newL]; done), B9⟩
  · have e : passL ⟨ph, te, us⟩ = (⟨ph, te, us⟩, 7) := by unfold passL; rw [if_neg g]
    rw [e] at h
    injection h with h1 h2
    subst h1; subst h2
    clear e
    have hne : (ph != 4) = true := bne_iff_ne.2 g
    go_enter Try.func13, Try.ntmps13
    go_wp2_with fail
    refine bodyPost_ret (v := .tuple #[.agg #[.int .i64 ph, .int .i64 te, .string ⟨us.toArray⟩], .int .i64 7]) (by simp [results, Try.results13, go_sem]; done) rfl ?_
    exact ⟨by first | rfl | (simp [newL]; done), ((Below.refl _ _).alloc (Nat.le_refl _) _).alloc (by simp) _⟩
set_option maxHeartbeats 1000000 in
theorem dial_of (q r : Lg) (up : Bool) (k : Int) (h : dialL q up = (r, k)) (w : World) : Calls Try.prog 15 #[loginV q, .bool up] w fun e w' => e = .returned (.tuple #[loginV r, .int .i64 k]) ∧ Below w.heap.size w w' := by
  obtain ⟨ph, te, us⟩ := q
  by_cases g : ph = 1
  · subst g
    cases up with
    | true =>
      have e : dialL ⟨1, te, us⟩ true = (⟨2, te, us⟩, 0) := rfl
      rw [e] at h
      injection h with h1 h2
      subst h1; subst h2
      clear e
      go_enter Try.func15, Try.ntmps15
      go_wp2_with (go_at_call 29; refine (phase_any 1 te 2 us _).mono ?_; rintro e w2 ⟨rfl, b2⟩; have R2 := (IsRow.made (w.alloc (.cells #[.int .i64 1, .int .i64 te, .string ⟨us.toArray⟩] 23)) 23 #[.int .i64 0, .int .i64 0, .string ⟨#[]⟩]).call b2; have hb2 := (((Below.refl _ _).alloc (Nat.le_refl _) _).alloc (by simp) _ : Below w.heap.size w ((w.alloc (.cells #[.int .i64 1, .int .i64 te, .string ⟨us.toArray⟩] 23)).alloc (.cells #[.int .i64 0, .int .i64 0, .string ⟨#[]⟩] 23))).trans (b2.mono (by simp; omega)); simp only [World.size_alloc] at R2; have z0 := R2.cell 0; have z1 := R2.cell 1; have z2 := R2.cell 2; have f0 := R2.free 0; have f1 := R2.free 1; have f2 := R2.free 2; have zl := R2.lt)
      obtain ⟨W9, hW⟩ : ∃ W9, (World.setCell (World.setCell (World.setCell w2 ⟨w.heap.size + 1, 0, none⟩ (.int .i64 2)) ⟨w.heap.size + 1, 1, none⟩ (.int .i64 te)) ⟨w.heap.size + 1, 2, none⟩ (.string ⟨us.toArray⟩)) = W9 := ⟨_, rfl⟩
      have R9 : IsRow W9 (w.heap.size + 1) 23 #[.int .i64 2, .int .i64 te, .string ⟨us.toArray⟩] := by
        rw [← hW]
        exact (((R2.set 0 (.int .i64 2)).set 1 (.int .i64 te)).set 2 (.string ⟨us.toArray⟩))
      have B9 : Below w.heap.size w W9 := by
        rw [← hW]
        exact (((hb2.setCell (p := ⟨w.heap.size + 1, 0, none⟩) (by show _ ≤ w.heap.size + 1; omega) (.int .i64 2)).setCell (p := ⟨w.heap.size + 1, 1, none⟩) (by show _ ≤ w.heap.size + 1; omega) (.int .i64 te)).setCell (p := ⟨w.heap.size + 1, 2, none⟩) (by show _ ≤ w.heap.size + 1; omega) (.string ⟨us.toArray⟩))
      rw [hW]
      clear z0 z1 z2 f0 f1 f2 zl
      have y0 := R9.cell 0
      have y1 := R9.cell 1
      have y2 := R9.cell 2
      refine bodyPost_ret (v := .tuple #[.agg #[.int .i64 2, .int .i64 te, .string ⟨us.toArray⟩], .int .i64 0]) (by simp [results, Try.results15, go_sem, y0, y1, y2]; done) rfl ?_
      exact ⟨by first | rfl | (simp [newL]; done), B9⟩
    | false =>
      have e : dialL ⟨1, te, us⟩ false = (newL, 0) := rfl
      rw [e] at h
      injection h with h1 h2
      subst h1; subst h2
      clear e
      go_enter Try.func15, Try.ntmps15
      go_wp2_with (go_at_call 21; refine (new_any _).mono ?_; rintro e w2 ⟨rfl, b2⟩; have R2 := (IsRow.made (w.alloc (.cells #[.int .i64 1, .int .i64 te, .string ⟨us.toArray⟩] 23)) 23 #[.int .i64 0, .int .i64 0, .string ⟨#[]⟩]).call b2; have hb2 := (((Below.refl _ _).alloc (Nat.le_refl _) _).alloc (by simp) _ : Below w.heap.size w ((w.alloc (.cells #[.int .i64 1, .int .i64 te, .string ⟨us.toArray⟩] 23)).alloc (.cells #[.int .i64 0, .int .i64 0, .string ⟨#[]⟩] 23))).trans (b2.mono (by simp; omega)); simp only [World.size_alloc] at R2; have z0 := R2.cell 0; have z1 := R2.cell 1; have z2 := R2.cell 2; have f0 := R2.free 0; have f1 := R2.free 1; have f2 := R2.free 2; have zl := R2.lt)
      obtain ⟨W9, hW⟩ : ∃ W9, (World.setCell (World.setCell (World.setCell w2 ⟨w.heap.size + 1, 0, none⟩ (.int .i64 0)) ⟨w.heap.size + 1, 1, none⟩ (.int .i64 (-1))) ⟨w.heap.size + 1, 2, none⟩ (.string ⟨#[]⟩)) = W9 := ⟨_, rfl⟩
      have R9 : IsRow W9 (w.heap.size + 1) 23 #[.int .i64 0, .int .i64 (-1), .string ⟨#[]⟩] := by
        rw [← hW]
        exact (((R2.set 0 (.int .i64 0)).set 1 (.int .i64 (-1))).set 2 (.string ⟨#[]⟩))
      have B9 : Below w.heap.size w W9 := by
        rw [← hW]
        exact (((hb2.setCell (p := ⟨w.heap.size + 1, 0, none⟩) (by show _ ≤ w.heap.size + 1; omega) (.int .i64 0)).setCell (p := ⟨w.heap.size + 1, 1, none⟩) (by show _ ≤ w.heap.size + 1; omega) (.int .i64 (-1))).setCell (p := ⟨w.heap.size + 1, 2, none⟩) (by show _ ≤ w.heap.size + 1; omega) (.string ⟨#[]⟩))
      rw [hW]
      clear z0 z1 z2 f0 f1 f2 zl
      have y0 := R9.cell 0
      have y1 := R9.cell 1
      have y2 := R9.cell 2
      refine bodyPost_ret (v := .tuple #[.agg #[.int .i64 0, .int .i64 (-1), .string ⟨#[]⟩], .int .i64 0]) (by simp [results, Try.results15, go_sem, y0, y1, y2]; done) rfl ?_
      exact ⟨by first | rfl | (simp [newL]; done), B9⟩
  · have e : dialL ⟨ph, te, us⟩ up = (⟨ph, te, us⟩, 7) := by unfold dialL; rw [if_neg g]
    rw [e] at h
    injection h with h1 h2
    subst h1; subst h2
    clear e
    have hne : (ph != 1) = true := bne_iff_ne.2 g
    go_enter Try.func15, Try.ntmps15
    go_wp2_with fail
    refine bodyPost_ret (v := .tuple #[.agg #[.int .i64 ph, .int .i64 te, .string ⟨us.toArray⟩], .int .i64 7]) (by simp [results, Try.results15, go_sem]; done) rfl ?_
    exact ⟨by first | rfl | (simp [newL]; done), ((Below.refl _ _).alloc (Nat.le_refl _) _).alloc (by simp) _⟩
set_option maxHeartbeats 4000000 in
theorem user_of (q r : Lg) (u : Value) (hs : List (List UInt8)) (arg : List UInt8) (ha : arg.length ≤ 100000) (k : Int) (h : userL q hs arg = (r, k)) (w : World) (H : HostsIs w u hs) :
    Calls Try.prog 11 #[loginV q, u, .string ⟨arg.toArray⟩] w fun e w' => e = .returned (.tuple #[loginV r, .int .i64 k]) ∧ Below w.heap.size w w' := by
  obtain ⟨ph, te, us⟩ := q
  obtain ⟨p, n, c, rfl, -⟩ := H.form
  by_cases g : ph = 0
  · subst g
    have HS := Lib.hid (fun W => split_any arg ha W)
    obtain ⟨x, y, t, hsp⟩ : ∃ x y t, splitR arg = (x, y, t) := ⟨_, _, _, rfl⟩
    unfold splitV at HS
    rw [hsp] at HS
    cases t with
    | false =>
      have e : userL ⟨0, te, us⟩ hs arg = (⟨0, te, us⟩, 2) := user_form rfl hsp
      rw [e] at h
      injection h with h1 h2
      subst h1; subst h2
      clear e
      clear hsp
      go_enter Try.func11, Try.ntmps11
      go_wp2_with (go_at_call 26; refine (HS.out _).mono ?_; rintro e w2 ⟨rfl, b2⟩; have R2 := ((IsRow.made w 23 #[.int .i64 0, .int .i64 te, .string ⟨us.toArray⟩]).alloc (.cells #[.int .i64 0, .int .i64 0, .string ⟨#[]⟩] 23)).call b2; have S2 := (IsRow.made (w.alloc (.cells #[.int .i64 0, .int .i64 te, .string ⟨us.toArray⟩] 23)) 23 #[.int .i64 0, .int .i64 0, .string ⟨#[]⟩]).call b2; simp only [World.size_alloc] at S2; have hb2 := (((Below.refl _ _).alloc (Nat.le_refl _) _).alloc (by simp) _ : Below w.heap.size w ((w.alloc (.cells #[.int .i64 0, .int .i64 te, .string ⟨us.toArray⟩] 23)).alloc (.cells #[.int .i64 0, .int .i64 0, .string ⟨#[]⟩] 23))).trans (b2.mono (by simp; omega)); have z0 := R2.cell 0; have z1 := R2.cell 1; have z2 := R2.cell 2; have zl := R2.lt; have y0 := S2.cell 0; have y1 := S2.cell 1; have y2 := S2.cell 2; have yf0 := S2.free 0; have yf1 := S2.free 1; have yf2 := S2.free 2; have yl := S2.lt; clear HS)
      obtain ⟨W9, hW⟩ : ∃ W9, (World.setCell (World.setCell (World.setCell w2 ⟨w.heap.size + 1, 0, none⟩ (.int .i64 0)) ⟨w.heap.size + 1, 1, none⟩ (.int .i64 te)) ⟨w.heap.size + 1, 2, none⟩ (.string ⟨us.toArray⟩)) = W9 := ⟨_, rfl⟩
      have R9 : IsRow W9 (w.heap.size + 1) 23 #[.int .i64 0, .int .i64 te, .string ⟨us.toArray⟩] := by
        rw [← hW]
        exact (((S2.set 0 (.int .i64 0)).set 1 (.int .i64 te)).set 2 (.string ⟨us.toArray⟩))
      have B9 : Below w.heap.size w W9 := by
        rw [← hW]
        exact (((hb2.setCell (p := ⟨w.heap.size + 1, 0, none⟩) (by show _ ≤ w.heap.size + 1; omega) (.int .i64 0)).setCell (p := ⟨w.heap.size + 1, 1, none⟩) (by show _ ≤ w.heap.size + 1; omega) (.int .i64 te)).setCell (p := ⟨w.heap.size + 1, 2, none⟩) (by show _ ≤ w.heap.size + 1; omega) (.string ⟨us.toArray⟩))
      rw [hW]
      clear z0 z1 z2 zl y0 y1 y2 yf0 yf1 yf2 yl
      have y0 := R9.cell 0
      have y1 := R9.cell 1
      have y2 := R9.cell 2
      refine bodyPost_ret (v := .tuple #[.agg #[.int .i64 0, .int .i64 te, .string ⟨us.toArray⟩], .int .i64 2]) (by simp [results, Try.results11, go_sem, y0, y1, y2]; done) rfl ?_
      exact ⟨by first | rfl | (simp [newL]; done), B9⟩
    | true =>
      have HF := Lib.hid (fun W HR => find_any (.slice p n c) hs y W HR)
      by_cases gf : findH hs y < 0
      · have e : userL ⟨0, te, us⟩ hs arg = (⟨0, te, us⟩, 3) := user_none rfl hsp gf
        rw [e] at h
        injection h with h1 h2
        subst h1; subst h2
        clear e
        clear hsp
        generalize findH hs y = z at *
        go_enter Try.func11, Try.ntmps11
        go_wp2_with (first | (go_at_call 26; refine (HS.out _).mono ?_; rintro e w2 ⟨rfl, b2⟩; have R2 := ((IsRow.made w 23 #[.int .i64 0, .int .i64 te, .string ⟨us.toArray⟩]).alloc (.cells #[.int .i64 0, .int .i64 0, .string ⟨#[]⟩] 23)).call b2; have S2 := (IsRow.made (w.alloc (.cells #[.int .i64 0, .int .i64 te, .string ⟨us.toArray⟩] 23)) 23 #[.int .i64 0, .int .i64 0, .string ⟨#[]⟩]).call b2; simp only [World.size_alloc] at S2; have hb2 := (((Below.refl _ _).alloc (Nat.le_refl _) _).alloc (by simp) _ : Below w.heap.size w ((w.alloc (.cells #[.int .i64 0, .int .i64 te, .string ⟨us.toArray⟩] 23)).alloc (.cells #[.int .i64 0, .int .i64 0, .string ⟨#[]⟩] 23))).trans (b2.mono (by simp; omega)); have z0 := R2.cell 0; have z1 := R2.cell 1; have z2 := R2.cell 2; have zl := R2.lt; have y0 := S2.cell 0; have y1 := S2.cell 1; have y2 := S2.cell 2; have yf0 := S2.free 0; have yf1 := S2.free 1; have yf2 := S2.free 2; have yl := S2.lt; clear HS) | (go_at_call 25; refine (HF.out _ (H.call hb2)).mono ?_; rintro e w3 ⟨rfl, b3⟩; have R3 := R2.call b3; have S3 := S2.call b3; have hb3 := hb2.trans (b3.mono hb2.size); clear z0 z1 z2 zl y0 y1 y2 yf0 yf1 yf2 yl; have z0 := R3.cell 0; have z1 := R3.cell 1; have z2 := R3.cell 2; have zl := R3.lt; have y0 := S3.cell 0; have y1 := S3.cell 1; have y2 := S3.cell 2; have yf0 := S3.free 0; have yf1 := S3.free 1; have yf2 := S3.free 2; have yl := S3.lt; clear HF))
        obtain ⟨W9, hW⟩ : ∃ W9, (World.setCell (World.setCell (World.setCell w3 ⟨w.heap.size + 1, 0, none⟩ (.int .i64 0)) ⟨w.heap.size + 1, 1, none⟩ (.int .i64 te)) ⟨w.heap.size + 1, 2, none⟩ (.string ⟨us.toArray⟩)) = W9 := ⟨_, rfl⟩
        have R9 : IsRow W9 (w.heap.size + 1) 23 #[.int .i64 0, .int .i64 te, .string ⟨us.toArray⟩] := by
          rw [← hW]
          exact (((S3.set 0 (.int .i64 0)).set 1 (.int .i64 te)).set 2 (.string ⟨us.toArray⟩))
        have B9 : Below w.heap.size w W9 := by
          rw [← hW]
          exact (((hb3.setCell (p := ⟨w.heap.size + 1, 0, none⟩) (by show _ ≤ w.heap.size + 1; omega) (.int .i64 0)).setCell (p := ⟨w.heap.size + 1, 1, none⟩) (by show _ ≤ w.heap.size + 1; omega) (.int .i64 te)).setCell (p := ⟨w.heap.size + 1, 2, none⟩) (by show _ ≤ w.heap.size + 1; omega) (.string ⟨us.toArray⟩))
        rw [hW]
        clear z0 z1 z2 zl y0 y1 y2 yf0 yf1 yf2 yl
        have y0 := R9.cell 0
        have y1 := R9.cell 1
        have y2 := R9.cell 2
        refine bodyPost_ret (v := .tuple #[.agg #[.int .i64 0, .int .i64 te, .string ⟨us.toArray⟩], .int .i64 3]) (by simp [results, Try.results11, go_sem, y0, y1, y2]; done) rfl ?_
        exact ⟨by first | rfl | (simp [newL]; done), B9⟩
      · have e : userL ⟨0, te, us⟩ hs arg = (⟨1, findH hs y, x⟩, 0) := user_fine rfl hsp gf
        rw [e] at h
        injection h with h1 h2
        subst h1; subst h2
        clear e
        clear hsp
        generalize findH hs y = z at *
        go_enter Try.func11, Try.ntmps11
        go_wp2_with (first | (go_at_call 26; refine (HS.out _).mono ?_; rintro e w2 ⟨rfl, b2⟩; have R2 := ((IsRow.made w 23 #[.int .i64 0, .int .i64 te, .string ⟨us.toArray⟩]).alloc (.cells #[.int .i64 0, .int .i64 0, .string ⟨#[]⟩] 23)).call b2; have S2 := (IsRow.made (w.alloc (.cells #[.int .i64 0, .int .i64 te, .string ⟨us.toArray⟩] 23)) 23 #[.int .i64 0, .int .i64 0, .string ⟨#[]⟩]).call b2; simp only [World.size_alloc] at S2; have hb2 := (((Below.refl _ _).alloc (Nat.le_refl _) _).alloc (by simp) _ : Below w.heap.size w ((w.alloc (.cells #[.int .i64 0, .int .i64 te, .string ⟨us.toArray⟩] 23)).alloc (.cells #[.int .i64 0, .int .i64 0, .string ⟨#[]⟩] 23))).trans (b2.mono (by simp; omega)); have z0 := R2.cell 0; have z1 := R2.cell 1; have z2 := R2.cell 2; have zl := R2.lt; have y0 := S2.cell 0; have y1 := S2.cell 1; have y2 := S2.cell 2; have yf0 := S2.free 0; have yf1 := S2.free 1; have yf2 := S2.free 2; have yl := S2.lt; clear HS) | (go_at_call 25; refine (HF.out _ (H.call hb2)).mono ?_; rintro e w3 ⟨rfl, b3⟩; have R3 := R2.call b3; have S3 := S2.call b3; have hb3 := hb2.trans (b3.mono hb2.size); clear z0 z1 z2 zl y0 y1 y2 yf0 yf1 yf2 yl; have z0 := R3.cell 0; have z1 := R3.cell 1; have z2 := R3.cell 2; have zl := R3.lt; have y0 := S3.cell 0; have y1 := S3.cell 1; have y2 := S3.cell 2; have yf0 := S3.free 0; have yf1 := S3.free 1; have yf2 := S3.free 2; have yl := S3.lt; clear HF))
        obtain ⟨W9, hW⟩ : ∃ W9, (World.setCell (World.setCell (World.setCell w3 ⟨w.heap.size + 1, 0, none⟩ (.int .i64 1)) ⟨w.heap.size + 1, 1, none⟩ (.int .i64 z)) ⟨w.heap.size + 1, 2, none⟩ (.string ⟨x.toArray⟩)) = W9 := ⟨_, rfl⟩
        have R9 : IsRow W9 (w.heap.size + 1) 23 #[.int .i64 1, .int .i64 z, .string ⟨x.toArray⟩] := by
          rw [← hW]
          exact (((S3.set 0 (.int .i64 1)).set 1 (.int .i64 z)).set 2 (.string ⟨x.toArray⟩))
        have B9 : Below w.heap.size w W9 := by
          rw [← hW]
          exact (((hb3.setCell (p := ⟨w.heap.size + 1, 0, none⟩) (by show _ ≤ w.heap.size + 1; omega) (.int .i64 1)).setCell (p := ⟨w.heap.size + 1, 1, none⟩) (by show _ ≤ w.heap.size + 1; omega) (.int .i64 z)).setCell (p := ⟨w.heap.size + 1, 2, none⟩) (by show _ ≤ w.heap.size + 1; omega) (.string ⟨x.toArray⟩))
        rw [hW]
        clear z0 z1 z2 zl y0 y1 y2 yf0 yf1 yf2 yl
        have y0 := R9.cell 0
        have y1 := R9.cell 1
        have y2 := R9.cell 2
        refine bodyPost_ret (v := .tuple #[.agg #[.int .i64 1, .int .i64 z, .string ⟨x.toArray⟩], .int .i64 0]) (by simp [results, Try.results11, go_sem, y0, y1, y2]; done) rfl ?_
        exact ⟨by first | rfl | (simp [newL]; done), B9⟩
  · have e : userL ⟨ph, te, us⟩ hs arg = (⟨ph, te, us⟩, 7) := user_odd g hs arg
    rw [e] at h
    injection h with h1 h2
    subst h1; subst h2
    clear e
    have hne : (ph != 0) = true := bne_iff_ne.2 g
    go_enter Try.func11, Try.ntmps11
    go_wp2_with fail
    refine bodyPost_ret (v := .tuple #[.agg #[.int .i64 ph, .int .i64 te, .string ⟨us.toArray⟩], .int .i64 7]) (by simp [results, Try.results11, go_sem]; done) rfl ?_
    exact ⟨by first | rfl | (simp [newL]; done), ((Below.refl _ _).alloc (Nat.le_refl _) _).alloc (by simp) _⟩


set_option maxHeartbeats 4000000 in
theorem may_of (q : Lg) (hl : q.us.length ≤ 9223372036854775807) (b : Bool) (h : mayL q = b) (w : World) : Calls Try.prog 20 #[loginV q] w fun e w' => e = .returned (.bool b) ∧ Below w.heap.size w w' := by
  obtain ⟨ph, te, us⟩ := q
  have hl : us.length ≤ 9223372036854775807 := hl
  by_cases gN : (⟨ph, te, us⟩ : Lg) = ⟨0, -1, []⟩
  · have Ntrue : eqL (⟨ph, te, us⟩ : Lg) ⟨0, -1, []⟩ = true := eqL_iff.2 gN
    have heq : ∀ W, (Op.equalIn 10000 23 (.agg #[.int .i64 ph, .int .i64 te, .string ⟨us.toArray⟩]) (.agg #[.int .i64 0, .int .i64 (-1), .string ⟨#[]⟩])).run Try.prog W = .ok true W := fun W => by
      have := equal_logins (⟨ph, te, us⟩ : Lg) ⟨0, -1, []⟩ W
      rw [Ntrue] at this
      exact this
    clear Ntrue
    obtain rfl : b = true := by
      rw [← h, gN]
      decide
    clear h gN
    go_enter Try.func20, Try.ntmps20
    go_wp2_with fail
    obtain ⟨w1, e1, R1, B1⟩ : ∃ W, w.alloc (.cells #[.int .i64 ph, .int .i64 te, .string ⟨us.toArray⟩] 23) = W ∧ IsRow W w.heap.size 23 #[.int .i64 ph, .int .i64 te, .string ⟨us.toArray⟩] ∧ Below w.heap.size w W := ⟨_, rfl, IsRow.made w _ _, (Below.refl _ _).alloc (Nat.le_refl _) _⟩
    rw [e1]
    clear e1
    have KN1 := Lib.hid (show ∀ dd os, Calls Try.prog 21 #[] (grow (redrawn w1 dd) os) fun e w'' => e = .returned (.agg #[.int .i64 0, .int .i64 (-1), .string ⟨#[]⟩]) ∧ ∃ p : Regrown, w'' = grow (redrawn w1 p.d) p.os from fun dd os => Calls.regrown_of (new_any _))
    have KP1 := KN1
    have i10 := cell_regrown (show w1.cell? ⟨w.heap.size, 0, none⟩ = some (.int .i64 ph) from R1.cell 0)
    have i11 := cell_regrown (show w1.cell? ⟨w.heap.size, 1, none⟩ = some (.int .i64 te) from R1.cell 1)
    have i12 := cell_regrown (show w1.cell? ⟨w.heap.size, 2, none⟩ = some (.string ⟨us.toArray⟩) from R1.cell 2)
    refine wp_region_quiet_below (by kernel_rfl) (by kernel_rfl) ?_
    repeat (quiet_step (first | with_reducible exact KN1.out _ _ | with_reducible exact KP1.out _ _))
    refine wpQuiet_nil ?_
    intro _ hw'
    obtain ⟨⟨dq, osq⟩, hw''⟩ := hw'
    subst hw''
    obtain ⟨w2, e2, R2, B2⟩ : ∃ W, grow (redrawn w1 dq) osq = W ∧ IsRow W w.heap.size 23 #[.int .i64 ph, .int .i64 te, .string ⟨us.toArray⟩] ∧ Below w.heap.size w W := ⟨_, rfl, R1.call (below_regrown w1 dq osq), B1.trans ((below_regrown w1 dq osq).mono B1.size)⟩
    rw [e2]
    clear e2 i10 i11 i12 R1 KN1
    go_wp2_with fail
    go_ret
    exact ⟨by first | rfl | (simp; done) | (simp; omega), B2⟩
  have Nfalse : eqL (⟨ph, te, us⟩ : Lg) ⟨0, -1, []⟩ = false := eqL_no gN
  have heq : ∀ W, (Op.equalIn 10000 23 (.agg #[.int .i64 ph, .int .i64 te, .string ⟨us.toArray⟩]) (.agg #[.int .i64 0, .int .i64 (-1), .string ⟨#[]⟩])).run Try.prog W = .ok false W := fun W => by
    have := equal_logins (⟨ph, te, us⟩ : Lg) ⟨0, -1, []⟩ W
    rw [Nfalse] at this
    exact this
  clear Nfalse
  by_cases gG : (⟨ph, te, us⟩ : Lg) = ⟨7, -1, []⟩
  · have Gtrue : eqL (⟨ph, te, us⟩ : Lg) ⟨7, -1, []⟩ = true := eqL_iff.2 gG
    have hep : ∀ W, (Op.equalIn 10000 23 (.agg #[.int .i64 ph, .int .i64 te, .string ⟨us.toArray⟩]) (.agg #[.int .i64 7, .int .i64 (-1), .string ⟨#[]⟩])).run Try.prog W = .ok true W := fun W => by
      have := equal_logins (⟨ph, te, us⟩ : Lg) ⟨7, -1, []⟩ W
      rw [Gtrue] at this
      exact this
    clear Gtrue
    obtain rfl : b = true := by
      rw [← h, gG]
      decide
    clear h gN gG
    go_enter Try.func20, Try.ntmps20
    go_wp2_with fail
    obtain ⟨w1, e1, R1, B1⟩ : ∃ W, w.alloc (.cells #[.int .i64 ph, .int .i64 te, .string ⟨us.toArray⟩] 23) = W ∧ IsRow W w.heap.size 23 #[.int .i64 ph, .int .i64 te, .string ⟨us.toArray⟩] ∧ Below w.heap.size w W := ⟨_, rfl, IsRow.made w _ _, (Below.refl _ _).alloc (Nat.le_refl _) _⟩
    rw [e1]
    clear e1
    have KN1 := Lib.hid (show ∀ dd os, Calls Try.prog 21 #[] (grow (redrawn w1 dd) os) fun e w'' => e = .returned (.agg #[.int .i64 0, .int .i64 (-1), .string ⟨#[]⟩]) ∧ ∃ p : Regrown, w'' = grow (redrawn w1 p.d) p.os from fun dd os => Calls.regrown_of (new_any _))
    have KP1 := KN1
    have i10 := cell_regrown (show w1.cell? ⟨w.heap.size, 0, none⟩ = some (.int .i64 ph) from R1.cell 0)
    have i11 := cell_regrown (show w1.cell? ⟨w.heap.size, 1, none⟩ = some (.int .i64 te) from R1.cell 1)
    have i12 := cell_regrown (show w1.cell? ⟨w.heap.size, 2, none⟩ = some (.string ⟨us.toArray⟩) from R1.cell 2)
    refine wp_region_quiet_below (by kernel_rfl) (by kernel_rfl) ?_
    repeat (quiet_step (first | with_reducible exact KN1.out _ _ | with_reducible exact KP1.out _ _))
    refine wpQuiet_nil ?_
    intro _ hw'
    obtain ⟨⟨dq, osq⟩, hw''⟩ := hw'
    subst hw''
    obtain ⟨w2, e2, R2, B2⟩ : ∃ W, grow (redrawn w1 dq) osq = W ∧ IsRow W w.heap.size 23 #[.int .i64 ph, .int .i64 te, .string ⟨us.toArray⟩] ∧ Below w.heap.size w W := ⟨_, rfl, R1.call (below_regrown w1 dq osq), B1.trans ((below_regrown w1 dq osq).mono B1.size)⟩
    rw [e2]
    clear e2 i10 i11 i12 R1 KN1
    go_wp2_with fail
    have KN2 := Lib.hid (show ∀ dd os, Calls Try.prog 21 #[] (grow (redrawn w2 dd) os) fun e w'' => e = .returned (.agg #[.int .i64 0, .int .i64 (-1), .string ⟨#[]⟩]) ∧ ∃ p : Regrown, w'' = grow (redrawn w2 p.d) p.os from fun dd os => Calls.regrown_of (new_any _))
    have KP2 := Lib.hid (show ∀ dd os, Calls Try.prog 29 #[.agg #[.int .i64 0, .int .i64 (-1), .string ⟨#[]⟩], .int .i64 7] (grow (redrawn w2 dd) os) fun e w'' => e = .returned (.agg #[.int .i64 7, .int .i64 (-1), .string ⟨#[]⟩]) ∧ ∃ p : Regrown, w'' = grow (redrawn w2 p.d) p.os from fun dd os => Calls.regrown_of (phase_any 0 (-1) 7 [] _))
    have i20 := cell_regrown (show w2.cell? ⟨w.heap.size, 0, none⟩ = some (.int .i64 ph) from R2.cell 0)
    have i21 := cell_regrown (show w2.cell? ⟨w.heap.size, 1, none⟩ = some (.int .i64 te) from R2.cell 1)
    have i22 := cell_regrown (show w2.cell? ⟨w.heap.size, 2, none⟩ = some (.string ⟨us.toArray⟩) from R2.cell 2)
    refine wp_region_quiet_below (by kernel_rfl) (by kernel_rfl) ?_
    repeat (quiet_step (first | with_reducible exact KN2.out _ _ | with_reducible exact KP2.out _ _))
    refine wpQuiet_nil ?_
    intro _ hw'
    obtain ⟨⟨dq, osq⟩, hw''⟩ := hw'
    subst hw''
    obtain ⟨w3, e3, R3, B3⟩ : ∃ W, grow (redrawn w2 dq) osq = W ∧ IsRow W w.heap.size 23 #[.int .i64 ph, .int .i64 te, .string ⟨us.toArray⟩] ∧ Below w.heap.size w W := ⟨_, rfl, R2.call (below_regrown w2 dq osq), B2.trans ((below_regrown w2 dq osq).mono B2.size)⟩
    rw [e3]
    clear e3 i20 i21 i22 R2 KN2
    go_wp2_with fail
    go_ret
    exact ⟨by first | rfl | (simp; done) | (simp; omega), B3⟩
  have Gfalse : eqL (⟨ph, te, us⟩ : Lg) ⟨7, -1, []⟩ = false := eqL_no gG
  have hep : ∀ W, (Op.equalIn 10000 23 (.agg #[.int .i64 ph, .int .i64 te, .string ⟨us.toArray⟩]) (.agg #[.int .i64 7, .int .i64 (-1), .string ⟨#[]⟩])).run Try.prog W = .ok false W := fun W => by
    have := equal_logins (⟨ph, te, us⟩ : Lg) ⟨7, -1, []⟩ W
    rw [Gfalse] at this
    exact this
  clear Gfalse
  have gN' : ¬ (ph = 0 ∧ te = -1 ∧ us = []) := fun hh => gN (by rw [hh.1, hh.2.1, hh.2.2])
  have gG' : ¬ (ph = 7 ∧ te = -1 ∧ us = []) := fun hh => gG (by rw [hh.1, hh.2.1, hh.2.2])
  clear gN gG
  by_cases t1 : ¬ ph < 1
  · have t1' : ¬ ph < 1 := t1
    by_cases t2 : ¬ 6 < ph
    · have t2' : ¬ (6 : Int) < ph := t2
      by_cases t3 : 0 ≤ te
      · have t3' : (0 : Int) ≤ te := t3
        by_cases t4 : te < 4
        · have t4' : te < 4 := t4
          have HU := Lib.hid (fun W => user_same us hl W)
          cases hu : userB us with
          | false =>
            rw [hu] at HU
            obtain rfl : b = false := by
              rw [← h]
              unfold mayL; exact decide_eq_false (by unfold May; rintro (⟨h1, h2, h3⟩ | ⟨h1, h2, h3, h4, h5⟩) <;> simp_all <;> omega)
            clear h
            clear hu
            clear gN' gG'
            go_enter Try.func20, Try.ntmps20
            go_wp2_with fail
            obtain ⟨w1, e1, R1, B1⟩ : ∃ W, w.alloc (.cells #[.int .i64 ph, .int .i64 te, .string ⟨us.toArray⟩] 23) = W ∧ IsRow W w.heap.size 23 #[.int .i64 ph, .int .i64 te, .string ⟨us.toArray⟩] ∧ Below w.heap.size w W := ⟨_, rfl, IsRow.made w _ _, (Below.refl _ _).alloc (Nat.le_refl _) _⟩
            rw [e1]
            clear e1
            have KN1 := Lib.hid (show ∀ dd os, Calls Try.prog 21 #[] (grow (redrawn w1 dd) os) fun e w'' => e = .returned (.agg #[.int .i64 0, .int .i64 (-1), .string ⟨#[]⟩]) ∧ ∃ p : Regrown, w'' = grow (redrawn w1 p.d) p.os from fun dd os => Calls.regrown_of (new_any _))
            have KP1 := KN1
            have i10 := cell_regrown (show w1.cell? ⟨w.heap.size, 0, none⟩ = some (.int .i64 ph) from R1.cell 0)
            have i11 := cell_regrown (show w1.cell? ⟨w.heap.size, 1, none⟩ = some (.int .i64 te) from R1.cell 1)
            have i12 := cell_regrown (show w1.cell? ⟨w.heap.size, 2, none⟩ = some (.string ⟨us.toArray⟩) from R1.cell 2)
            refine wp_region_quiet_below (by kernel_rfl) (by kernel_rfl) ?_
            repeat (quiet_step (first | with_reducible exact KN1.out _ _ | with_reducible exact KP1.out _ _))
            refine wpQuiet_nil ?_
            intro _ hw'
            obtain ⟨⟨dq, osq⟩, hw''⟩ := hw'
            subst hw''
            obtain ⟨w2, e2, R2, B2⟩ : ∃ W, grow (redrawn w1 dq) osq = W ∧ IsRow W w.heap.size 23 #[.int .i64 ph, .int .i64 te, .string ⟨us.toArray⟩] ∧ Below w.heap.size w W := ⟨_, rfl, R1.call (below_regrown w1 dq osq), B1.trans ((below_regrown w1 dq osq).mono B1.size)⟩
            rw [e2]
            clear e2 i10 i11 i12 R1 KN1
            go_wp2_with fail
            have KN2 := Lib.hid (show ∀ dd os, Calls Try.prog 21 #[] (grow (redrawn w2 dd) os) fun e w'' => e = .returned (.agg #[.int .i64 0, .int .i64 (-1), .string ⟨#[]⟩]) ∧ ∃ p : Regrown, w'' = grow (redrawn w2 p.d) p.os from fun dd os => Calls.regrown_of (new_any _))
            have KP2 := Lib.hid (show ∀ dd os, Calls Try.prog 29 #[.agg #[.int .i64 0, .int .i64 (-1), .string ⟨#[]⟩], .int .i64 7] (grow (redrawn w2 dd) os) fun e w'' => e = .returned (.agg #[.int .i64 7, .int .i64 (-1), .string ⟨#[]⟩]) ∧ ∃ p : Regrown, w'' = grow (redrawn w2 p.d) p.os from fun dd os => Calls.regrown_of (phase_any 0 (-1) 7 [] _))
            have i20 := cell_regrown (show w2.cell? ⟨w.heap.size, 0, none⟩ = some (.int .i64 ph) from R2.cell 0)
            have i21 := cell_regrown (show w2.cell? ⟨w.heap.size, 1, none⟩ = some (.int .i64 te) from R2.cell 1)
            have i22 := cell_regrown (show w2.cell? ⟨w.heap.size, 2, none⟩ = some (.string ⟨us.toArray⟩) from R2.cell 2)
            refine wp_region_quiet_below (by kernel_rfl) (by kernel_rfl) ?_
            repeat (quiet_step (first | with_reducible exact KN2.out _ _ | with_reducible exact KP2.out _ _))
            refine wpQuiet_nil ?_
            intro _ hw'
            obtain ⟨⟨dq, osq⟩, hw''⟩ := hw'
            subst hw''
            obtain ⟨w3, e3, R3, B3⟩ : ∃ W, grow (redrawn w2 dq) osq = W ∧ IsRow W w.heap.size 23 #[.int .i64 ph, .int .i64 te, .string ⟨us.toArray⟩] ∧ Below w.heap.size w W := ⟨_, rfl, R2.call (below_regrown w2 dq osq), B2.trans ((below_regrown w2 dq osq).mono B2.size)⟩
            rw [e3]
            clear e3 i20 i21 i22 R2 KN2
            have j0 := R3.cell 0
            have j1 := R3.cell 1
            have j2 := R3.cell 2
            have jl := R3.lt
            go_wp2_with (go_at_call 23; refine (HU.out _).mono ?_; rintro e w4 ⟨rfl, h4⟩; obtain rfl := h4.symm; clear HU)
            go_ret
            exact ⟨by first | rfl | (simp; done) | (simp; omega), B3⟩
          | true =>
            rw [hu] at HU
            obtain rfl : b = true := by
              rw [← h]
              unfold mayL; exact decide_eq_true (Or.inr ⟨by simp_all, by simp_all, by simp_all, by simp_all, by simp_all⟩)
            clear h
            clear hu
            clear gN' gG'
            go_enter Try.func20, Try.ntmps20
            go_wp2_with fail
            obtain ⟨w1, e1, R1, B1⟩ : ∃ W, w.alloc (.cells #[.int .i64 ph, .int .i64 te, .string ⟨us.toArray⟩] 23) = W ∧ IsRow W w.heap.size 23 #[.int .i64 ph, .int .i64 te, .string ⟨us.toArray⟩] ∧ Below w.heap.size w W := ⟨_, rfl, IsRow.made w _ _, (Below.refl _ _).alloc (Nat.le_refl _) _⟩
            rw [e1]
            clear e1
            have KN1 := Lib.hid (show ∀ dd os, Calls Try.prog 21 #[] (grow (redrawn w1 dd) os) fun e w'' => e = .returned (.agg #[.int .i64 0, .int .i64 (-1), .string ⟨#[]⟩]) ∧ ∃ p : Regrown, w'' = grow (redrawn w1 p.d) p.os from fun dd os => Calls.regrown_of (new_any _))
            have KP1 := KN1
            have i10 := cell_regrown (show w1.cell? ⟨w.heap.size, 0, none⟩ = some (.int .i64 ph) from R1.cell 0)
            have i11 := cell_regrown (show w1.cell? ⟨w.heap.size, 1, none⟩ = some (.int .i64 te) from R1.cell 1)
            have i12 := cell_regrown (show w1.cell? ⟨w.heap.size, 2, none⟩ = some (.string ⟨us.toArray⟩) from R1.cell 2)
            refine wp_region_quiet_below (by kernel_rfl) (by kernel_rfl) ?_
            repeat (quiet_step (first | with_reducible exact KN1.out _ _ | with_reducible exact KP1.out _ _))
            refine wpQuiet_nil ?_
            intro _ hw'
            obtain ⟨⟨dq, osq⟩, hw''⟩ := hw'
            subst hw''
            obtain ⟨w2, e2, R2, B2⟩ : ∃ W, grow (redrawn w1 dq) osq = W ∧ IsRow W w.heap.size 23 #[.int .i64 ph, .int .i64 te, .string ⟨us.toArray⟩] ∧ Below w.heap.size w W := ⟨_, rfl, R1.call (below_regrown w1 dq osq), B1.trans ((below_regrown w1 dq osq).mono B1.size)⟩
            rw [e2]
            clear e2 i10 i11 i12 R1 KN1
            go_wp2_with fail
            have KN2 := Lib.hid (show ∀ dd os, Calls Try.prog 21 #[] (grow (redrawn w2 dd) os) fun e w'' => e = .returned (.agg #[.int .i64 0, .int .i64 (-1), .string ⟨#[]⟩]) ∧ ∃ p : Regrown, w'' = grow (redrawn w2 p.d) p.os from fun dd os => Calls.regrown_of (new_any _))
            have KP2 := Lib.hid (show ∀ dd os, Calls Try.prog 29 #[.agg #[.int .i64 0, .int .i64 (-1), .string ⟨#[]⟩], .int .i64 7] (grow (redrawn w2 dd) os) fun e w'' => e = .returned (.agg #[.int .i64 7, .int .i64 (-1), .string ⟨#[]⟩]) ∧ ∃ p : Regrown, w'' = grow (redrawn w2 p.d) p.os from fun dd os => Calls.regrown_of (phase_any 0 (-1) 7 [] _))
            have i20 := cell_regrown (show w2.cell? ⟨w.heap.size, 0, none⟩ = some (.int .i64 ph) from R2.cell 0)
            have i21 := cell_regrown (show w2.cell? ⟨w.heap.size, 1, none⟩ = some (.int .i64 te) from R2.cell 1)
            have i22 := cell_regrown (show w2.cell? ⟨w.heap.size, 2, none⟩ = some (.string ⟨us.toArray⟩) from R2.cell 2)
            refine wp_region_quiet_below (by kernel_rfl) (by kernel_rfl) ?_
            repeat (quiet_step (first | with_reducible exact KN2.out _ _ | with_reducible exact KP2.out _ _))
            refine wpQuiet_nil ?_
            intro _ hw'
            obtain ⟨⟨dq, osq⟩, hw''⟩ := hw'
            subst hw''
            obtain ⟨w3, e3, R3, B3⟩ : ∃ W, grow (redrawn w2 dq) osq = W ∧ IsRow W w.heap.size 23 #[.int .i64 ph, .int .i64 te, .string ⟨us.toArray⟩] ∧ Below w.heap.size w W := ⟨_, rfl, R2.call (below_regrown w2 dq osq), B2.trans ((below_regrown w2 dq osq).mono B2.size)⟩
            rw [e3]
            clear e3 i20 i21 i22 R2 KN2
            have j0 := R3.cell 0
            have j1 := R3.cell 1
            have j2 := R3.cell 2
            have jl := R3.lt
            go_wp2_with (go_at_call 23; refine (HU.out _).mono ?_; rintro e w4 ⟨rfl, h4⟩; obtain rfl := h4.symm; clear HU)
            go_ret
            exact ⟨by first | rfl | (simp; done) | (simp; omega), B3⟩
        have t4' : ¬ te < 4 := t4
        obtain rfl : b = false := by
          rw [← h]
          unfold mayL; exact decide_eq_false (by unfold May; rintro (⟨h1, h2, h3⟩ | ⟨h1, h2, h3, h4, h5⟩) <;> simp_all <;> omega)
        clear h
        clear gN' gG'
        go_enter Try.func20, Try.ntmps20
        go_wp2_with fail
        obtain ⟨w1, e1, R1, B1⟩ : ∃ W, w.alloc (.cells #[.int .i64 ph, .int .i64 te, .string ⟨us.toArray⟩] 23) = W ∧ IsRow W w.heap.size 23 #[.int .i64 ph, .int .i64 te, .string ⟨us.toArray⟩] ∧ Below w.heap.size w W := ⟨_, rfl, IsRow.made w _ _, (Below.refl _ _).alloc (Nat.le_refl _) _⟩
        rw [e1]
        clear e1
        have KN1 := Lib.hid (show ∀ dd os, Calls Try.prog 21 #[] (grow (redrawn w1 dd) os) fun e w'' => e = .returned (.agg #[.int .i64 0, .int .i64 (-1), .string ⟨#[]⟩]) ∧ ∃ p : Regrown, w'' = grow (redrawn w1 p.d) p.os from fun dd os => Calls.regrown_of (new_any _))
        have KP1 := KN1
        have i10 := cell_regrown (show w1.cell? ⟨w.heap.size, 0, none⟩ = some (.int .i64 ph) from R1.cell 0)
        have i11 := cell_regrown (show w1.cell? ⟨w.heap.size, 1, none⟩ = some (.int .i64 te) from R1.cell 1)
        have i12 := cell_regrown (show w1.cell? ⟨w.heap.size, 2, none⟩ = some (.string ⟨us.toArray⟩) from R1.cell 2)
        refine wp_region_quiet_below (by kernel_rfl) (by kernel_rfl) ?_
        repeat (quiet_step (first | with_reducible exact KN1.out _ _ | with_reducible exact KP1.out _ _))
        refine wpQuiet_nil ?_
        intro _ hw'
        obtain ⟨⟨dq, osq⟩, hw''⟩ := hw'
        subst hw''
        obtain ⟨w2, e2, R2, B2⟩ : ∃ W, grow (redrawn w1 dq) osq = W ∧ IsRow W w.heap.size 23 #[.int .i64 ph, .int .i64 te, .string ⟨us.toArray⟩] ∧ Below w.heap.size w W := ⟨_, rfl, R1.call (below_regrown w1 dq osq), B1.trans ((below_regrown w1 dq osq).mono B1.size)⟩
        rw [e2]
        clear e2 i10 i11 i12 R1 KN1
        go_wp2_with fail
        have KN2 := Lib.hid (show ∀ dd os, Calls Try.prog 21 #[] (grow (redrawn w2 dd) os) fun e w'' => e = .returned (.agg #[.int .i64 0, .int .i64 (-1), .string ⟨#[]⟩]) ∧ ∃ p : Regrown, w'' = grow (redrawn w2 p.d) p.os from fun dd os => Calls.regrown_of (new_any _))
        have KP2 := Lib.hid (show ∀ dd os, Calls Try.prog 29 #[.agg #[.int .i64 0, .int .i64 (-1), .string ⟨#[]⟩], .int .i64 7] (grow (redrawn w2 dd) os) fun e w'' => e = .returned (.agg #[.int .i64 7, .int .i64 (-1), .string ⟨#[]⟩]) ∧ ∃ p : Regrown, w'' = grow (redrawn w2 p.d) p.os from fun dd os => Calls.regrown_of (phase_any 0 (-1) 7 [] _))
        have i20 := cell_regrown (show w2.cell? ⟨w.heap.size, 0, none⟩ = some (.int .i64 ph) from R2.cell 0)
        have i21 := cell_regrown (show w2.cell? ⟨w.heap.size, 1, none⟩ = some (.int .i64 te) from R2.cell 1)
        have i22 := cell_regrown (show w2.cell? ⟨w.heap.size, 2, none⟩ = some (.string ⟨us.toArray⟩) from R2.cell 2)
        refine wp_region_quiet_below (by kernel_rfl) (by kernel_rfl) ?_
        repeat (quiet_step (first | with_reducible exact KN2.out _ _ | with_reducible exact KP2.out _ _))
        refine wpQuiet_nil ?_
        intro _ hw'
        obtain ⟨⟨dq, osq⟩, hw''⟩ := hw'
        subst hw''
        obtain ⟨w3, e3, R3, B3⟩ : ∃ W, grow (redrawn w2 dq) osq = W ∧ IsRow W w.heap.size 23 #[.int .i64 ph, .int .i64 te, .string ⟨us.toArray⟩] ∧ Below w.heap.size w W := ⟨_, rfl, R2.call (below_regrown w2 dq osq), B2.trans ((below_regrown w2 dq osq).mono B2.size)⟩
        rw [e3]
        clear e3 i20 i21 i22 R2 KN2
        have j0 := R3.cell 0
        have j1 := R3.cell 1
        have j2 := R3.cell 2
        have jl := R3.lt
        go_wp2_with fail
        go_ret
        exact ⟨by first | rfl | (simp; done) | (simp; omega), B3⟩
      have t3' : ¬ (0 : Int) ≤ te := t3
      obtain rfl : b = false := by
        rw [← h]
        unfold mayL; exact decide_eq_false (by unfold May; rintro (⟨h1, h2, h3⟩ | ⟨h1, h2, h3, h4, h5⟩) <;> simp_all <;> omega)
      clear h
      clear gN' gG'
      go_enter Try.func20, Try.ntmps20
      go_wp2_with fail
      obtain ⟨w1, e1, R1, B1⟩ : ∃ W, w.alloc (.cells #[.int .i64 ph, .int .i64 te, .string ⟨us.toArray⟩] 23) = W ∧ IsRow W w.heap.size 23 #[.int .i64 ph, .int .i64 te, .string ⟨us.toArray⟩] ∧ Below w.heap.size w W := ⟨_, rfl, IsRow.made w _ _, (Below.refl _ _).alloc (Nat.le_refl _) _⟩
      rw [e1]
      clear e1
      have KN1 := Lib.hid (show ∀ dd os, Calls Try.prog 21 #[] (grow (redrawn w1 dd) os) fun e w'' => e = .returned (.agg #[.int .i64 0, .int .i64 (-1), .string ⟨#[]⟩]) ∧ ∃ p : Regrown, w'' = grow (redrawn w1 p.d) p.os from fun dd os => Calls.regrown_of (new_any _))
      have KP1 := KN1
      have i10 := cell_regrown (show w1.cell? ⟨w.heap.size, 0, none⟩ = some (.int .i64 ph) from R1.cell 0)
      have i11 := cell_regrown (show w1.cell? ⟨w.heap.size, 1, none⟩ = some (.int .i64 te) from R1.cell 1)
      have i12 := cell_regrown (show w1.cell? ⟨w.heap.size, 2, none⟩ = some (.string ⟨us.toArray⟩) from R1.cell 2)
      refine wp_region_quiet_below (by kernel_rfl) (by kernel_rfl) ?_
      repeat (quiet_step (first | with_reducible exact KN1.out _ _ | with_reducible exact KP1.out _ _))
      refine wpQuiet_nil ?_
      intro _ hw'
      obtain ⟨⟨dq, osq⟩, hw''⟩ := hw'
      subst hw''
      obtain ⟨w2, e2, R2, B2⟩ : ∃ W, grow (redrawn w1 dq) osq = W ∧ IsRow W w.heap.size 23 #[.int .i64 ph, .int .i64 te, .string ⟨us.toArray⟩] ∧ Below w.heap.size w W := ⟨_, rfl, R1.call (below_regrown w1 dq osq), B1.trans ((below_regrown w1 dq osq).mono B1.size)⟩
      rw [e2]
      clear e2 i10 i11 i12 R1 KN1
      go_wp2_with fail
      have KN2 := Lib.hid (show ∀ dd os, Calls Try.prog 21 #[] (grow (redrawn w2 dd) os) fun e w'' => e = .returned (.agg #[.int .i64 0, .int .i64 (-1), .string ⟨#[]⟩]) ∧ ∃ p : Regrown, w'' = grow (redrawn w2 p.d) p.os from fun dd os => Calls.regrown_of (new_any _))
      have KP2 := Lib.hid (show ∀ dd os, Calls Try.prog 29 #[.agg #[.int .i64 0, .int .i64 (-1), .string ⟨#[]⟩], .int .i64 7] (grow (redrawn w2 dd) os) fun e w'' => e = .returned (.agg #[.int .i64 7, .int .i64 (-1), .string ⟨#[]⟩]) ∧ ∃ p : Regrown, w'' = grow (redrawn w2 p.d) p.os from fun dd os => Calls.regrown_of (phase_any 0 (-1) 7 [] _))
      have i20 := cell_regrown (show w2.cell? ⟨w.heap.size, 0, none⟩ = some (.int .i64 ph) from R2.cell 0)
      have i21 := cell_regrown (show w2.cell? ⟨w.heap.size, 1, none⟩ = some (.int .i64 te) from R2.cell 1)
      have i22 := cell_regrown (show w2.cell? ⟨w.heap.size, 2, none⟩ = some (.string ⟨us.toArray⟩) from R2.cell 2)
      refine wp_region_quiet_below (by kernel_rfl) (by kernel_rfl) ?_
      repeat (quiet_step (first | with_reducible exact KN2.out _ _ | with_reducible exact KP2.out _ _))
      refine wpQuiet_nil ?_
      intro _ hw'
      obtain ⟨⟨dq, osq⟩, hw''⟩ := hw'
      subst hw''
      obtain ⟨w3, e3, R3, B3⟩ : ∃ W, grow (redrawn w2 dq) osq = W ∧ IsRow W w.heap.size 23 #[.int .i64 ph, .int .i64 te, .string ⟨us.toArray⟩] ∧ Below w.heap.size w W := ⟨_, rfl, R2.call (below_regrown w2 dq osq), B2.trans ((below_regrown w2 dq osq).mono B2.size)⟩
      rw [e3]
      clear e3 i20 i21 i22 R2 KN2
      have j0 := R3.cell 0
      have j1 := R3.cell 1
      have j2 := R3.cell 2
      have jl := R3.lt
      go_wp2_with fail
      go_ret
      exact ⟨by first | rfl | (simp; done) | (simp; omega), B3⟩
    have t2' : (6 : Int) < ph := by omega
    obtain rfl : b = false := by
      rw [← h]
      unfold mayL; exact decide_eq_false (by unfold May; rintro (⟨h1, h2, h3⟩ | ⟨h1, h2, h3, h4, h5⟩) <;> simp_all <;> omega)
    clear h
    clear gN' gG'
    go_enter Try.func20, Try.ntmps20
    go_wp2_with fail
    obtain ⟨w1, e1, R1, B1⟩ : ∃ W, w.alloc (.cells #[.int .i64 ph, .int .i64 te, .string ⟨us.toArray⟩] 23) = W ∧ IsRow W w.heap.size 23 #[.int .i64 ph, .int .i64 te, .string ⟨us.toArray⟩] ∧ Below w.heap.size w W := ⟨_, rfl, IsRow.made w _ _, (Below.refl _ _).alloc (Nat.le_refl _) _⟩
    rw [e1]
    clear e1
    have KN1 := Lib.hid (show ∀ dd os, Calls Try.prog 21 #[] (grow (redrawn w1 dd) os) fun e w'' => e = .returned (.agg #[.int .i64 0, .int .i64 (-1), .string ⟨#[]⟩]) ∧ ∃ p : Regrown, w'' = grow (redrawn w1 p.d) p.os from fun dd os => Calls.regrown_of (new_any _))
    have KP1 := KN1
    have i10 := cell_regrown (show w1.cell? ⟨w.heap.size, 0, none⟩ = some (.int .i64 ph) from R1.cell 0)
    have i11 := cell_regrown (show w1.cell? ⟨w.heap.size, 1, none⟩ = some (.int .i64 te) from R1.cell 1)
    have i12 := cell_regrown (show w1.cell? ⟨w.heap.size, 2, none⟩ = some (.string ⟨us.toArray⟩) from R1.cell 2)
    refine wp_region_quiet_below (by kernel_rfl) (by kernel_rfl) ?_
    repeat (quiet_step (first | with_reducible exact KN1.out _ _ | with_reducible exact KP1.out _ _))
    refine wpQuiet_nil ?_
    intro _ hw'
    obtain ⟨⟨dq, osq⟩, hw''⟩ := hw'
    subst hw''
    obtain ⟨w2, e2, R2, B2⟩ : ∃ W, grow (redrawn w1 dq) osq = W ∧ IsRow W w.heap.size 23 #[.int .i64 ph, .int .i64 te, .string ⟨us.toArray⟩] ∧ Below w.heap.size w W := ⟨_, rfl, R1.call (below_regrown w1 dq osq), B1.trans ((below_regrown w1 dq osq).mono B1.size)⟩
    rw [e2]
    clear e2 i10 i11 i12 R1 KN1
    go_wp2_with fail
    have KN2 := Lib.hid (show ∀ dd os, Calls Try.prog 21 #[] (grow (redrawn w2 dd) os) fun e w'' => e = .returned (.agg #[.int .i64 0, .int .i64 (-1), .string ⟨#[]⟩]) ∧ ∃ p : Regrown, w'' = grow (redrawn w2 p.d) p.os from fun dd os => Calls.regrown_of (new_any _))
    have KP2 := Lib.hid (show ∀ dd os, Calls Try.prog 29 #[.agg #[.int .i64 0, .int .i64 (-1), .string ⟨#[]⟩], .int .i64 7] (grow (redrawn w2 dd) os) fun e w'' => e = .returned (.agg #[.int .i64 7, .int .i64 (-1), .string ⟨#[]⟩]) ∧ ∃ p : Regrown, w'' = grow (redrawn w2 p.d) p.os from fun dd os => Calls.regrown_of (phase_any 0 (-1) 7 [] _))
    have i20 := cell_regrown (show w2.cell? ⟨w.heap.size, 0, none⟩ = some (.int .i64 ph) from R2.cell 0)
    have i21 := cell_regrown (show w2.cell? ⟨w.heap.size, 1, none⟩ = some (.int .i64 te) from R2.cell 1)
    have i22 := cell_regrown (show w2.cell? ⟨w.heap.size, 2, none⟩ = some (.string ⟨us.toArray⟩) from R2.cell 2)
    refine wp_region_quiet_below (by kernel_rfl) (by kernel_rfl) ?_
    repeat (quiet_step (first | with_reducible exact KN2.out _ _ | with_reducible exact KP2.out _ _))
    refine wpQuiet_nil ?_
    intro _ hw'
    obtain ⟨⟨dq, osq⟩, hw''⟩ := hw'
    subst hw''
    obtain ⟨w3, e3, R3, B3⟩ : ∃ W, grow (redrawn w2 dq) osq = W ∧ IsRow W w.heap.size 23 #[.int .i64 ph, .int .i64 te, .string ⟨us.toArray⟩] ∧ Below w.heap.size w W := ⟨_, rfl, R2.call (below_regrown w2 dq osq), B2.trans ((below_regrown w2 dq osq).mono B2.size)⟩
    rw [e3]
    clear e3 i20 i21 i22 R2 KN2
    have j0 := R3.cell 0
    have j1 := R3.cell 1
    have j2 := R3.cell 2
    have jl := R3.lt
    go_wp2_with fail
    go_ret
    exact ⟨by first | rfl | (simp; done) | (simp; omega), B3⟩
  have t1' : ph < 1 := by omega
  obtain rfl : b = false := by
    rw [← h]
    unfold mayL; exact decide_eq_false (by unfold May; rintro (⟨h1, h2, h3⟩ | ⟨h1, h2, h3, h4, h5⟩) <;> simp_all <;> omega)
  clear h
  clear gN' gG'
  go_enter Try.func20, Try.ntmps20
  go_wp2_with fail
  obtain ⟨w1, e1, R1, B1⟩ : ∃ W, w.alloc (.cells #[.int .i64 ph, .int .i64 te, .string ⟨us.toArray⟩] 23) = W ∧ IsRow W w.heap.size 23 #[.int .i64 ph, .int .i64 te, .string ⟨us.toArray⟩] ∧ Below w.heap.size w W := ⟨_, rfl, IsRow.made w _ _, (Below.refl _ _).alloc (Nat.le_refl _) _⟩
  rw [e1]
  clear e1
  have KN1 := Lib.hid (show ∀ dd os, Calls Try.prog 21 #[] (grow (redrawn w1 dd) os) fun e w'' => e = .returned (.agg #[.int .i64 0, .int .i64 (-1), .string ⟨#[]⟩]) ∧ ∃ p : Regrown, w'' = grow (redrawn w1 p.d) p.os from fun dd os => Calls.regrown_of (new_any _))
  have KP1 := KN1
  have i10 := cell_regrown (show w1.cell? ⟨w.heap.size, 0, none⟩ = some (.int .i64 ph) from R1.cell 0)
  have i11 := cell_regrown (show w1.cell? ⟨w.heap.size, 1, none⟩ = some (.int .i64 te) from R1.cell 1)
  have i12 := cell_regrown (show w1.cell? ⟨w.heap.size, 2, none⟩ = some (.string ⟨us.toArray⟩) from R1.cell 2)
  refine wp_region_quiet_below (by kernel_rfl) (by kernel_rfl) ?_
  repeat (quiet_step (first | with_reducible exact KN1.out _ _ | with_reducible exact KP1.out _ _))
  refine wpQuiet_nil ?_
  intro _ hw'
  obtain ⟨⟨dq, osq⟩, hw''⟩ := hw'
  subst hw''
  obtain ⟨w2, e2, R2, B2⟩ : ∃ W, grow (redrawn w1 dq) osq = W ∧ IsRow W w.heap.size 23 #[.int .i64 ph, .int .i64 te, .string ⟨us.toArray⟩] ∧ Below w.heap.size w W := ⟨_, rfl, R1.call (below_regrown w1 dq osq), B1.trans ((below_regrown w1 dq osq).mono B1.size)⟩
  rw [e2]
  clear e2 i10 i11 i12 R1 KN1
  go_wp2_with fail
  have KN2 := Lib.hid (show ∀ dd os, Calls Try.prog 21 #[] (grow (redrawn w2 dd) os) fun e w'' => e = .returned (.agg #[.int .i64 0, .int .i64 (-1), .string ⟨#[]⟩]) ∧ ∃ p : Regrown, w'' = grow (redrawn w2 p.d) p.os from fun dd os => Calls.regrown_of (new_any _))
  have KP2 := Lib.hid (show ∀ dd os, Calls Try.prog 29 #[.agg #[.int .i64 0, .int .i64 (-1), .string ⟨#[]⟩], .int .i64 7] (grow (redrawn w2 dd) os) fun e w'' => e = .returned (.agg #[.int .i64 7, .int .i64 (-1), .string ⟨#[]⟩]) ∧ ∃ p : Regrown, w'' = grow (redrawn w2 p.d) p.os from fun dd os => Calls.regrown_of (phase_any 0 (-1) 7 [] _))
  have i20 := cell_regrown (show w2.cell? ⟨w.heap.size, 0, none⟩ = some (.int .i64 ph) from R2.cell 0)
  have i21 := cell_regrown (show w2.cell? ⟨w.heap.size, 1, none⟩ = some (.int .i64 te) from R2.cell 1)
  have i22 := cell_regrown (show w2.cell? ⟨w.heap.size, 2, none⟩ = some (.string ⟨us.toArray⟩) from R2.cell 2)
  refine wp_region_quiet_below (by kernel_rfl) (by kernel_rfl) ?_
  repeat (quiet_step (first | with_reducible exact KN2.out _ _ | with_reducible exact KP2.out _ _))
  refine wpQuiet_nil ?_
  intro _ hw'
  obtain ⟨⟨dq, osq⟩, hw''⟩ := hw'
  subst hw''
  obtain ⟨w3, e3, R3, B3⟩ : ∃ W, grow (redrawn w2 dq) osq = W ∧ IsRow W w.heap.size 23 #[.int .i64 ph, .int .i64 te, .string ⟨us.toArray⟩] ∧ Below w.heap.size w W := ⟨_, rfl, R2.call (below_regrown w2 dq osq), B2.trans ((below_regrown w2 dq osq).mono B2.size)⟩
  rw [e3]
  clear e3 i20 i21 i22 R2 KN2
  have j0 := R3.cell 0
  have j1 := R3.cell 1
  have j2 := R3.cell 2
  have jl := R3.lt
  go_wp2_with fail
  go_ret
  exact ⟨by first | rfl | (simp; done) | (simp; omega), B3⟩

#print axioms pass_of
#print axioms dial_of
#print axioms user_of
#print axioms may_of
end Go.Proofs.Ytkkajbnonfnbjaa.Lo
