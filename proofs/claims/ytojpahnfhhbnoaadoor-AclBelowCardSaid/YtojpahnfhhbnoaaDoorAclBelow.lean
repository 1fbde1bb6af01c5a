/- Proved: for every rule, verb and two paths (held against 200 bytes each): what a rule alone tells of a path it tells of all below it. Conditions: none beyond the row's own (the library's variables start as the program's text lays them: the card ties them). -/
import Derived.Test.YtojpahnfhhbnoaaDoorAclAwake
import Derived.BigQuiet
import Derived.Deep.RegionLaw
import Derived.Deep.QuietTactic

namespace Go.Proofs.YtojpahnfhhbnoaaDoor.aclBelow
open Go.Proofs.YtojpahnfhhbnoaaDoor Go.Proofs.YtojpahnfhhbnoaaDoor.Ac Go.Proofs.YtojpahnfhhbnoaaDoor.Pt Go.Proofs.YtojpahnfhhbnoaaDoor.Quad
open Go.ChangeShapes Go.WideShapes Go.ChangeAt Go.RowKit Go.Sort Go.ChangeMaps

set_option linter.unusedVariables false in
set_option maxHeartbeats 2000000 in
set_option maxRecDepth 100000 in
theorem walk (q0 : Rl) (s1 : List UInt8) (z1 : s1.length ≤ 9223372036854775807) (s2 : List UInt8) (z2 : s2.length ≤ 9223372036854775807) (s3 : List UInt8) (z3 : s3.length ≤ 9223372036854775807) (w : World)  (E : Env w) :
    Calls Tryd.prog 5 #[ruleV q0, str s1, str s2, str s3] w fun e w' => e = .returned (.bool true) ∧ Below w.heap.size w w' := by
  have AWK := Lib.hid (fun W EW => awake_any W EW)
  have B0 := Lib.hid (Below.refl w.heap.size w)
  obtain ⟨qa, qv, qp⟩ := q0
  by_cases g0 : 200 < qv.length
  · have g0' : (200 : Int) < (qv.length : Int) := by omega
    go_enter Tryd.func5, Tryd.ntmps5
    go_wp2_with (first
        | (go_at_call 7; refine (AWK.out _ (E.below ((B0.out).alloc B0.out.size (.cells #[.bool qa, .string ⟨qv.toArray⟩, .string ⟨qp.toArray⟩] 28)))).mono ?_; rintro e w1 ⟨rfl, b1⟩; have B1 := Lib.hid (((B0.out).alloc B0.out.size (.cells #[.bool qa, .string ⟨qv.toArray⟩, .string ⟨qp.toArray⟩] 28)).trans (b1.mono (by have := B0.out.size; simp <;> omega))); have q1 := Lib.hid ((IsRow.made w 28 #[.bool qa, .string ⟨qv.toArray⟩, .string ⟨qp.toArray⟩]).call b1); have qc0 : w1.cell? ⟨w.heap.size, 0, none⟩ = some (.bool qa) := q1.out.cell 0; have qc1 : w1.cell? ⟨w.heap.size, 1, none⟩ = some (.string ⟨qv.toArray⟩) := q1.out.cell 1; have qc2 : w1.cell? ⟨w.heap.size, 2, none⟩ = some (.string ⟨qp.toArray⟩) := q1.out.cell 2; have qlt : w.heap.size < w1.heap.size := q1.out.lt; clear AWK))
    all_goals (go_ret; exact ⟨by first | rfl | (simp; done) | (simp; omega), B1.out⟩)
  have g0' : ¬ (200 : Int) < (qv.length : Int) := by omega
  by_cases g4 : 200 < qp.length
  · have g4' : (200 : Int) < (qp.length : Int) := by omega
    go_enter Tryd.func5, Tryd.ntmps5
    go_wp2_with (first
        | (go_at_call 7; refine (AWK.out _ (E.below ((B0.out).alloc B0.out.size (.cells #[.bool qa, .string ⟨qv.toArray⟩, .string ⟨qp.toArray⟩] 28)))).mono ?_; rintro e w1 ⟨rfl, b1⟩; have B1 := Lib.hid (((B0.out).alloc B0.out.size (.cells #[.bool qa, .string ⟨qv.toArray⟩, .string ⟨qp.toArray⟩] 28)).trans (b1.mono (by have := B0.out.size; simp <;> omega))); have q1 := Lib.hid ((IsRow.made w 28 #[.bool qa, .string ⟨qv.toArray⟩, .string ⟨qp.toArray⟩]).call b1); have qc0 : w1.cell? ⟨w.heap.size, 0, none⟩ = some (.bool qa) := q1.out.cell 0; have qc1 : w1.cell? ⟨w.heap.size, 1, none⟩ = some (.string ⟨qv.toArray⟩) := q1.out.cell 1; have qc2 : w1.cell? ⟨w.heap.size, 2, none⟩ = some (.string ⟨qp.toArray⟩) := q1.out.cell 2; have qlt : w.heap.size < w1.heap.size := q1.out.lt; clear AWK))
    all_goals (go_ret; exact ⟨by first | rfl | (simp; done) | (simp; omega), B1.out⟩)
  have g4' : ¬ (200 : Int) < (qp.length : Int) := by omega
  by_cases g1 : 200 < s1.length
  · have g1' : (200 : Int) < (s1.length : Int) := by omega
    go_enter Tryd.func5, Tryd.ntmps5
    go_wp2_with (first
        | (go_at_call 7; refine (AWK.out _ (E.below ((B0.out).alloc B0.out.size (.cells #[.bool qa, .string ⟨qv.toArray⟩, .string ⟨qp.toArray⟩] 28)))).mono ?_; rintro e w1 ⟨rfl, b1⟩; have B1 := Lib.hid (((B0.out).alloc B0.out.size (.cells #[.bool qa, .string ⟨qv.toArray⟩, .string ⟨qp.toArray⟩] 28)).trans (b1.mono (by have := B0.out.size; simp <;> omega))); have q1 := Lib.hid ((IsRow.made w 28 #[.bool qa, .string ⟨qv.toArray⟩, .string ⟨qp.toArray⟩]).call b1); have qc0 : w1.cell? ⟨w.heap.size, 0, none⟩ = some (.bool qa) := q1.out.cell 0; have qc1 : w1.cell? ⟨w.heap.size, 1, none⟩ = some (.string ⟨qv.toArray⟩) := q1.out.cell 1; have qc2 : w1.cell? ⟨w.heap.size, 2, none⟩ = some (.string ⟨qp.toArray⟩) := q1.out.cell 2; have qlt : w.heap.size < w1.heap.size := q1.out.lt; clear AWK))
    all_goals (go_ret; exact ⟨by first | rfl | (simp; done) | (simp; omega), B1.out⟩)
  have g1' : ¬ (200 : Int) < (s1.length : Int) := by omega
  by_cases g2 : 200 < s2.length
  · have g2' : (200 : Int) < (s2.length : Int) := by omega
    go_enter Tryd.func5, Tryd.ntmps5
    go_wp2_with (first
        | (go_at_call 7; refine (AWK.out _ (E.below ((B0.out).alloc B0.out.size (.cells #[.bool qa, .string ⟨qv.toArray⟩, .string ⟨qp.toArray⟩] 28)))).mono ?_; rintro e w1 ⟨rfl, b1⟩; have B1 := Lib.hid (((B0.out).alloc B0.out.size (.cells #[.bool qa, .string ⟨qv.toArray⟩, .string ⟨qp.toArray⟩] 28)).trans (b1.mono (by have := B0.out.size; simp <;> omega))); have q1 := Lib.hid ((IsRow.made w 28 #[.bool qa, .string ⟨qv.toArray⟩, .string ⟨qp.toArray⟩]).call b1); have qc0 : w1.cell? ⟨w.heap.size, 0, none⟩ = some (.bool qa) := q1.out.cell 0; have qc1 : w1.cell? ⟨w.heap.size, 1, none⟩ = some (.string ⟨qv.toArray⟩) := q1.out.cell 1; have qc2 : w1.cell? ⟨w.heap.size, 2, none⟩ = some (.string ⟨qp.toArray⟩) := q1.out.cell 2; have qlt : w.heap.size < w1.heap.size := q1.out.lt; clear AWK))
    all_goals (go_ret; exact ⟨by first | rfl | (simp; done) | (simp; omega), B1.out⟩)
  have g2' : ¬ (200 : Int) < (s2.length : Int) := by omega
  by_cases g3 : 200 < s3.length
  · have g3' : (200 : Int) < (s3.length : Int) := by omega
    go_enter Tryd.func5, Tryd.ntmps5
    go_wp2_with (first
        | (go_at_call 7; refine (AWK.out _ (E.below ((B0.out).alloc B0.out.size (.cells #[.bool qa, .string ⟨qv.toArray⟩, .string ⟨qp.toArray⟩] 28)))).mono ?_; rintro e w1 ⟨rfl, b1⟩; have B1 := Lib.hid (((B0.out).alloc B0.out.size (.cells #[.bool qa, .string ⟨qv.toArray⟩, .string ⟨qp.toArray⟩] 28)).trans (b1.mono (by have := B0.out.size; simp <;> omega))); have q1 := Lib.hid ((IsRow.made w 28 #[.bool qa, .string ⟨qv.toArray⟩, .string ⟨qp.toArray⟩]).call b1); have qc0 : w1.cell? ⟨w.heap.size, 0, none⟩ = some (.bool qa) := q1.out.cell 0; have qc1 : w1.cell? ⟨w.heap.size, 1, none⟩ = some (.string ⟨qv.toArray⟩) := q1.out.cell 1; have qc2 : w1.cell? ⟨w.heap.size, 2, none⟩ = some (.string ⟨qp.toArray⟩) := q1.out.cell 2; have qlt : w.heap.size < w1.heap.size := q1.out.lt; clear AWK))
    all_goals (go_ret; exact ⟨by first | rfl | (simp; done) | (simp; omega), B1.out⟩)
  have g3' : ¬ (200 : Int) < (s3.length : Int) := by omega
  cases hu : under s2 s3 with
  | false =>
    have HU := Lib.hid (fun W EW => punder_of s2 s3 (by omega) (by omega) false hu W EW)
    clear hu
    go_enter Tryd.func5, Tryd.ntmps5
    go_wp2_with (first
        | (go_at_call 7; refine (AWK.out _ (E.below ((B0.out).alloc B0.out.size (.cells #[.bool qa, .string ⟨qv.toArray⟩, .string ⟨qp.toArray⟩] 28)))).mono ?_; rintro e w1 ⟨rfl, b1⟩; have B1 := Lib.hid (((B0.out).alloc B0.out.size (.cells #[.bool qa, .string ⟨qv.toArray⟩, .string ⟨qp.toArray⟩] 28)).trans (b1.mono (by have := B0.out.size; simp <;> omega))); have q1 := Lib.hid ((IsRow.made w 28 #[.bool qa, .string ⟨qv.toArray⟩, .string ⟨qp.toArray⟩]).call b1); have qc0 : w1.cell? ⟨w.heap.size, 0, none⟩ = some (.bool qa) := q1.out.cell 0; have qc1 : w1.cell? ⟨w.heap.size, 1, none⟩ = some (.string ⟨qv.toArray⟩) := q1.out.cell 1; have qc2 : w1.cell? ⟨w.heap.size, 2, none⟩ = some (.string ⟨qp.toArray⟩) := q1.out.cell 2; have qlt : w.heap.size < w1.heap.size := q1.out.lt; clear AWK)
        | (go_at_call 16; refine (HU.out _ (E.below (B1.out))).mono ?_; rintro e w2 ⟨rfl, b2⟩; have B2 := Lib.hid (B1.out.trans (b2.mono B1.out.size)); have q2 := Lib.hid (q1.out.call b2); clear qc0 qc1 qc2 qlt; have qc0 : w2.cell? ⟨w.heap.size, 0, none⟩ = some (.bool qa) := q2.out.cell 0; have qc1 : w2.cell? ⟨w.heap.size, 1, none⟩ = some (.string ⟨qv.toArray⟩) := q2.out.cell 1; have qc2 : w2.cell? ⟨w.heap.size, 2, none⟩ = some (.string ⟨qp.toArray⟩) := q2.out.cell 2; have qlt : w.heap.size < w2.heap.size := q2.out.lt; clear HU; clear q1))
    all_goals (go_ret; exact ⟨by first | rfl | (simp; done) | (simp; omega), B2.out⟩)
  | true =>
    have HU := Lib.hid (fun W EW => punder_of s2 s3 (by omega) (by omega) true hu W EW)
    have hq : Short [(⟨qa, qv, qp⟩ : Rl)] := Short.one (by show qv.length ≤ _; omega) (by show qp.length ≤ _; omega)
    cases ht : tells s1 s2 ⟨qa, qv, qp⟩ with
    | false =>
      have HW := Lib.hid (fun u W EW HR => which_of u [(⟨qa, qv, qp⟩ : Rl)] s1 s2 hq (by omega) (-1) (by rw [alone.1, ht]; rfl) W EW HR)
      have HA := Lib.hid (fun u W EW HR => allowed_of u [(⟨qa, qv, qp⟩ : Rl)] s1 s2 hq (by omega) false (by rw [alone.2, ht]; rfl) W EW HR)
      clear hu ht hq
      go_enter Tryd.func5, Tryd.ntmps5
      go_wp2_with (first
          | (go_at_call 7; refine (AWK.out _ (E.below ((B0.out).alloc B0.out.size (.cells #[.bool qa, .string ⟨qv.toArray⟩, .string ⟨qp.toArray⟩] 28)))).mono ?_; rintro e w1 ⟨rfl, b1⟩; have B1 := Lib.hid (((B0.out).alloc B0.out.size (.cells #[.bool qa, .string ⟨qv.toArray⟩, .string ⟨qp.toArray⟩] 28)).trans (b1.mono (by have := B0.out.size; simp <;> omega))); have q1 := Lib.hid ((IsRow.made w 28 #[.bool qa, .string ⟨qv.toArray⟩, .string ⟨qp.toArray⟩]).call b1); have qc0 : w1.cell? ⟨w.heap.size, 0, none⟩ = some (.bool qa) := q1.out.cell 0; have qc1 : w1.cell? ⟨w.heap.size, 1, none⟩ = some (.string ⟨qv.toArray⟩) := q1.out.cell 1; have qc2 : w1.cell? ⟨w.heap.size, 2, none⟩ = some (.string ⟨qp.toArray⟩) := q1.out.cell 2; have qlt : w.heap.size < w1.heap.size := q1.out.lt; clear AWK)
          | (go_at_call 16; refine (HU.out _ (E.below (B1.out))).mono ?_; rintro e w2 ⟨rfl, b2⟩; have B2 := Lib.hid (B1.out.trans (b2.mono B1.out.size)); have q2 := Lib.hid (q1.out.call b2); clear qc0 qc1 qc2 qlt; have qc0 : w2.cell? ⟨w.heap.size, 0, none⟩ = some (.bool qa) := q2.out.cell 0; have qc1 : w2.cell? ⟨w.heap.size, 1, none⟩ = some (.string ⟨qv.toArray⟩) := q2.out.cell 1; have qc2 : w2.cell? ⟨w.heap.size, 2, none⟩ = some (.string ⟨qp.toArray⟩) := q2.out.cell 2; have qlt : w.heap.size < w2.heap.size := q2.out.lt; clear HU; clear q1)
          | (go_at_call 12; refine (HW.out _ _ (E.below ((B2.out).alloc B2.out.size (.cells #[.bool qa, .string ⟨qv.toArray⟩, .string ⟨qp.toArray⟩] 28))) (own_lit (base := w.heap.size) (w := w2) ⟨qa, qv, qp⟩ B2.out.size).rules).mono ?_; rintro e w3 ⟨rfl, b3⟩; have B3 := Lib.hid (((B2.out).alloc B2.out.size (.cells #[.bool qa, .string ⟨qv.toArray⟩, .string ⟨qp.toArray⟩] 28)).trans (b3.mono (by have := B2.out.size; simp <;> omega))); have q3 := Lib.hid ((q2.out.alloc (.cells #[.bool qa, .string ⟨qv.toArray⟩, .string ⟨qp.toArray⟩] 28)).call b3); clear qc0 qc1 qc2 qlt; have qc0 : w3.cell? ⟨w.heap.size, 0, none⟩ = some (.bool qa) := q3.out.cell 0; have qc1 : w3.cell? ⟨w.heap.size, 1, none⟩ = some (.string ⟨qv.toArray⟩) := q3.out.cell 1; have qc2 : w3.cell? ⟨w.heap.size, 2, none⟩ = some (.string ⟨qp.toArray⟩) := q3.out.cell 2; have qlt : w.heap.size < w3.heap.size := q3.out.lt; have R3 := Lib.hid ((own_lit (base := w.heap.size) (w := w2) ⟨qa, qv, qp⟩ B2.out.size).rules.call b3); clear HW; clear q2)
          | (go_at_call 14; refine (HA.out _ _ (E.below (B3.out)) R3.out).mono ?_; rintro e w4 ⟨rfl, b4⟩; have B4 := Lib.hid (B3.out.trans (b4.mono B3.out.size)); have q4 := Lib.hid (q3.out.call b4); clear qc0 qc1 qc2 qlt; clear HA R3; clear q3))
      all_goals (go_ret; exact ⟨by first | rfl | (simp; done) | (simp; omega), B4.out⟩)
    | true =>
      have ht2 : tells s1 s3 ⟨qa, qv, qp⟩ = true := tells_below ht hu
      have HW := Lib.hid (fun u W EW HR => which_of u [(⟨qa, qv, qp⟩ : Rl)] s1 s2 hq (by omega) 0 (by rw [alone.1, ht]; rfl) W EW HR)
      have HW2 := Lib.hid (fun u W EW HR => which_of u [(⟨qa, qv, qp⟩ : Rl)] s1 s3 hq (by omega) 0 (by rw [alone.1, ht2]; rfl) W EW HR)
      have HA := Lib.hid (fun u W EW HR => allowed_of u [(⟨qa, qv, qp⟩ : Rl)] s1 s3 hq (by omega) qa (by rw [alone.2, ht2]; rfl) W EW HR)
      clear hu ht ht2 hq
      go_enter Tryd.func5, Tryd.ntmps5
      go_wp2_with (first
          | (go_at_call 7; refine (AWK.out _ (E.below ((B0.out).alloc B0.out.size (.cells #[.bool qa, .string ⟨qv.toArray⟩, .string ⟨qp.toArray⟩] 28)))).mono ?_; rintro e w1 ⟨rfl, b1⟩; have B1 := Lib.hid (((B0.out).alloc B0.out.size (.cells #[.bool qa, .string ⟨qv.toArray⟩, .string ⟨qp.toArray⟩] 28)).trans (b1.mono (by have := B0.out.size; simp <;> omega))); have q1 := Lib.hid ((IsRow.made w 28 #[.bool qa, .string ⟨qv.toArray⟩, .string ⟨qp.toArray⟩]).call b1); have qc0 : w1.cell? ⟨w.heap.size, 0, none⟩ = some (.bool qa) := q1.out.cell 0; have qc1 : w1.cell? ⟨w.heap.size, 1, none⟩ = some (.string ⟨qv.toArray⟩) := q1.out.cell 1; have qc2 : w1.cell? ⟨w.heap.size, 2, none⟩ = some (.string ⟨qp.toArray⟩) := q1.out.cell 2; have qlt : w.heap.size < w1.heap.size := q1.out.lt; clear AWK)
          | (go_at_call 16; refine (HU.out _ (E.below (B1.out))).mono ?_; rintro e w2 ⟨rfl, b2⟩; have B2 := Lib.hid (B1.out.trans (b2.mono B1.out.size)); have q2 := Lib.hid (q1.out.call b2); clear qc0 qc1 qc2 qlt; have qc0 : w2.cell? ⟨w.heap.size, 0, none⟩ = some (.bool qa) := q2.out.cell 0; have qc1 : w2.cell? ⟨w.heap.size, 1, none⟩ = some (.string ⟨qv.toArray⟩) := q2.out.cell 1; have qc2 : w2.cell? ⟨w.heap.size, 2, none⟩ = some (.string ⟨qp.toArray⟩) := q2.out.cell 2; have qlt : w.heap.size < w2.heap.size := q2.out.lt; clear HU; clear q1)
          | (go_at_call 12; refine (HW.out _ _ (E.below ((B2.out).alloc B2.out.size (.cells #[.bool qa, .string ⟨qv.toArray⟩, .string ⟨qp.toArray⟩] 28))) (own_lit (base := w.heap.size) (w := w2) ⟨qa, qv, qp⟩ B2.out.size).rules).mono ?_; rintro e w3 ⟨rfl, b3⟩; have B3 := Lib.hid (((B2.out).alloc B2.out.size (.cells #[.bool qa, .string ⟨qv.toArray⟩, .string ⟨qp.toArray⟩] 28)).trans (b3.mono (by have := B2.out.size; simp <;> omega))); have q3 := Lib.hid ((q2.out.alloc (.cells #[.bool qa, .string ⟨qv.toArray⟩, .string ⟨qp.toArray⟩] 28)).call b3); clear qc0 qc1 qc2 qlt; have qc0 : w3.cell? ⟨w.heap.size, 0, none⟩ = some (.bool qa) := q3.out.cell 0; have qc1 : w3.cell? ⟨w.heap.size, 1, none⟩ = some (.string ⟨qv.toArray⟩) := q3.out.cell 1; have qc2 : w3.cell? ⟨w.heap.size, 2, none⟩ = some (.string ⟨qp.toArray⟩) := q3.out.cell 2; have qlt : w.heap.size < w3.heap.size := q3.out.lt; have R3 := Lib.hid ((own_lit (base := w.heap.size) (w := w2) ⟨qa, qv, qp⟩ B2.out.size).rules.call b3); clear HW; clear q2))
      have k0 := cell_regrown (show w3.cell? ⟨w.heap.size, 0, none⟩ = some (.bool qa) from q3.out.cell 0)
      have E3 := E.below B3.out
      have KW := Lib.hid (show ∀ d os, Calls Tryd.prog 12 #[.slice (some ⟨w2.heap.size, 0, none⟩) 1 1, .string ⟨s1.toArray⟩, .string ⟨s3.toArray⟩] (grow (redrawn w3 d) os) fun e w'' => e = .returned (.int .i64 0) ∧ ∃ p : Regrown, w'' = grow (redrawn w3 p.d) p.os from fun d os => Calls.regrown_of (HW2.out _ (grow (redrawn w3 d) os) (E3.below (below_regrown w3 d os)) (R3.out.call (below_regrown w3 d os))))
      have KA := Lib.hid (show ∀ d os, Calls Tryd.prog 14 #[.slice (some ⟨w2.heap.size, 0, none⟩) 1 1, .string ⟨s1.toArray⟩, .string ⟨s3.toArray⟩] (grow (redrawn w3 d) os) fun e w'' => e = .returned (.bool qa) ∧ ∃ p : Regrown, w'' = grow (redrawn w3 p.d) p.os from fun d os => Calls.regrown_of (HA.out _ (grow (redrawn w3 d) os) (E3.below (below_regrown w3 d os)) (R3.out.call (below_regrown w3 d os))))
      refine wp_region_quiet_below (by kernel_rfl) (by kernel_rfl) ?_
      repeat (quiet_step (first | with_reducible exact KW.out _ _ | with_reducible exact KA.out _ _))
      refine wpQuiet_nil ?_
      intro _ hw'
      obtain ⟨⟨dq, osq⟩, hw''⟩ := hw'
      subst hw''
      go_wp2_with fail
      go_ret
      exact ⟨by first | rfl | (simp; done), B3.out.trans ((below_regrown w3 dq osq).mono B3.out.size)⟩

set_option maxRecDepth 100000 in
theorem lifted (os : Os) (started : os.Started) (H : Type) (enc : TypeId × Value → H) :
    ReturnsInHanded {} Tryd.checked os 5 .any (fun w args => (Rows.aclBelowSpec.pre enc Tryd.prog Tryd.f5 [] false w args ∧ laidMetH Tryd.prog laidHere w) ∧ sizedMet enc Tryd.prog Tryd.f5 (OpenSpec.ofChange Rows.aclBelowSpec) false w args)
      (Rows.aclBelowSpec.post enc Tryd.prog Tryd.f5 false true false false) := by
  refine handed started (by kernel_rfl) Tryd.func5 #[.agg #[.bool false, .string ⟨#[]⟩, .string ⟨#[]⟩], .string ⟨#[]⟩, .string ⟨#[]⟩, .string ⟨#[]⟩] (by kernel_rfl) (by kernel_rfl) (by kernel_rfl) (World.shaped_of_ZipB (by kernel_rfl) (by kernel_rfl))
    (by unfold laidHere; rw [MakeChecks.laidMetH_plain _ _ _ (by kernel_rfl)]; exact laidMet_laidAll _ (by kernel_rfl) (by kernel_rfl)) ?_
  intro W base args ds gs before hval0 hW E
  have hval : ∀ (j : Nat) t v, Tryd.f5.params[j]? = some t → args[j]? = some v → Value.okWide Tryd.prog W .any base t v := hval0
  have hW' := hW
  obtain ⟨p, q, hA0, hV, rfl, _, _⟩ := hW
  have hA : DataW.TrodAll enc Tryd.prog W 0 (fun _ => true) true Tryd.f5.params.toList args.toList ds p := hA0
  rw [Tryd.params5] at hA hval
  obtain ⟨v0, vs0, d0, ds0, p0, q0, hargs, rfl, rfl, r0, t0⟩ := trodAll_cons hA
  obtain ⟨v1, vs1, d1, ds1, p1, q1, rfl, rfl, rfl, r1, t1⟩ := trodAll_cons t0
  obtain ⟨v2, vs2, d2, ds2, p2, q2, rfl, rfl, rfl, r2, t2⟩ := trodAll_cons t1
  obtain ⟨v3, vs3, d3, ds3, p3, q3, rfl, rfl, rfl, r3, t3⟩ := trodAll_cons t2
  obtain ⟨rfl, rfl, rfl⟩ := trodAll_nil t3
  obtain rfl : args = #[v0, v1, v2, v3] := by cases args; simp_all
  obtain ⟨rfl, rfl⟩ := trodVars_none hV
  obtain ⟨q0, rfl, rfl, rfl, wv0, wp0⟩ := open_rule (hval 0 28 v0 rfl rfl) r0
  obtain ⟨x1, rfl, rfl, rfl, w1⟩ := open_string Tryd.underlying9 (hval 1 9 v1 rfl rfl) r1
  obtain ⟨s1, rfl⟩ : ∃ l : List UInt8, x1 = ⟨l.toArray⟩ := ⟨x1.data.toList, by simp⟩
  obtain ⟨x2, rfl, rfl, rfl, w2⟩ := open_string Tryd.underlying9 (hval 2 9 v2 rfl rfl) r2
  obtain ⟨s2, rfl⟩ : ∃ l : List UInt8, x2 = ⟨l.toArray⟩ := ⟨x2.data.toList, by simp⟩
  obtain ⟨x3, rfl, rfl, rfl, w3⟩ := open_string Tryd.underlying9 (hval 3 9 v3 rfl rfl) r3
  obtain ⟨s3, rfl⟩ : ∃ l : List UInt8, x3 = ⟨l.toArray⟩ := ⟨x3.data.toList, by simp⟩
  clear hA0 hval0
  simp only [List.append_nil] at hW'
  refine (walk q0 s1 (by have := w1; rw [size_mk] at this; unfold maxLen at this; exact this) s2 (by have := w2; rw [size_mk] at this; unfold maxLen at this; exact this) s3 (by have := w3; rw [size_mk] at this; unfold maxLen at this; exact this) W  E).mono fun e W' ⟨he, hb⟩ => ?_
  subst he
  exact ⟨_, rfl, told hW' (fun _ _ _ => trodAll_cons_mk (shut_bool Tryd.underlying4 _) trodAll_mk0) (trodAll_cons_mk (shut_rule wv0 wp0) (trodAll_cons_mk (shut_string Tryd.underlying9 w1) (trodAll_cons_mk (shut_string Tryd.underlying9 w2) (trodAll_cons_mk (shut_string Tryd.underlying9 w3) trodAll_mk0)))) (fun _ => rfl) hb⟩

theorem over : Rows.AclBelowSaid :=
  OpenClaim.holds_of_wide 5 Tryd.f5 rfl rfl rfl rfl rfl rfl rfl ⟨rfl, rfl, rfl, rfl, rfl⟩ rfl rfl rfl rfl rfl (by kernel_rfl) Tryd.func5 (by kernel_rfl)
    (of_decide_eq_true (by kernel_rfl)) (by unfold Func.isWrapper; first | (rw [if_pos (by decide +kernel)]; kernel_rfl) | (rw [if_neg (by decide +kernel)]; exact ⟨rfl, rfl⟩))
    (fun os started H enc _ => lifted os started H enc)

theorem proved : Rows.AclBelowCardSaid :=
  Claim7.holds_tied_plain_at .later [] Rows.aclBelowCard.laidKinds true Rows.aclBelowCard.stood.harness Rows.aclBelowCard.stood.looks
    over (fun _ h => by cases h) (by kernel_rfl) (fun _ h => by cases h) aclBelow_row_tie rfl ⟨rfl, rfl⟩ (by kernel_rfl) rfl
    (fun f fn hf hfn => by
      obtain rfl : f = 5 := Option.some.inj ((show Tryd.prog.funcNamed "wharfinger/wharfingerlaw11.AclBelow" = some 5 by kernel_rfl).symm.trans hf) |>.symm
      obtain rfl : fn = Tryd.f5 := (Option.some.inj (Tryd.func5.symm.trans hfn)).symm
      exact ⟨by kernel_rfl, fun j t ht => by
        rw [Tryd.params5] at ht
        have hm : t ∈ [28, 9, 9, 9] := by simpa using Array.mem_of_getElem? ht
        have hall : ([28, 9, 9, 9].all fun u => !Tryd.prog.wantsStandIn u) = true := by kernel_rfl
        exact (show Tryd.prog.wantsStandIn t = false by simpa using List.all_eq_true.1 hall t hm)⟩)
    (by kernel_rfl)
#print axioms proved
end Go.Proofs.YtojpahnfhhbnoaaDoor.aclBelow
