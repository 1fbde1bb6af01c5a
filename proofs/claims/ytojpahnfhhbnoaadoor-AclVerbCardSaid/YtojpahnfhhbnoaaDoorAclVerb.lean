/- Proved: for every rules, rule, place, verb and path (held against 20 rules, 300 bytes): a rule of a verb tells nothing of another one; without it the others tell what they told. Conditions: none beyond the row's own (the library's variables start as the program's text lays them: the card ties them). -/
import Derived.Test.YtojpahnfhhbnoaaDoorAclAwake
import Derived.BigQuiet
import Derived.Deep.RegionLaw
import Derived.Deep.QuietTactic

namespace Go.Proofs.YtojpahnfhhbnoaaDoor.aclVerb
open Go.Proofs.YtojpahnfhhbnoaaDoor Go.Proofs.YtojpahnfhhbnoaaDoor.Ac Go.Proofs.YtojpahnfhhbnoaaDoor.Pt Go.Proofs.YtojpahnfhhbnoaaDoor.Quad
open Go.ChangeShapes Go.WideShapes Go.ChangeAt Go.RowKit Go.Sort Go.ChangeMaps
set_option linter.unusedSimpArgs false
set_option linter.unusedVariables false in
set_option maxHeartbeats 2000000 in
set_option maxRecDepth 100000 in
theorem walk (u0 : Value) (s0 : List Rl) (q1 : Rl) (n2 : Int) (l2 : -9223372036854775808 ≤ n2) (h2 : n2 ≤ 9223372036854775807) (s3 : List UInt8) (z3 : s3.length ≤ 9223372036854775807) (s4 : List UInt8) (z4 : s4.length ≤ 9223372036854775807) (w : World) (y0 : RulesIs w u0 s0) (E : Env w) :
    Calls Tryd.prog 6 #[u0, ruleV q1, .int .i64 n2, str s3, str s4] w fun e w' => e = .returned (.bool true) ∧ Below w.heap.size w w' := by
  have AWK := Lib.hid (fun W EW => awake_any W EW)
  have B0 := Lib.hid (Below.refl w.heap.size w)
  obtain ⟨qa, qv, qp⟩ := q1
  obtain ⟨p0, n0, c0, rfl, hn0⟩ := y0.form
  have HN0 := Lib.hid hn0
  have hN0 : n0 ≤ 9223372036854775807 := by have := y0.max; omega
  clear hn0
  have Y0 := Lib.hid y0
  clear y0
  cases hf : fewL s0 with
  | false =>
    have HF := Lib.hid (fun W HR => few_at (.slice p0 n0 c0) s0 false hf W HR)
    clear hf
    go_enter Tryd.func6, Tryd.ntmps6
    go_wp2_with (first
        | (go_at_call 7; refine (AWK.out _ (E.below ((B0.out).alloc B0.out.size (.cells #[.bool qa, .string ⟨qv.toArray⟩, .string ⟨qp.toArray⟩] 28)))).mono ?_; rintro e w1 ⟨rfl, b1⟩; have B1 := Lib.hid (((B0.out).alloc B0.out.size (.cells #[.bool qa, .string ⟨qv.toArray⟩, .string ⟨qp.toArray⟩] 28)).trans (b1.mono (by have := B0.out.size; simp <;> omega))); have q1 := Lib.hid ((IsRow.made w 28 #[.bool qa, .string ⟨qv.toArray⟩, .string ⟨qp.toArray⟩]).call b1); have qc0 : w1.cell? ⟨w.heap.size, 0, none⟩ = some (.bool qa) := q1.out.cell 0; have qc1 : w1.cell? ⟨w.heap.size, 1, none⟩ = some (.string ⟨qv.toArray⟩) := q1.out.cell 1; have qc2 : w1.cell? ⟨w.heap.size, 2, none⟩ = some (.string ⟨qp.toArray⟩) := q1.out.cell 2; have qlt : w.heap.size < w1.heap.size := q1.out.lt; clear AWK)
        | (go_at_call 8; refine (HF.out _ (Y0.out.call (B1.out))).mono ?_; rintro e w2 ⟨rfl, b2⟩; have B2 := Lib.hid (B1.out.trans (b2.mono B1.out.size)); have q2 := Lib.hid (q1.out.call b2); clear qc0 qc1 qc2 qlt; have qc0 : w2.cell? ⟨w.heap.size, 0, none⟩ = some (.bool qa) := q2.out.cell 0; have qc1 : w2.cell? ⟨w.heap.size, 1, none⟩ = some (.string ⟨qv.toArray⟩) := q2.out.cell 1; have qc2 : w2.cell? ⟨w.heap.size, 2, none⟩ = some (.string ⟨qp.toArray⟩) := q2.out.cell 2; have qlt : w.heap.size < w2.heap.size := q2.out.lt; clear HF; clear q1))
    all_goals (go_ret; exact ⟨by first | rfl | (simp; done) | (simp; omega), B2.out⟩)
  | true =>
    have HF := Lib.hid (fun W HR => few_at (.slice p0 n0 c0) s0 true hf W HR)
    have HS0 := Lib.hid (short_few hf)
    have hb0 := (few_of hf).1
    clear hf
    by_cases gv : 300 < qv.length
    · have gv' : (300 : Int) < (qv.length : Int) := by omega
      go_enter Tryd.func6, Tryd.ntmps6
      go_wp2_with (first
          | (go_at_call 7; refine (AWK.out _ (E.below ((B0.out).alloc B0.out.size (.cells #[.bool qa, .string ⟨qv.toArray⟩, .string ⟨qp.toArray⟩] 28)))).mono ?_; rintro e w1 ⟨rfl, b1⟩; have B1 := Lib.hid (((B0.out).alloc B0.out.size (.cells #[.bool qa, .string ⟨qv.toArray⟩, .string ⟨qp.toArray⟩] 28)).trans (b1.mono (by have := B0.out.size; simp <;> omega))); have q1 := Lib.hid ((IsRow.made w 28 #[.bool qa, .string ⟨qv.toArray⟩, .string ⟨qp.toArray⟩]).call b1); have qc0 : w1.cell? ⟨w.heap.size, 0, none⟩ = some (.bool qa) := q1.out.cell 0; have qc1 : w1.cell? ⟨w.heap.size, 1, none⟩ = some (.string ⟨qv.toArray⟩) := q1.out.cell 1; have qc2 : w1.cell? ⟨w.heap.size, 2, none⟩ = some (.string ⟨qp.toArray⟩) := q1.out.cell 2; have qlt : w.heap.size < w1.heap.size := q1.out.lt; clear AWK)
          | (go_at_call 8; refine (HF.out _ (Y0.out.call (B1.out))).mono ?_; rintro e w2 ⟨rfl, b2⟩; have B2 := Lib.hid (B1.out.trans (b2.mono B1.out.size)); have q2 := Lib.hid (q1.out.call b2); clear qc0 qc1 qc2 qlt; have qc0 : w2.cell? ⟨w.heap.size, 0, none⟩ = some (.bool qa) := q2.out.cell 0; have qc1 : w2.cell? ⟨w.heap.size, 1, none⟩ = some (.string ⟨qv.toArray⟩) := q2.out.cell 1; have qc2 : w2.cell? ⟨w.heap.size, 2, none⟩ = some (.string ⟨qp.toArray⟩) := q2.out.cell 2; have qlt : w.heap.size < w2.heap.size := q2.out.lt; clear HF; clear q1))
      all_goals (go_ret; exact ⟨by first | rfl | (simp; done) | (simp; omega), B2.out⟩)
    have gv' : ¬ (300 : Int) < (qv.length : Int) := by omega
    by_cases gp : 300 < qp.length
    · have gp' : (300 : Int) < (qp.length : Int) := by omega
      go_enter Tryd.func6, Tryd.ntmps6
      go_wp2_with (first
          | (go_at_call 7; refine (AWK.out _ (E.below ((B0.out).alloc B0.out.size (.cells #[.bool qa, .string ⟨qv.toArray⟩, .string ⟨qp.toArray⟩] 28)))).mono ?_; rintro e w1 ⟨rfl, b1⟩; have B1 := Lib.hid (((B0.out).alloc B0.out.size (.cells #[.bool qa, .string ⟨qv.toArray⟩, .string ⟨qp.toArray⟩] 28)).trans (b1.mono (by have := B0.out.size; simp <;> omega))); have q1 := Lib.hid ((IsRow.made w 28 #[.bool qa, .string ⟨qv.toArray⟩, .string ⟨qp.toArray⟩]).call b1); have qc0 : w1.cell? ⟨w.heap.size, 0, none⟩ = some (.bool qa) := q1.out.cell 0; have qc1 : w1.cell? ⟨w.heap.size, 1, none⟩ = some (.string ⟨qv.toArray⟩) := q1.out.cell 1; have qc2 : w1.cell? ⟨w.heap.size, 2, none⟩ = some (.string ⟨qp.toArray⟩) := q1.out.cell 2; have qlt : w.heap.size < w1.heap.size := q1.out.lt; clear AWK)
          | (go_at_call 8; refine (HF.out _ (Y0.out.call (B1.out))).mono ?_; rintro e w2 ⟨rfl, b2⟩; have B2 := Lib.hid (B1.out.trans (b2.mono B1.out.size)); have q2 := Lib.hid (q1.out.call b2); clear qc0 qc1 qc2 qlt; have qc0 : w2.cell? ⟨w.heap.size, 0, none⟩ = some (.bool qa) := q2.out.cell 0; have qc1 : w2.cell? ⟨w.heap.size, 1, none⟩ = some (.string ⟨qv.toArray⟩) := q2.out.cell 1; have qc2 : w2.cell? ⟨w.heap.size, 2, none⟩ = some (.string ⟨qp.toArray⟩) := q2.out.cell 2; have qlt : w.heap.size < w2.heap.size := q2.out.lt; clear HF; clear q1))
      all_goals (go_ret; exact ⟨by first | rfl | (simp; done) | (simp; omega), B2.out⟩)
    have gp' : ¬ (300 : Int) < (qp.length : Int) := by omega
    by_cases g3 : 300 < s3.length
    · have g3' : (300 : Int) < (s3.length : Int) := by omega
      go_enter Tryd.func6, Tryd.ntmps6
      go_wp2_with (first
          | (go_at_call 7; refine (AWK.out _ (E.below ((B0.out).alloc B0.out.size (.cells #[.bool qa, .string ⟨qv.toArray⟩, .string ⟨qp.toArray⟩] 28)))).mono ?_; rintro e w1 ⟨rfl, b1⟩; have B1 := Lib.hid (((B0.out).alloc B0.out.size (.cells #[.bool qa, .string ⟨qv.toArray⟩, .string ⟨qp.toArray⟩] 28)).trans (b1.mono (by have := B0.out.size; simp <;> omega))); have q1 := Lib.hid ((IsRow.made w 28 #[.bool qa, .string ⟨qv.toArray⟩, .string ⟨qp.toArray⟩]).call b1); have qc0 : w1.cell? ⟨w.heap.size, 0, none⟩ = some (.bool qa) := q1.out.cell 0; have qc1 : w1.cell? ⟨w.heap.size, 1, none⟩ = some (.string ⟨qv.toArray⟩) := q1.out.cell 1; have qc2 : w1.cell? ⟨w.heap.size, 2, none⟩ = some (.string ⟨qp.toArray⟩) := q1.out.cell 2; have qlt : w.heap.size < w1.heap.size := q1.out.lt; clear AWK)
          | (go_at_call 8; refine (HF.out _ (Y0.out.call (B1.out))).mono ?_; rintro e w2 ⟨rfl, b2⟩; have B2 := Lib.hid (B1.out.trans (b2.mono B1.out.size)); have q2 := Lib.hid (q1.out.call b2); clear qc0 qc1 qc2 qlt; have qc0 : w2.cell? ⟨w.heap.size, 0, none⟩ = some (.bool qa) := q2.out.cell 0; have qc1 : w2.cell? ⟨w.heap.size, 1, none⟩ = some (.string ⟨qv.toArray⟩) := q2.out.cell 1; have qc2 : w2.cell? ⟨w.heap.size, 2, none⟩ = some (.string ⟨qp.toArray⟩) := q2.out.cell 2; have qlt : w.heap.size < w2.heap.size := q2.out.lt; clear HF; clear q1))
      all_goals (go_ret; exact ⟨by first | rfl | (simp; done) | (simp; omega), B2.out⟩)
    have g3' : ¬ (300 : Int) < (s3.length : Int) := by omega
    by_cases g4 : 300 < s4.length
    · have g4' : (300 : Int) < (s4.length : Int) := by omega
      go_enter Tryd.func6, Tryd.ntmps6
      go_wp2_with (first
          | (go_at_call 7; refine (AWK.out _ (E.below ((B0.out).alloc B0.out.size (.cells #[.bool qa, .string ⟨qv.toArray⟩, .string ⟨qp.toArray⟩] 28)))).mono ?_; rintro e w1 ⟨rfl, b1⟩; have B1 := Lib.hid (((B0.out).alloc B0.out.size (.cells #[.bool qa, .string ⟨qv.toArray⟩, .string ⟨qp.toArray⟩] 28)).trans (b1.mono (by have := B0.out.size; simp <;> omega))); have q1 := Lib.hid ((IsRow.made w 28 #[.bool qa, .string ⟨qv.toArray⟩, .string ⟨qp.toArray⟩]).call b1); have qc0 : w1.cell? ⟨w.heap.size, 0, none⟩ = some (.bool qa) := q1.out.cell 0; have qc1 : w1.cell? ⟨w.heap.size, 1, none⟩ = some (.string ⟨qv.toArray⟩) := q1.out.cell 1; have qc2 : w1.cell? ⟨w.heap.size, 2, none⟩ = some (.string ⟨qp.toArray⟩) := q1.out.cell 2; have qlt : w.heap.size < w1.heap.size := q1.out.lt; clear AWK)
          | (go_at_call 8; refine (HF.out _ (Y0.out.call (B1.out))).mono ?_; rintro e w2 ⟨rfl, b2⟩; have B2 := Lib.hid (B1.out.trans (b2.mono B1.out.size)); have q2 := Lib.hid (q1.out.call b2); clear qc0 qc1 qc2 qlt; have qc0 : w2.cell? ⟨w.heap.size, 0, none⟩ = some (.bool qa) := q2.out.cell 0; have qc1 : w2.cell? ⟨w.heap.size, 1, none⟩ = some (.string ⟨qv.toArray⟩) := q2.out.cell 1; have qc2 : w2.cell? ⟨w.heap.size, 2, none⟩ = some (.string ⟨qp.toArray⟩) := q2.out.cell 2; have qlt : w.heap.size < w2.heap.size := q2.out.lt; clear HF; clear q1))
      all_goals (go_ret; exact ⟨by first | rfl | (simp; done) | (simp; omega), B2.out⟩)
    have g4' : ¬ (300 : Int) < (s4.length : Int) := by omega
    by_cases ga : n2 < 0
    · have ga' : n2 < 0 := by omega
      go_enter Tryd.func6, Tryd.ntmps6
      go_wp2_with (first
          | (go_at_call 7; refine (AWK.out _ (E.below ((B0.out).alloc B0.out.size (.cells #[.bool qa, .string ⟨qv.toArray⟩, .string ⟨qp.toArray⟩] 28)))).mono ?_; rintro e w1 ⟨rfl, b1⟩; have B1 := Lib.hid (((B0.out).alloc B0.out.size (.cells #[.bool qa, .string ⟨qv.toArray⟩, .string ⟨qp.toArray⟩] 28)).trans (b1.mono (by have := B0.out.size; simp <;> omega))); have q1 := Lib.hid ((IsRow.made w 28 #[.bool qa, .string ⟨qv.toArray⟩, .string ⟨qp.toArray⟩]).call b1); have qc0 : w1.cell? ⟨w.heap.size, 0, none⟩ = some (.bool qa) := q1.out.cell 0; have qc1 : w1.cell? ⟨w.heap.size, 1, none⟩ = some (.string ⟨qv.toArray⟩) := q1.out.cell 1; have qc2 : w1.cell? ⟨w.heap.size, 2, none⟩ = some (.string ⟨qp.toArray⟩) := q1.out.cell 2; have qlt : w.heap.size < w1.heap.size := q1.out.lt; clear AWK)
          | (go_at_call 8; refine (HF.out _ (Y0.out.call (B1.out))).mono ?_; rintro e w2 ⟨rfl, b2⟩; have B2 := Lib.hid (B1.out.trans (b2.mono B1.out.size)); have q2 := Lib.hid (q1.out.call b2); clear qc0 qc1 qc2 qlt; have qc0 : w2.cell? ⟨w.heap.size, 0, none⟩ = some (.bool qa) := q2.out.cell 0; have qc1 : w2.cell? ⟨w.heap.size, 1, none⟩ = some (.string ⟨qv.toArray⟩) := q2.out.cell 1; have qc2 : w2.cell? ⟨w.heap.size, 2, none⟩ = some (.string ⟨qp.toArray⟩) := q2.out.cell 2; have qlt : w.heap.size < w2.heap.size := q2.out.lt; clear HF; clear q1))
      all_goals (go_ret; exact ⟨by first | rfl | (simp; done) | (simp; omega), B2.out⟩)
    have ga' : ¬ n2 < 0 := by omega
    obtain ⟨k, rfl⟩ : ∃ k : Nat, n2 = (k : Int) := ⟨n2.toNat, by omega⟩
    by_cases gb : n0 < k
    · have gb' : (n0 : Int) < (k : Int) := by omega
      go_enter Tryd.func6, Tryd.ntmps6
      go_wp2_with (first
          | (go_at_call 7; refine (AWK.out _ (E.below ((B0.out).alloc B0.out.size (.cells #[.bool qa, .string ⟨qv.toArray⟩, .string ⟨qp.toArray⟩] 28)))).mono ?_; rintro e w1 ⟨rfl, b1⟩; have B1 := Lib.hid (((B0.out).alloc B0.out.size (.cells #[.bool qa, .string ⟨qv.toArray⟩, .string ⟨qp.toArray⟩] 28)).trans (b1.mono (by have := B0.out.size; simp <;> omega))); have q1 := Lib.hid ((IsRow.made w 28 #[.bool qa, .string ⟨qv.toArray⟩, .string ⟨qp.toArray⟩]).call b1); have qc0 : w1.cell? ⟨w.heap.size, 0, none⟩ = some (.bool qa) := q1.out.cell 0; have qc1 : w1.cell? ⟨w.heap.size, 1, none⟩ = some (.string ⟨qv.toArray⟩) := q1.out.cell 1; have qc2 : w1.cell? ⟨w.heap.size, 2, none⟩ = some (.string ⟨qp.toArray⟩) := q1.out.cell 2; have qlt : w.heap.size < w1.heap.size := q1.out.lt; clear AWK)
          | (go_at_call 8; refine (HF.out _ (Y0.out.call (B1.out))).mono ?_; rintro e w2 ⟨rfl, b2⟩; have B2 := Lib.hid (B1.out.trans (b2.mono B1.out.size)); have q2 := Lib.hid (q1.out.call b2); clear qc0 qc1 qc2 qlt; have qc0 : w2.cell? ⟨w.heap.size, 0, none⟩ = some (.bool qa) := q2.out.cell 0; have qc1 : w2.cell? ⟨w.heap.size, 1, none⟩ = some (.string ⟨qv.toArray⟩) := q2.out.cell 1; have qc2 : w2.cell? ⟨w.heap.size, 2, none⟩ = some (.string ⟨qp.toArray⟩) := q2.out.cell 2; have qlt : w.heap.size < w2.heap.size := q2.out.lt; clear HF; clear q1))
      all_goals (go_ret; exact ⟨by first | rfl | (simp; done) | (simp; omega), B2.out⟩)
    have gb' : ¬ (n0 : Int) < (k : Int) := by omega
    have hk : k ≤ s0.length := by have := HN0.out; omega
    have hk20 : k ≤ 20 := by omega
    cases he : (qv == []) with
    | true =>
      clear hk
      go_enter Tryd.func6, Tryd.ntmps6
      go_wp2_with (first
          | (go_at_call 7; refine (AWK.out _ (E.below ((B0.out).alloc B0.out.size (.cells #[.bool qa, .string ⟨qv.toArray⟩, .string ⟨qp.toArray⟩] 28)))).mono ?_; rintro e w1 ⟨rfl, b1⟩; have B1 := Lib.hid (((B0.out).alloc B0.out.size (.cells #[.bool qa, .string ⟨qv.toArray⟩, .string ⟨qp.toArray⟩] 28)).trans (b1.mono (by have := B0.out.size; simp <;> omega))); have q1 := Lib.hid ((IsRow.made w 28 #[.bool qa, .string ⟨qv.toArray⟩, .string ⟨qp.toArray⟩]).call b1); have qc0 : w1.cell? ⟨w.heap.size, 0, none⟩ = some (.bool qa) := q1.out.cell 0; have qc1 : w1.cell? ⟨w.heap.size, 1, none⟩ = some (.string ⟨qv.toArray⟩) := q1.out.cell 1; have qc2 : w1.cell? ⟨w.heap.size, 2, none⟩ = some (.string ⟨qp.toArray⟩) := q1.out.cell 2; have qlt : w.heap.size < w1.heap.size := q1.out.lt; clear AWK)
          | (go_at_call 8; refine (HF.out _ (Y0.out.call (B1.out))).mono ?_; rintro e w2 ⟨rfl, b2⟩; have B2 := Lib.hid (B1.out.trans (b2.mono B1.out.size)); have q2 := Lib.hid (q1.out.call b2); clear qc0 qc1 qc2 qlt; have qc0 : w2.cell? ⟨w.heap.size, 0, none⟩ = some (.bool qa) := q2.out.cell 0; have qc1 : w2.cell? ⟨w.heap.size, 1, none⟩ = some (.string ⟨qv.toArray⟩) := q2.out.cell 1; have qc2 : w2.cell? ⟨w.heap.size, 2, none⟩ = some (.string ⟨qp.toArray⟩) := q2.out.cell 2; have qlt : w.heap.size < w2.heap.size := q2.out.lt; clear HF; clear q1))
      all_goals (go_ret; exact ⟨by first | rfl | (simp; done) | (simp; omega), B2.out⟩)
    | false =>
      cases hv : (qv == s3) with
      | true =>
        clear hk
        go_enter Tryd.func6, Tryd.ntmps6
        go_wp2_with (first
            | (go_at_call 7; refine (AWK.out _ (E.below ((B0.out).alloc B0.out.size (.cells #[.bool qa, .string ⟨qv.toArray⟩, .string ⟨qp.toArray⟩] 28)))).mono ?_; rintro e w1 ⟨rfl, b1⟩; have B1 := Lib.hid (((B0.out).alloc B0.out.size (.cells #[.bool qa, .string ⟨qv.toArray⟩, .string ⟨qp.toArray⟩] 28)).trans (b1.mono (by have := B0.out.size; simp <;> omega))); have q1 := Lib.hid ((IsRow.made w 28 #[.bool qa, .string ⟨qv.toArray⟩, .string ⟨qp.toArray⟩]).call b1); have qc0 : w1.cell? ⟨w.heap.size, 0, none⟩ = some (.bool qa) := q1.out.cell 0; have qc1 : w1.cell? ⟨w.heap.size, 1, none⟩ = some (.string ⟨qv.toArray⟩) := q1.out.cell 1; have qc2 : w1.cell? ⟨w.heap.size, 2, none⟩ = some (.string ⟨qp.toArray⟩) := q1.out.cell 2; have qlt : w.heap.size < w1.heap.size := q1.out.lt; clear AWK)
            | (go_at_call 8; refine (HF.out _ (Y0.out.call (B1.out))).mono ?_; rintro e w2 ⟨rfl, b2⟩; have B2 := Lib.hid (B1.out.trans (b2.mono B1.out.size)); have q2 := Lib.hid (q1.out.call b2); clear qc0 qc1 qc2 qlt; have qc0 : w2.cell? ⟨w.heap.size, 0, none⟩ = some (.bool qa) := q2.out.cell 0; have qc1 : w2.cell? ⟨w.heap.size, 1, none⟩ = some (.string ⟨qv.toArray⟩) := q2.out.cell 1; have qc2 : w2.cell? ⟨w.heap.size, 2, none⟩ = some (.string ⟨qp.toArray⟩) := q2.out.cell 2; have qlt : w.heap.size < w2.heap.size := q2.out.lt; clear HF; clear q1))
        all_goals (go_ret; exact ⟨by first | rfl | (simp; done) | (simp; omega), B2.out⟩)
      | false =>
        have ht : tells s3 s4 ⟨qa, qv, qp⟩ = false := tells_other (beq_eq_false_iff_ne.1 he) (beq_eq_false_iff_ne.1 hv)
        obtain ⟨p4, n4, c4, hn4, hsl, RT0⟩ := rules_h Y0.out k hk
        obtain ⟨p5, n5, c5, hn5, hsr, RD0⟩ := rules_l Y0.out k hk
        have RT := Lib.hid RT0
        have RD := Lib.hid RD0
        clear RT0 RD0 hn4 hn5
        have HSM : Hid (Short (s0.take k ++ ⟨qa, qv, qp⟩ :: s0.drop k)) := Lib.hid ((HS0.out.take k).append (Short.append (l := [⟨qa, qv, qp⟩]) (Short.one (by show qv.length ≤ _; omega) (by show qp.length ≤ _; omega)) (HS0.out.drop k)))
        have L1 : Hid (0 + (s0.take k).length ≤ 1000000) := Lib.hid (by rw [List.length_take]; omega)
        have L3 : Hid ((s0.take k).length + 1 ≤ 1000000) := Lib.hid (by rw [List.length_take]; omega)
        have L4 : Hid ((s0.take k ++ [(⟨qa, qv, qp⟩ : Rl)]).length + (s0.drop k).length ≤ 1000000) := Lib.hid (by rw [List.length_append, List.length_take, List.length_drop, List.length_singleton]; omega)
        obtain ⟨a, ha⟩ : ∃ a, allowed s0 s3 s4 = a := ⟨_, rfl⟩
        have hm0 := which_other (v := s3) (p := s4) hk ht
        have HA1 := Lib.hid (fun u W EW HR => allowed_of u (s0.take k ++ (⟨qa, qv, qp⟩ : Rl) :: s0.drop k) s3 s4 HSM.out (by omega) a (by rw [allowed_other ht]; exact ha) W EW HR)
        have HA2 := Lib.hid (fun W EW HR => allowed_of (.slice p0 n0 c0) s0 s3 s4 HS0.out (by omega) a ha W EW HR)
        clear ha ht
        rcases which_cases s0 s3 s4 with ⟨h0, -, -⟩ | ⟨i, hi, h0, -, -, -⟩
        · have gi : ¬ (k : Int) ≤ -1 := by omega
          rw [h0, if_neg (by omega)] at hm0
          have hm := hm0
          clear hm0 hk
          have HW1 := Lib.hid (fun W EW HR => which_of (.slice p0 n0 c0) s0 s3 s4 HS0.out (by omega) (-1) h0 W EW HR)
          have HW2 := Lib.hid (fun u W EW HR => which_of u (s0.take k ++ (⟨qa, qv, qp⟩ : Rl) :: s0.drop k) s3 s4 HSM.out (by omega) (-1) hm W EW HR)
          clear h0 hm
          go_enter Tryd.func6, Tryd.ntmps6
          go_wp2_with (first
              | (go_at_call 7; refine (AWK.out _ (E.below ((B0.out).alloc B0.out.size (.cells #[.bool qa, .string ⟨qv.toArray⟩, .string ⟨qp.toArray⟩] 28)))).mono ?_; rintro e w1 ⟨rfl, b1⟩; have B1 := Lib.hid (((B0.out).alloc B0.out.size (.cells #[.bool qa, .string ⟨qv.toArray⟩, .string ⟨qp.toArray⟩] 28)).trans (b1.mono (by have := B0.out.size; simp <;> omega))); have q1 := Lib.hid ((IsRow.made w 28 #[.bool qa, .string ⟨qv.toArray⟩, .string ⟨qp.toArray⟩]).call b1); have qc0 : w1.cell? ⟨w.heap.size, 0, none⟩ = some (.bool qa) := q1.out.cell 0; have qc1 : w1.cell? ⟨w.heap.size, 1, none⟩ = some (.string ⟨qv.toArray⟩) := q1.out.cell 1; have qc2 : w1.cell? ⟨w.heap.size, 2, none⟩ = some (.string ⟨qp.toArray⟩) := q1.out.cell 2; have qlt : w.heap.size < w1.heap.size := q1.out.lt; clear AWK)
              | (go_at_call 8; refine (HF.out _ (Y0.out.call (B1.out))).mono ?_; rintro e w2 ⟨rfl, b2⟩; have B2 := Lib.hid (B1.out.trans (b2.mono B1.out.size)); have q2 := Lib.hid (q1.out.call b2); clear qc0 qc1 qc2 qlt; have qc0 : w2.cell? ⟨w.heap.size, 0, none⟩ = some (.bool qa) := q2.out.cell 0; have qc1 : w2.cell? ⟨w.heap.size, 1, none⟩ = some (.string ⟨qv.toArray⟩) := q2.out.cell 1; have qc2 : w2.cell? ⟨w.heap.size, 2, none⟩ = some (.string ⟨qp.toArray⟩) := q2.out.cell 2; have qlt : w.heap.size < w2.heap.size := q2.out.lt; clear HF; clear q1))
          go_region_law (first | (refine step_append_rules (by rfl) (.const (.slice none 0 0)) (.tmp 71) (by rfl) w.heap.size (.slice none 0 0) [] (by simp [Act.eval, Act.put]) (OwnRules.nil _ _) (.slice p4 n4 c4) (s0.take k) (by simp [Act.eval, Act.put]) (RT.out.call B2.out.drew) L1.out B2.out.size ?_; intro v3 w3 o3 g3 d3; clear d3; have B3 := Lib.hid (B2.out.drew.grown g3 B2.out.size (OwnRules.nil w.heap.size w2).ge); have q3 := Lib.hid (row_grown q2.out.drew g3 (fun e => by cases e)); clear g3; have O3 := Lib.hid (show OwnRules w.heap.size w3 v3 (s0.take k) from o3); obtain ⟨p3, n3, c3, rfl, -⟩ := o3.form; clear o3; have yc0 : w3.cell? ⟨w.heap.size, 0, none⟩ = some (.bool qa) := q3.out.cell 0; have yc1 : w3.cell? ⟨w.heap.size, 1, none⟩ = some (.string ⟨qv.toArray⟩) := q3.out.cell 1; have yc2 : w3.cell? ⟨w.heap.size, 2, none⟩ = some (.string ⟨qp.toArray⟩) := q3.out.cell 2; have ylt := q3.out.lt) | (refine step_append_rules (by rfl) (.const (.slice none 0 0)) (.tmp 71) (by rfl) w.heap.size (.slice none 0 0) [] (by simp [Act.eval, Act.put]) (OwnRules.nil _ _) (.slice p4 n4 c4) (s0.take k) (by simp [Act.eval, Act.put]) (RT.out.call (B2.out.drew.alloc B2.out.size (.cells #[.bool qa, .string ⟨qv.toArray⟩, .string ⟨qp.toArray⟩] 28))) L1.out (Nat.le_trans B2.out.size (by simp)) ?_; intro v3 w3 o3 g3 d3; clear d3; have B3 := Lib.hid ((B2.out.drew.alloc B2.out.size (.cells #[.bool qa, .string ⟨qv.toArray⟩, .string ⟨qp.toArray⟩] 28)).grown g3 (Nat.le_trans B2.out.size (by simp)) (OwnRules.nil w.heap.size w2).ge); have LT3 := Lib.hid ((own_lit (base := w.heap.size) (w := w2.drew) (⟨qa, qv, qp⟩ : Rl) B2.out.size).rules.grown g3 (fun _ _ _ _ _ e => by cases e)); have q3 := Lib.hid (row_grown (q2.out.drew.alloc (.cells #[.bool qa, .string ⟨qv.toArray⟩, .string ⟨qp.toArray⟩] 28)) g3 (fun e => by cases e)); clear g3; have O3 := Lib.hid (show OwnRules w.heap.size w3 v3 (s0.take k) from o3); obtain ⟨p3, n3, c3, rfl, -⟩ := o3.form; clear o3; have yc0 : w3.cell? ⟨w.heap.size, 0, none⟩ = some (.bool qa) := q3.out.cell 0; have yc1 : w3.cell? ⟨w.heap.size, 1, none⟩ = some (.string ⟨qv.toArray⟩) := q3.out.cell 1; have yc2 : w3.cell? ⟨w.heap.size, 2, none⟩ = some (.string ⟨qp.toArray⟩) := q3.out.cell 2; have ylt := q3.out.lt) | (refine step_append_rules (by rfl) (.tmp 72) (.tmp 74) (by rfl) w.heap.size (.slice p3 n3 c3) (s0.take k) (by simp [Act.eval, Act.put]) (O3.out.alloc (.cells #[.bool qa, .string ⟨qv.toArray⟩, .string ⟨qp.toArray⟩] 28)) (.slice (some ⟨w3.heap.size, 0, none⟩) 1 1) [(⟨qa, qv, qp⟩ : Rl)] (by simp [Act.eval, Act.put]) (own_lit (base := w.heap.size) (w := w3) (⟨qa, qv, qp⟩ : Rl) B3.out.size).rules L3.out (Nat.le_trans B3.out.size (by simp)) ?_; intro v5 w5 o5 g5 d5; clear d5; have B5 := Lib.hid ((B3.out.alloc B3.out.size (.cells #[.bool qa, .string ⟨qv.toArray⟩, .string ⟨qp.toArray⟩] 28)).grown g5 (Nat.le_trans B3.out.size (by simp)) O3.out.ge); clear g5; have O5 := Lib.hid (show OwnRules w.heap.size w5 v5 (s0.take k ++ [(⟨qa, qv, qp⟩ : Rl)]) from o5); obtain ⟨p6, n6, c6, rfl, -⟩ := o5.form; clear o5) | (refine step_append_rules (by rfl) (.tmp 72) (.tmp 74) (by rfl) w.heap.size (.slice p3 n3 c3) (s0.take k) (by simp [Act.eval, Act.put]) O3.out (.slice (some ⟨w2.heap.size, 0, none⟩) 1 1) [(⟨qa, qv, qp⟩ : Rl)] (by simp [Act.eval, Act.put]) LT3.out L3.out B3.out.size ?_; intro v5 w5 o5 g5 d5; clear d5; have B5 := Lib.hid (B3.out.grown g5 B3.out.size O3.out.ge); clear g5; have O5 := Lib.hid (show OwnRules w.heap.size w5 v5 (s0.take k ++ [(⟨qa, qv, qp⟩ : Rl)]) from o5); obtain ⟨p6, n6, c6, rfl, -⟩ := o5.form; clear o5))
          all_goals (
            try clear LT3
            try clear yc0 yc1 yc2 ylt
            clear q2 O3 q3 B3 L1 L3 qc0 qc1 qc2 qlt
            go_wp2_with (first
                | (at_builtin; refine wpList_append_rules rfl _ _ rfl w.heap.size (.slice p6 n6 c6) (s0.take k ++ [(⟨qa, qv, qp⟩ : Rl)]) rfl O5.out (.slice p5 n5 c5) (s0.drop k) rfl (RD.out.call B5.out) L4.out B5.out.size ?_; intro v6 w6 o6 g6 d6; clear d6; have B6 := Lib.hid (B5.out.grown g6 B5.out.size O5.out.ge); have R6 := Lib.hid (show RulesIs w6 v6 (s0.take k ++ (⟨qa, qv, qp⟩ : Rl) :: s0.drop k) from by have h := o6.rules; rw [List.append_assoc] at h; exact h); obtain ⟨p7, n7, c7, rfl, -⟩ := o6.form; clear O5 o6 g6)
                | (go_at_call 12; refine (HW1.out _ (E.below (B6.out)) (Y0.out.call (B6.out))).mono ?_; rintro e w7 ⟨rfl, b7⟩; have B7 := Lib.hid (B6.out.trans (b7.mono B6.out.size)); have R7 := Lib.hid (R6.out.call b7); clear HW1 R6)
                | (go_at_call 12; refine (HW2.out _ _ (E.below (B7.out)) R7.out).mono ?_; rintro e w8 ⟨rfl, b8⟩; have B8 := Lib.hid (B7.out.trans (b8.mono B7.out.size)); have R8 := Lib.hid (R7.out.call b8); clear HW2 R7)
                | (go_at_call 14; refine (HA1.out _ _ (E.below (B8.out)) R8.out).mono ?_; rintro e w9 ⟨rfl, b9⟩; have B9 := Lib.hid (B8.out.trans (b9.mono B8.out.size)); clear HA1 R8)
                | (go_at_call 14; refine (HA2.out _ (E.below (B9.out)) (Y0.out.call (B9.out))).mono ?_; rintro e w10 ⟨rfl, b10⟩; have B10 := Lib.hid (B9.out.trans (b10.mono B9.out.size)); clear HA2))
            go_ret
            exact ⟨by first | rfl | (simp; done) | (simp; omega), B10.out⟩)
        have hi20 : i ≤ 20 := by omega
        clear hi
        by_cases hki : k ≤ i
        · have gi : (k : Int) ≤ (i : Int) := by omega
          rw [h0, if_pos (by omega)] at hm0
          have hm := hm0
          clear hm0 hk hki
          have HW1 := Lib.hid (fun W EW HR => which_of (.slice p0 n0 c0) s0 s3 s4 HS0.out (by omega) ((i : Int)) h0 W EW HR)
          have HW2 := Lib.hid (fun u W EW HR => which_of u (s0.take k ++ (⟨qa, qv, qp⟩ : Rl) :: s0.drop k) s3 s4 HSM.out (by omega) ((i : Int) + 1) hm W EW HR)
          clear h0 hm
          go_enter Tryd.func6, Tryd.ntmps6
          go_wp2_with (first
              | (go_at_call 7; refine (AWK.out _ (E.below ((B0.out).alloc B0.out.size (.cells #[.bool qa, .string ⟨qv.toArray⟩, .string ⟨qp.toArray⟩] 28)))).mono ?_; rintro e w1 ⟨rfl, b1⟩; have B1 := Lib.hid (((B0.out).alloc B0.out.size (.cells #[.bool qa, .string ⟨qv.toArray⟩, .string ⟨qp.toArray⟩] 28)).trans (b1.mono (by have := B0.out.size; simp <;> omega))); have q1 := Lib.hid ((IsRow.made w 28 #[.bool qa, .string ⟨qv.toArray⟩, .string ⟨qp.toArray⟩]).call b1); have qc0 : w1.cell? ⟨w.heap.size, 0, none⟩ = some (.bool qa) := q1.out.cell 0; have qc1 : w1.cell? ⟨w.heap.size, 1, none⟩ = some (.string ⟨qv.toArray⟩) := q1.out.cell 1; have qc2 : w1.cell? ⟨w.heap.size, 2, none⟩ = some (.string ⟨qp.toArray⟩) := q1.out.cell 2; have qlt : w.heap.size < w1.heap.size := q1.out.lt; clear AWK)
              | (go_at_call 8; refine (HF.out _ (Y0.out.call (B1.out))).mono ?_; rintro e w2 ⟨rfl, b2⟩; have B2 := Lib.hid (B1.out.trans (b2.mono B1.out.size)); have q2 := Lib.hid (q1.out.call b2); clear qc0 qc1 qc2 qlt; have qc0 : w2.cell? ⟨w.heap.size, 0, none⟩ = some (.bool qa) := q2.out.cell 0; have qc1 : w2.cell? ⟨w.heap.size, 1, none⟩ = some (.string ⟨qv.toArray⟩) := q2.out.cell 1; have qc2 : w2.cell? ⟨w.heap.size, 2, none⟩ = some (.string ⟨qp.toArray⟩) := q2.out.cell 2; have qlt : w.heap.size < w2.heap.size := q2.out.lt; clear HF; clear q1))
          go_region_law (first | (refine step_append_rules (by rfl) (.const (.slice none 0 0)) (.tmp 71) (by rfl) w.heap.size (.slice none 0 0) [] (by simp [Act.eval, Act.put]) (OwnRules.nil _ _) (.slice p4 n4 c4) (s0.take k) (by simp [Act.eval, Act.put]) (RT.out.call B2.out.drew) L1.out B2.out.size ?_; intro v3 w3 o3 g3 d3; clear d3; have B3 := Lib.hid (B2.out.drew.grown g3 B2.out.size (OwnRules.nil w.heap.size w2).ge); have q3 := Lib.hid (row_grown q2.out.drew g3 (fun e => by cases e)); clear g3; have O3 := Lib.hid (show OwnRules w.heap.size w3 v3 (s0.take k) from o3); obtain ⟨p3, n3, c3, rfl, -⟩ := o3.form; clear o3; have yc0 : w3.cell? ⟨w.heap.size, 0, none⟩ = some (.bool qa) := q3.out.cell 0; have yc1 : w3.cell? ⟨w.heap.size, 1, none⟩ = some (.string ⟨qv.toArray⟩) := q3.out.cell 1; have yc2 : w3.cell? ⟨w.heap.size, 2, none⟩ = some (.string ⟨qp.toArray⟩) := q3.out.cell 2; have ylt := q3.out.lt) | (refine step_append_rules (by rfl) (.const (.slice none 0 0)) (.tmp 71) (by rfl) w.heap.size (.slice none 0 0) [] (by simp [Act.eval, Act.put]) (OwnRules.nil _ _) (.slice p4 n4 c4) (s0.take k) (by simp [Act.eval, Act.put]) (RT.out.call (B2.out.drew.alloc B2.out.size (.cells #[.bool qa, .string ⟨qv.toArray⟩, .string ⟨qp.toArray⟩] 28))) L1.out (Nat.le_trans B2.out.size (by simp)) ?_; intro v3 w3 o3 g3 d3; clear d3; have B3 := Lib.hid ((B2.out.drew.alloc B2.out.size (.cells #[.bool qa, .string ⟨qv.toArray⟩, .string ⟨qp.toArray⟩] 28)).grown g3 (Nat.le_trans B2.out.size (by simp)) (OwnRules.nil w.heap.size w2).ge); have LT3 := Lib.hid ((own_lit (base := w.heap.size) (w := w2.drew) (⟨qa, qv, qp⟩ : Rl) B2.out.size).rules.grown g3 (fun _ _ _ _ _ e => by cases e)); have q3 := Lib.hid (row_grown (q2.out.drew.alloc (.cells #[.bool qa, .string ⟨qv.toArray⟩, .string ⟨qp.toArray⟩] 28)) g3 (fun e => by cases e)); clear g3; have O3 := Lib.hid (show OwnRules w.heap.size w3 v3 (s0.take k) from o3); obtain ⟨p3, n3, c3, rfl, -⟩ := o3.form; clear o3; have yc0 : w3.cell? ⟨w.heap.size, 0, none⟩ = some (.bool qa) := q3.out.cell 0; have yc1 : w3.cell? ⟨w.heap.size, 1, none⟩ = some (.string ⟨qv.toArray⟩) := q3.out.cell 1; have yc2 : w3.cell? ⟨w.heap.size, 2, none⟩ = some (.string ⟨qp.toArray⟩) := q3.out.cell 2; have ylt := q3.out.lt) | (refine step_append_rules (by rfl) (.tmp 72) (.tmp 74) (by rfl) w.heap.size (.slice p3 n3 c3) (s0.take k) (by simp [Act.eval, Act.put]) (O3.out.alloc (.cells #[.bool qa, .string ⟨qv.toArray⟩, .string ⟨qp.toArray⟩] 28)) (.slice (some ⟨w3.heap.size, 0, none⟩) 1 1) [(⟨qa, qv, qp⟩ : Rl)] (by simp [Act.eval, Act.put]) (own_lit (base := w.heap.size) (w := w3) (⟨qa, qv, qp⟩ : Rl) B3.out.size).rules L3.out (Nat.le_trans B3.out.size (by simp)) ?_; intro v5 w5 o5 g5 d5; clear d5; have B5 := Lib.hid ((B3.out.alloc B3.out.size (.cells #[.bool qa, .string ⟨qv.toArray⟩, .string ⟨qp.toArray⟩] 28)).grown g5 (Nat.le_trans B3.out.size (by simp)) O3.out.ge); clear g5; have O5 := Lib.hid (show OwnRules w.heap.size w5 v5 (s0.take k ++ [(⟨qa, qv, qp⟩ : Rl)]) from o5); obtain ⟨p6, n6, c6, rfl, -⟩ := o5.form; clear o5) | (refine step_append_rules (by rfl) (.tmp 72) (.tmp 74) (by rfl) w.heap.size (.slice p3 n3 c3) (s0.take k) (by simp [Act.eval, Act.put]) O3.out (.slice (some ⟨w2.heap.size, 0, none⟩) 1 1) [(⟨qa, qv, qp⟩ : Rl)] (by simp [Act.eval, Act.put]) LT3.out L3.out B3.out.size ?_; intro v5 w5 o5 g5 d5; clear d5; have B5 := Lib.hid (B3.out.grown g5 B3.out.size O3.out.ge); clear g5; have O5 := Lib.hid (show OwnRules w.heap.size w5 v5 (s0.take k ++ [(⟨qa, qv, qp⟩ : Rl)]) from o5); obtain ⟨p6, n6, c6, rfl, -⟩ := o5.form; clear o5))
          all_goals (
            try clear LT3
            try clear yc0 yc1 yc2 ylt
            clear q2 O3 q3 B3 L1 L3 qc0 qc1 qc2 qlt
            go_wp2_with (first
                | (at_builtin; refine wpList_append_rules rfl _ _ rfl w.heap.size (.slice p6 n6 c6) (s0.take k ++ [(⟨qa, qv, qp⟩ : Rl)]) rfl O5.out (.slice p5 n5 c5) (s0.drop k) rfl (RD.out.call B5.out) L4.out B5.out.size ?_; intro v6 w6 o6 g6 d6; clear d6; have B6 := Lib.hid (B5.out.grown g6 B5.out.size O5.out.ge); have R6 := Lib.hid (show RulesIs w6 v6 (s0.take k ++ (⟨qa, qv, qp⟩ : Rl) :: s0.drop k) from by have h := o6.rules; rw [List.append_assoc] at h; exact h); obtain ⟨p7, n7, c7, rfl, -⟩ := o6.form; clear O5 o6 g6)
                | (go_at_call 12; refine (HW1.out _ (E.below (B6.out)) (Y0.out.call (B6.out))).mono ?_; rintro e w7 ⟨rfl, b7⟩; have B7 := Lib.hid (B6.out.trans (b7.mono B6.out.size)); have R7 := Lib.hid (R6.out.call b7); clear HW1 R6)
                | (go_at_call 12; refine (HW2.out _ _ (E.below (B7.out)) R7.out).mono ?_; rintro e w8 ⟨rfl, b8⟩; have B8 := Lib.hid (B7.out.trans (b8.mono B7.out.size)); have R8 := Lib.hid (R7.out.call b8); clear HW2 R7)
                | (go_at_call 14; refine (HA1.out _ _ (E.below (B8.out)) R8.out).mono ?_; rintro e w9 ⟨rfl, b9⟩; have B9 := Lib.hid (B8.out.trans (b9.mono B8.out.size)); clear HA1 R8)
                | (go_at_call 14; refine (HA2.out _ (E.below (B9.out)) (Y0.out.call (B9.out))).mono ?_; rintro e w10 ⟨rfl, b10⟩; have B10 := Lib.hid (B9.out.trans (b10.mono B9.out.size)); clear HA2))
            go_ret
            exact ⟨by first | rfl | (simp; done) | (simp; omega), B10.out⟩)
        have gi : ¬ (k : Int) ≤ (i : Int) := by omega
        rw [h0, if_neg (by omega)] at hm0
        have hm := hm0
        clear hm0 hk hki
        have HW1 := Lib.hid (fun W EW HR => which_of (.slice p0 n0 c0) s0 s3 s4 HS0.out (by omega) ((i : Int)) h0 W EW HR)
        have HW2 := Lib.hid (fun u W EW HR => which_of u (s0.take k ++ (⟨qa, qv, qp⟩ : Rl) :: s0.drop k) s3 s4 HSM.out (by omega) ((i : Int)) hm W EW HR)
        clear h0 hm
        go_enter Tryd.func6, Tryd.ntmps6
        go_wp2_with (first
            | (go_at_call 7; refine (AWK.out _ (E.below ((B0.out).alloc B0.out.size (.cells #[.bool qa, .string ⟨qv.toArray⟩, .string ⟨qp.toArray⟩] 28)))).mono ?_; rintro e w1 ⟨rfl, b1⟩; have B1 := Lib.hid (((B0.out).alloc B0.out.size (.cells #[.bool qa, .string ⟨qv.toArray⟩, .string ⟨qp.toArray⟩] 28)).trans (b1.mono (by have := B0.out.size; simp <;> omega))); have q1 := Lib.hid ((IsRow.made w 28 #[.bool qa, .string ⟨qv.toArray⟩, .string ⟨qp.toArray⟩]).call b1); have qc0 : w1.cell? ⟨w.heap.size, 0, none⟩ = some (.bool qa) := q1.out.cell 0; have qc1 : w1.cell? ⟨w.heap.size, 1, none⟩ = some (.string ⟨qv.toArray⟩) := q1.out.cell 1; have qc2 : w1.cell? ⟨w.heap.size, 2, none⟩ = some (.string ⟨qp.toArray⟩) := q1.out.cell 2; have qlt : w.heap.size < w1.heap.size := q1.out.lt; clear AWK)
            | (go_at_call 8; refine (HF.out _ (Y0.out.call (B1.out))).mono ?_; rintro e w2 ⟨rfl, b2⟩; have B2 := Lib.hid (B1.out.trans (b2.mono B1.out.size)); have q2 := Lib.hid (q1.out.call b2); clear qc0 qc1 qc2 qlt; have qc0 : w2.cell? ⟨w.heap.size, 0, none⟩ = some (.bool qa) := q2.out.cell 0; have qc1 : w2.cell? ⟨w.heap.size, 1, none⟩ = some (.string ⟨qv.toArray⟩) := q2.out.cell 1; have qc2 : w2.cell? ⟨w.heap.size, 2, none⟩ = some (.string ⟨qp.toArray⟩) := q2.out.cell 2; have qlt : w.heap.size < w2.heap.size := q2.out.lt; clear HF; clear q1))
        go_region_law (first | (refine step_append_rules (by rfl) (.const (.slice none 0 0)) (.tmp 71) (by rfl) w.heap.size (.slice none 0 0) [] (by simp [Act.eval, Act.put]) (OwnRules.nil _ _) (.slice p4 n4 c4) (s0.take k) (by simp [Act.eval, Act.put]) (RT.out.call B2.out.drew) L1.out B2.out.size ?_; intro v3 w3 o3 g3 d3; clear d3; have B3 := Lib.hid (B2.out.drew.grown g3 B2.out.size (OwnRules.nil w.heap.size w2).ge); have q3 := Lib.hid (row_grown q2.out.drew g3 (fun e => by cases e)); clear g3; have O3 := Lib.hid (show OwnRules w.heap.size w3 v3 (s0.take k) from o3); obtain ⟨p3, n3, c3, rfl, -⟩ := o3.form; clear o3; have yc0 : w3.cell? ⟨w.heap.size, 0, none⟩ = some (.bool qa) := q3.out.cell 0; have yc1 : w3.cell? ⟨w.heap.size, 1, none⟩ = some (.string ⟨qv.toArray⟩) := q3.out.cell 1; have yc2 : w3.cell? ⟨w.heap.size, 2, none⟩ = some (.string ⟨qp.toArray⟩) := q3.out.cell 2; have ylt := q3.out.lt) | (refine step_append_rules (by rfl) (.const (.slice none 0 0)) (.tmp 71) (by rfl) w.heap.size (.slice none 0 0) [] (by simp [Act.eval, Act.put]) (OwnRules.nil _ _) (.slice p4 n4 c4) (s0.take k) (by simp [Act.eval, Act.put]) (RT.out.call (B2.out.drew.alloc B2.out.size (.cells #[.bool qa, .string ⟨qv.toArray⟩, .string ⟨qp.toArray⟩] 28))) L1.out (Nat.le_trans B2.out.size (by simp)) ?_; intro v3 w3 o3 g3 d3; clear d3; have B3 := Lib.hid ((B2.out.drew.alloc B2.out.size (.cells #[.bool qa, .string ⟨qv.toArray⟩, .string ⟨qp.toArray⟩] 28)).grown g3 (Nat.le_trans B2.out.size (by simp)) (OwnRules.nil w.heap.size w2).ge); have LT3 := Lib.hid ((own_lit (base := w.heap.size) (w := w2.drew) (⟨qa, qv, qp⟩ : Rl) B2.out.size).rules.grown g3 (fun _ _ _ _ _ e => by cases e)); have q3 := Lib.hid (row_grown (q2.out.drew.alloc (.cells #[.bool qa, .string ⟨qv.toArray⟩, .string ⟨qp.toArray⟩] 28)) g3 (fun e => by cases e)); clear g3; have O3 := Lib.hid (show OwnRules w.heap.size w3 v3 (s0.take k) from o3); obtain ⟨p3, n3, c3, rfl, -⟩ := o3.form; clear o3; have yc0 : w3.cell? ⟨w.heap.size, 0, none⟩ = some (.bool qa) := q3.out.cell 0; have yc1 : w3.cell? ⟨w.heap.size, 1, none⟩ = some (.string ⟨qv.toArray⟩) := q3.out.cell 1; have yc2 : w3.cell? ⟨w.heap.size, 2, none⟩ = some (.string ⟨qp.toArray⟩) := q3.out.cell 2; have ylt := q3.out.lt) | (refine step_append_rules (by rfl) (.tmp 72) (.tmp 74) (by rfl) w.heap.size (.slice p3 n3 c3) (s0.take k) (by simp [Act.eval, Act.put]) (O3.out.alloc (.cells #[.bool qa, .string ⟨qv.toArray⟩, .string ⟨qp.toArray⟩] 28)) (.slice (some ⟨w3.heap.size, 0, none⟩) 1 1) [(⟨qa, qv, qp⟩ : Rl)] (by simp [Act.eval, Act.put]) (own_lit (base := w.heap.size) (w := w3) (⟨qa, qv, qp⟩ : Rl) B3.out.size).rules L3.out (Nat.le_trans B3.out.size (by simp)) ?_; intro v5 w5 o5 g5 d5; clear d5; have B5 := Lib.hid ((B3.out.alloc B3.out.size (.cells #[.bool qa, .string ⟨qv.toArray⟩, .string ⟨qp.toArray⟩] 28)).grown g5 (Nat.le_trans B3.out.size (by simp)) O3.out.ge); clear g5; have O5 := Lib.hid (show OwnRules w.heap.size w5 v5 (s0.take k ++ [(⟨qa, qv, qp⟩ : Rl)]) from o5); obtain ⟨p6, n6, c6, rfl, -⟩ := o5.form; clear o5) | (refine step_append_rules (by rfl) (.tmp 72) (.tmp 74) (by rfl) w.heap.size (.slice p3 n3 c3) (s0.take k) (by simp [Act.eval, Act.put]) O3.out (.slice (some ⟨w2.heap.size, 0, none⟩) 1 1) [(⟨qa, qv, qp⟩ : Rl)] (by simp [Act.eval, Act.put]) LT3.out L3.out B3.out.size ?_; intro v5 w5 o5 g5 d5; clear d5; have B5 := Lib.hid (B3.out.grown g5 B3.out.size O3.out.ge); clear g5; have O5 := Lib.hid (show OwnRules w.heap.size w5 v5 (s0.take k ++ [(⟨qa, qv, qp⟩ : Rl)]) from o5); obtain ⟨p6, n6, c6, rfl, -⟩ := o5.form; clear o5))
        all_goals (
          try clear LT3
          try clear yc0 yc1 yc2 ylt
          clear q2 O3 q3 B3 L1 L3 qc0 qc1 qc2 qlt
          go_wp2_with (first
              | (at_builtin; refine wpList_append_rules rfl _ _ rfl w.heap.size (.slice p6 n6 c6) (s0.take k ++ [(⟨qa, qv, qp⟩ : Rl)]) rfl O5.out (.slice p5 n5 c5) (s0.drop k) rfl (RD.out.call B5.out) L4.out B5.out.size ?_; intro v6 w6 o6 g6 d6; clear d6; have B6 := Lib.hid (B5.out.grown g6 B5.out.size O5.out.ge); have R6 := Lib.hid (show RulesIs w6 v6 (s0.take k ++ (⟨qa, qv, qp⟩ : Rl) :: s0.drop k) from by have h := o6.rules; rw [List.append_assoc] at h; exact h); obtain ⟨p7, n7, c7, rfl, -⟩ := o6.form; clear O5 o6 g6)
              | (go_at_call 12; refine (HW1.out _ (E.below (B6.out)) (Y0.out.call (B6.out))).mono ?_; rintro e w7 ⟨rfl, b7⟩; have B7 := Lib.hid (B6.out.trans (b7.mono B6.out.size)); have R7 := Lib.hid (R6.out.call b7); clear HW1 R6)
              | (go_at_call 12; refine (HW2.out _ _ (E.below (B7.out)) R7.out).mono ?_; rintro e w8 ⟨rfl, b8⟩; have B8 := Lib.hid (B7.out.trans (b8.mono B7.out.size)); have R8 := Lib.hid (R7.out.call b8); clear HW2 R7)
              | (go_at_call 14; refine (HA1.out _ _ (E.below (B8.out)) R8.out).mono ?_; rintro e w9 ⟨rfl, b9⟩; have B9 := Lib.hid (B8.out.trans (b9.mono B8.out.size)); clear HA1 R8)
              | (go_at_call 14; refine (HA2.out _ (E.below (B9.out)) (Y0.out.call (B9.out))).mono ?_; rintro e w10 ⟨rfl, b10⟩; have B10 := Lib.hid (B9.out.trans (b10.mono B9.out.size)); clear HA2))
          go_ret
          exact ⟨by first | rfl | (simp; done) | (simp; omega), B10.out⟩)

set_option maxRecDepth 100000 in
theorem lifted (os : Os) (started : os.Started) (H : Type) (enc : TypeId × Value → H) :
    ReturnsInHanded {} Tryd.checked os 6 .any (fun w args => (Rows.aclVerbSpec.pre enc Tryd.prog Tryd.f6 [] false w args ∧ laidMetH Tryd.prog laidHere w) ∧ sizedMet enc Tryd.prog Tryd.f6 (OpenSpec.ofChange Rows.aclVerbSpec) false w args)
      (Rows.aclVerbSpec.post enc Tryd.prog Tryd.f6 false true false false) := by
  refine handed started (by kernel_rfl) Tryd.func6 #[.slice none 0 0, .agg #[.bool false, .string ⟨#[]⟩, .string ⟨#[]⟩], .int .i64 0, .string ⟨#[]⟩, .string ⟨#[]⟩] (by kernel_rfl) (by kernel_rfl) (by kernel_rfl) (World.shaped_of_ZipB (by kernel_rfl) (by kernel_rfl))
    (by unfold laidHere; rw [MakeChecks.laidMetH_plain _ _ _ (by kernel_rfl)]; exact laidMet_laidAll _ (by kernel_rfl) (by kernel_rfl)) ?_
  intro W base args ds gs before hval0 hW E
  have hval : ∀ (j : Nat) t v, Tryd.f6.params[j]? = some t → args[j]? = some v → Value.okWide Tryd.prog W .any base t v := hval0
  have hW' := hW
  obtain ⟨p, q, hA0, hV, rfl, _, _⟩ := hW
  have hA : DataW.TrodAll enc Tryd.prog W 0 (fun _ => true) true Tryd.f6.params.toList args.toList ds p := hA0
  rw [Tryd.params6] at hA hval
  obtain ⟨v0, vs0, d0, ds0, p0, q0, hargs, rfl, rfl, r0, t0⟩ := trodAll_cons hA
  obtain ⟨v1, vs1, d1, ds1, p1, q1, rfl, rfl, rfl, r1, t1⟩ := trodAll_cons t0
  obtain ⟨v2, vs2, d2, ds2, p2, q2, rfl, rfl, rfl, r2, t2⟩ := trodAll_cons t1
  obtain ⟨v3, vs3, d3, ds3, p3, q3, rfl, rfl, rfl, r3, t3⟩ := trodAll_cons t2
  obtain ⟨v4, vs4, d4, ds4, p4, q4, rfl, rfl, rfl, r4, t4⟩ := trodAll_cons t3
  obtain ⟨rfl, rfl, rfl⟩ := trodAll_nil t4
  obtain rfl : args = #[v0, v1, v2, v3, v4] := by cases args; simp_all
  obtain ⟨rfl, rfl⟩ := trodVars_none hV
  obtain ⟨s0, y0, z0, k0⟩ := open_rules (hval 0 22 v0 rfl rfl) r0
  obtain ⟨q1, rfl, rfl, rfl, wv1, wp1⟩ := open_rule (hval 1 28 v1 rfl rfl) r1
  obtain ⟨n2, rfl, rfl, rfl, w2⟩ := open_int Tryd.underlying3 (hval 2 3 v2 rfl rfl) r2
  obtain ⟨x3, rfl, rfl, rfl, w3⟩ := open_string Tryd.underlying9 (hval 3 9 v3 rfl rfl) r3
  obtain ⟨s3, rfl⟩ : ∃ l : List UInt8, x3 = ⟨l.toArray⟩ := ⟨x3.data.toList, by simp⟩
  obtain ⟨x4, rfl, rfl, rfl, w4⟩ := open_string Tryd.underlying9 (hval 4 9 v4 rfl rfl) r4
  obtain ⟨s4, rfl⟩ : ∃ l : List UInt8, x4 = ⟨l.toArray⟩ := ⟨x4.data.toList, by simp⟩
  clear hA0 hval0
  simp only [List.append_nil] at hW'
  refine (walk v0 s0 q1 n2 (int_wf w2).1 (int_wf w2).2 s3 (by have := w3; rw [size_mk] at this; unfold maxLen at this; exact this) s4 (by have := w4; rw [size_mk] at this; unfold maxLen at this; exact this) W y0 E).mono fun e W' ⟨he, hb⟩ => ?_
  subst he
  obtain ⟨pa0, t0'⟩ := k0 W' hb
  exact ⟨_, rfl, told hW' (fun _ _ _ => trodAll_cons_mk (shut_bool Tryd.underlying4 _) trodAll_mk0) (trodAll_cons_mk (t0') (trodAll_cons_mk (shut_rule wv1 wp1) (trodAll_cons_mk (shut_int Tryd.underlying3 w2) (trodAll_cons_mk (shut_string Tryd.underlying9 w3) (trodAll_cons_mk (shut_string Tryd.underlying9 w4) trodAll_mk0))))) (fun _ => rfl) hb⟩

theorem over : Rows.AclVerbSaid :=
  OpenClaim.holds_of_wide 6 Tryd.f6 rfl rfl rfl rfl rfl rfl rfl ⟨rfl, rfl, rfl, rfl, rfl⟩ rfl rfl rfl rfl rfl (by kernel_rfl) Tryd.func6 (by kernel_rfl)
    (of_decide_eq_true (by kernel_rfl)) (by unfold Func.isWrapper; first | (rw [if_pos (by decide +kernel)]; kernel_rfl) | (rw [if_neg (by decide +kernel)]; exact ⟨rfl, rfl⟩))
    (fun os started H enc _ => lifted os started H enc)

theorem proved : Rows.AclVerbCardSaid :=
  Claim7.holds_tied_plain_at .later [] Rows.aclVerbCard.laidKinds true Rows.aclVerbCard.stood.harness Rows.aclVerbCard.stood.looks
    over (fun _ h => by cases h) (by kernel_rfl) (fun _ h => by cases h) aclVerb_row_tie rfl ⟨rfl, rfl⟩ (by kernel_rfl) rfl
    (fun f fn hf hfn => by
      obtain rfl : f = 6 := Option.some.inj ((show Tryd.prog.funcNamed "wharfinger/wharfingerlaw11.AclVerb" = some 6 by kernel_rfl).symm.trans hf) |>.symm
      obtain rfl : fn = Tryd.f6 := (Option.some.inj (Tryd.func6.symm.trans hfn)).symm
      exact ⟨by kernel_rfl, fun j t ht => by
        rw [Tryd.params6] at ht
        have hm : t ∈ [22, 28, 3, 9, 9] := by simpa using Array.mem_of_getElem? ht
        have hall : ([22, 28, 3, 9, 9].all fun u => !Tryd.prog.wantsStandIn u) = true := by kernel_rfl
        exact (show Tryd.prog.wantsStandIn t = false by simpa using List.all_eq_true.1 hall t hm)⟩)
    (by kernel_rfl)
#print axioms proved
end Go.Proofs.YtojpahnfhhbnoaaDoor.aclVerb
