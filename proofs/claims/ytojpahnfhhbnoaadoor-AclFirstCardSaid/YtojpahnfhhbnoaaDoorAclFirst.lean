/- Proved: for every two lists of rules, verb and path (held against 20 rules, 300 bytes): what stands behind the rule that tells does not matter; ahead of it stands none that tells; a rule of all, ahead of them, tells of all that may be. Conditions: none beyond the row's own (the library's variables start as the program's text lays them: the card ties them). -/
import Derived.Test.YtojpahnfhhbnoaaDoorAclAwake
import Derived.BigQuiet
import Derived.Deep.RegionLaw
import Derived.Deep.QuietTactic

namespace Go.Proofs.YtojpahnfhhbnoaaDoor.aclFirst
open Go.Proofs.YtojpahnfhhbnoaaDoor Go.Proofs.YtojpahnfhhbnoaaDoor.Ac Go.Proofs.YtojpahnfhhbnoaaDoor.Pt Go.Proofs.YtojpahnfhhbnoaaDoor.Quad
open Go.ChangeShapes Go.WideShapes Go.ChangeAt Go.RowKit Go.Sort Go.ChangeMaps

set_option linter.unusedVariables false in
set_option maxHeartbeats 2000000 in
set_option maxRecDepth 100000 in
theorem walk (u0 : Value) (s0 : List Rl) (u1 : Value) (s1 : List Rl) (s2 : List UInt8) (z2 : s2.length ≤ 9223372036854775807) (s3 : List UInt8) (z3 : s3.length ≤ 9223372036854775807) (b4 : Bool) (w : World) (y0 : RulesIs w u0 s0) (y1 : RulesIs w u1 s1) (E : Env w) :
    Calls Tryd.prog 4 #[u0, u1, str s2, str s3, .bool b4] w fun e w' => e = .returned (.bool true) ∧ Below w.heap.size w w' := by
  have AWK := Lib.hid (fun W EW => awake_any W EW)
  have B0 := Lib.hid (Below.refl w.heap.size w)
  generalize b4 = al
  obtain ⟨p0, n0, c0, rfl, hn0⟩ := y0.form
  have HN0 := Lib.hid hn0
  clear hn0
  have Y0 := Lib.hid y0
  have Y1 := Lib.hid y1
  clear y0 y1
  cases hf0 : fewL s0 with
  | false =>
    have HF0 := Lib.hid (fun W HR => few_at (.slice p0 n0 c0) s0 false hf0 W HR)
    cases hf1 : fewL s1 with
    | false =>
      have HF1 := Lib.hid (fun W HR => few_at u1 s1 false hf1 W HR)
      clear hf0 hf1
      go_enter Tryd.func4, Tryd.ntmps4
      go_wp2_with (first
          | (go_at_call 7; refine (AWK.out _ (E.below (B0.out))).mono ?_; rintro e w1 ⟨rfl, b1⟩; have B1 := Lib.hid (B0.out.trans (b1.mono B0.out.size)); clear AWK)
          | (go_at_call 8; refine (HF0.out _ (Y0.out.call (B1.out))).mono ?_; rintro e w2 ⟨rfl, b2⟩; have B2 := Lib.hid (B1.out.trans (b2.mono B1.out.size)); clear HF0)
          | (go_at_call 8; refine (HF1.out _ (Y1.out.call (B2.out))).mono ?_; rintro e w3 ⟨rfl, b3⟩; have B3 := Lib.hid (B2.out.trans (b3.mono B2.out.size)); clear HF1))
      all_goals (go_ret; exact ⟨by first | rfl | (simp; done) | (simp; omega), B3.out⟩)
    | true =>
      have HF1 := Lib.hid (fun W HR => few_at u1 s1 true hf1 W HR)
      clear hf0 hf1
      go_enter Tryd.func4, Tryd.ntmps4
      go_wp2_with (first
          | (go_at_call 7; refine (AWK.out _ (E.below (B0.out))).mono ?_; rintro e w1 ⟨rfl, b1⟩; have B1 := Lib.hid (B0.out.trans (b1.mono B0.out.size)); clear AWK)
          | (go_at_call 8; refine (HF0.out _ (Y0.out.call (B1.out))).mono ?_; rintro e w2 ⟨rfl, b2⟩; have B2 := Lib.hid (B1.out.trans (b2.mono B1.out.size)); clear HF0)
          | (go_at_call 8; refine (HF1.out _ (Y1.out.call (B2.out))).mono ?_; rintro e w3 ⟨rfl, b3⟩; have B3 := Lib.hid (B2.out.trans (b3.mono B2.out.size)); clear HF1))
      all_goals (go_ret; exact ⟨by first | rfl | (simp; done) | (simp; omega), B3.out⟩)
  | true =>
    have HF0 := Lib.hid (fun W HR => few_at (.slice p0 n0 c0) s0 true hf0 W HR)
    have HS0 := Lib.hid (short_few hf0)
    have hb0 := (few_of hf0).1
    cases hf1 : fewL s1 with
    | false =>
      have HF1 := Lib.hid (fun W HR => few_at u1 s1 false hf1 W HR)
      clear hf0 hf1
      go_enter Tryd.func4, Tryd.ntmps4
      go_wp2_with (first
          | (go_at_call 7; refine (AWK.out _ (E.below (B0.out))).mono ?_; rintro e w1 ⟨rfl, b1⟩; have B1 := Lib.hid (B0.out.trans (b1.mono B0.out.size)); clear AWK)
          | (go_at_call 8; refine (HF0.out _ (Y0.out.call (B1.out))).mono ?_; rintro e w2 ⟨rfl, b2⟩; have B2 := Lib.hid (B1.out.trans (b2.mono B1.out.size)); clear HF0)
          | (go_at_call 8; refine (HF1.out _ (Y1.out.call (B2.out))).mono ?_; rintro e w3 ⟨rfl, b3⟩; have B3 := Lib.hid (B2.out.trans (b3.mono B2.out.size)); clear HF1))
      all_goals (go_ret; exact ⟨by first | rfl | (simp; done) | (simp; omega), B3.out⟩)
    | true =>
      have HF1 := Lib.hid (fun W HR => few_at u1 s1 true hf1 W HR)
      have HS1 := Lib.hid (short_few hf1)
      have hb1 := (few_of hf1).1
      clear hf0 hf1
      by_cases g2 : 300 < s2.length
      · have g2' : (300 : Int) < (s2.length : Int) := by omega
        go_enter Tryd.func4, Tryd.ntmps4
        go_wp2_with (first
            | (go_at_call 7; refine (AWK.out _ (E.below (B0.out))).mono ?_; rintro e w1 ⟨rfl, b1⟩; have B1 := Lib.hid (B0.out.trans (b1.mono B0.out.size)); clear AWK)
            | (go_at_call 8; refine (HF0.out _ (Y0.out.call (B1.out))).mono ?_; rintro e w2 ⟨rfl, b2⟩; have B2 := Lib.hid (B1.out.trans (b2.mono B1.out.size)); clear HF0)
            | (go_at_call 8; refine (HF1.out _ (Y1.out.call (B2.out))).mono ?_; rintro e w3 ⟨rfl, b3⟩; have B3 := Lib.hid (B2.out.trans (b3.mono B2.out.size)); clear HF1))
        all_goals (go_ret; exact ⟨by first | rfl | (simp; done) | (simp; omega), B3.out⟩)
      have g2' : ¬ (300 : Int) < (s2.length : Int) := by omega
      by_cases g3 : 300 < s3.length
      · have g3' : (300 : Int) < (s3.length : Int) := by omega
        go_enter Tryd.func4, Tryd.ntmps4
        go_wp2_with (first
            | (go_at_call 7; refine (AWK.out _ (E.below (B0.out))).mono ?_; rintro e w1 ⟨rfl, b1⟩; have B1 := Lib.hid (B0.out.trans (b1.mono B0.out.size)); clear AWK)
            | (go_at_call 8; refine (HF0.out _ (Y0.out.call (B1.out))).mono ?_; rintro e w2 ⟨rfl, b2⟩; have B2 := Lib.hid (B1.out.trans (b2.mono B1.out.size)); clear HF0)
            | (go_at_call 8; refine (HF1.out _ (Y1.out.call (B2.out))).mono ?_; rintro e w3 ⟨rfl, b3⟩; have B3 := Lib.hid (B2.out.trans (b3.mono B2.out.size)); clear HF1))
        all_goals (go_ret; exact ⟨by first | rfl | (simp; done) | (simp; omega), B3.out⟩)
      have g3' : ¬ (300 : Int) < (s3.length : Int) := by omega
      have HSB := Lib.hid (HS0.out.append HS1.out)
      have HSA : Hid (∀ b, Short (⟨b, [], [47]⟩ :: s0)) := Lib.hid (fun b => Short.append (l := [⟨b, [], [47]⟩]) (Short.one (r := ⟨b, [], [47]⟩) (by show 0 ≤ _; omega) (by show 1 ≤ _; omega)) HS0.out)
      have hn20 : n0 ≤ 20 := by rw [HN0.out]; exact hb0
      have L1 : Hid (0 + s0.length ≤ 1000000) := Lib.hid (by omega)
      have L2 : Hid (s0.length + s1.length ≤ 1000000) := Lib.hid (by omega)
      have L3 : Hid (1 + s0.length ≤ 1000000) := Lib.hid (by omega)
      rcases which_cases s0 s2 s3 with ⟨h0, -, -⟩ | ⟨i, hi, h0, ha, -, -⟩
      · have HW := Lib.hid (fun W EW HR => which_of (.slice p0 n0 c0) s0 s2 s3 HS0.out (by omega) (-1) h0 W EW HR)
        obtain ⟨kn, ky⟩ := both_then (l := s0) (m := s1) (v := s2) (p := s3) (by rw [h0]; decide)
        rcases which_cases s1 s2 s3 with ⟨h1, -, -⟩ | ⟨k, hk, h1, -, -, -⟩
        · have hb := kn (by rw [h1]; decide)
          clear h0 kn ky
          cases al with
          | false =>
            have HAL := Lib.hid (fun u W EW HR => allowed_of u (⟨false, [], [47]⟩ :: s0) s2 s3 (HSA.out _) (by omega) false (by rw [allowed_all]; rfl) W EW HR)
            have HW1 := Lib.hid (fun W EW HR => which_of u1 s1 s2 s3 HS1.out (by omega) (-1) h1 W EW HR)
            have HW2 := Lib.hid (fun u W EW HR => which_of u (s0 ++ s1) s2 s3 HSB.out (by omega) (-1) hb W EW HR)
            clear h1 hb
            go_enter Tryd.func4, Tryd.ntmps4
            go_wp2_with (first
                | (go_at_call 7; refine (AWK.out _ (E.below (B0.out))).mono ?_; rintro e w1 ⟨rfl, b1⟩; have B1 := Lib.hid (B0.out.trans (b1.mono B0.out.size)); clear AWK)
                | (go_at_call 8; refine (HF0.out _ (Y0.out.call (B1.out))).mono ?_; rintro e w2 ⟨rfl, b2⟩; have B2 := Lib.hid (B1.out.trans (b2.mono B1.out.size)); clear HF0)
                | (go_at_call 8; refine (HF1.out _ (Y1.out.call (B2.out))).mono ?_; rintro e w3 ⟨rfl, b3⟩; have B3 := Lib.hid (B2.out.trans (b3.mono B2.out.size)); clear HF1)
                | (go_at_call 12; refine (HW.out _ (E.below (B3.out)) (Y0.out.call (B3.out))).mono ?_; rintro e w4 ⟨rfl, b4⟩; have B4 := Lib.hid (B3.out.trans (b4.mono B3.out.size)); clear HW)
                | (at_builtin; refine wpList_append_rules rfl _ _ rfl w.heap.size (.slice none 0 0) [] rfl (OwnRules.nil _ _) (.slice p0 n0 c0) s0 rfl (Y0.out.call B4.out) L1.out B4.out.size ?_; clear L1; intro v1 w5 o1 g1 d1; clear d1; have B5 := Lib.hid (B4.out.grown g1 B4.out.size (OwnRules.nil w.heap.size w4).ge); have O1 := Lib.hid (show OwnRules w.heap.size w5 v1 s0 from o1); obtain ⟨p1, n1, c1, rfl, -⟩ := o1.form; clear o1 g1)
                | (at_builtin; refine wpList_append_rules rfl _ _ rfl w.heap.size (.slice p1 n1 c1) s0 rfl O1.out u1 s1 rfl (Y1.out.call B5.out) L2.out B5.out.size ?_; intro v2 w6 o2 g2 d2; clear d2; have B6 := Lib.hid (B5.out.grown g2 B5.out.size O1.out.ge); have R6 := Lib.hid o2.rules; obtain ⟨p2, n2, c2, rfl, -⟩ := o2.form; clear O1 o2 g2)
                | (at_builtin; refine wpList_append_rules rfl _ _ rfl w.heap.size (.slice (some ⟨w6.heap.size, 0, none⟩) 1 1) [⟨false, [], [47]⟩] rfl (own_lit (base := w.heap.size) (w := w6) ⟨false, [], [47]⟩ B6.out.size) (.slice p0 n0 c0) s0 rfl ((Y0.out.call B6.out).alloc _) L3.out (Nat.le_trans B6.out.size (by simp)) ?_; intro v3 w7 o3 g3 d3; clear d3; have B7 := Lib.hid ((B6.out.alloc B6.out.size (.cells #[.bool false, .string ⟨#[]⟩, .string ⟨#[47]⟩] 28)).grown g3 (Nat.le_trans B6.out.size (by simp)) (own_lit (base := w.heap.size) (w := w6) ⟨false, [], [47]⟩ B6.out.size).ge); have R7 := Lib.hid (R6.out.past g3); have A7 := Lib.hid (show RulesIs w7 v3 (⟨false, [], [47]⟩ :: s0) from o3.rules); obtain ⟨p3, n3, c3, rfl, -⟩ := o3.form; clear R6 o3 g3)
                | (go_at_call 14; refine (HAL.out _ _ (E.below (B7.out)) A7.out).mono ?_; rintro e w8 ⟨rfl, b8⟩; have B8 := Lib.hid (B7.out.trans (b8.mono B7.out.size)); have R8 := Lib.hid (R7.out.call b8); clear HAL R7 A7)
                | (go_at_call 12; refine (HW1.out _ (E.below (B8.out)) (Y1.out.call (B8.out))).mono ?_; rintro e w9 ⟨rfl, b9⟩; have B9 := Lib.hid (B8.out.trans (b9.mono B8.out.size)); have R9 := Lib.hid (R8.out.call b9); clear HW1 R8)
                | (go_at_call 12; refine (HW2.out _ _ (E.below (B9.out)) R9.out).mono ?_; rintro e w10 ⟨rfl, b10⟩; have B10 := Lib.hid (B9.out.trans (b10.mono B9.out.size)); have R10 := Lib.hid (R9.out.call b10); clear HW2 R9))
            all_goals (go_ret; exact ⟨by first | rfl | (simp; done) | (simp; omega), B10.out⟩)
          | true =>
            obtain ⟨m, hm⟩ : ∃ m, mayP s3 = m := ⟨_, rfl⟩
            have HAL := Lib.hid (fun u W EW HR => allowed_of u (⟨true, [], [47]⟩ :: s0) s2 s3 (HSA.out _) (by omega) m (by rw [allowed_all, hm]; rfl) W EW HR)
            have HPM := Lib.hid (fun W EW => pmay_of s3 (by omega) m hm W EW)
            clear hm
            have HW1 := Lib.hid (fun W EW HR => which_of u1 s1 s2 s3 HS1.out (by omega) (-1) h1 W EW HR)
            have HW2 := Lib.hid (fun u W EW HR => which_of u (s0 ++ s1) s2 s3 HSB.out (by omega) (-1) hb W EW HR)
            clear h1 hb
            go_enter Tryd.func4, Tryd.ntmps4
            go_wp2_with (first
                | (go_at_call 7; refine (AWK.out _ (E.below (B0.out))).mono ?_; rintro e w1 ⟨rfl, b1⟩; have B1 := Lib.hid (B0.out.trans (b1.mono B0.out.size)); clear AWK)
                | (go_at_call 8; refine (HF0.out _ (Y0.out.call (B1.out))).mono ?_; rintro e w2 ⟨rfl, b2⟩; have B2 := Lib.hid (B1.out.trans (b2.mono B1.out.size)); clear HF0)
                | (go_at_call 8; refine (HF1.out _ (Y1.out.call (B2.out))).mono ?_; rintro e w3 ⟨rfl, b3⟩; have B3 := Lib.hid (B2.out.trans (b3.mono B2.out.size)); clear HF1)
                | (go_at_call 12; refine (HW.out _ (E.below (B3.out)) (Y0.out.call (B3.out))).mono ?_; rintro e w4 ⟨rfl, b4⟩; have B4 := Lib.hid (B3.out.trans (b4.mono B3.out.size)); clear HW)
                | (at_builtin; refine wpList_append_rules rfl _ _ rfl w.heap.size (.slice none 0 0) [] rfl (OwnRules.nil _ _) (.slice p0 n0 c0) s0 rfl (Y0.out.call B4.out) L1.out B4.out.size ?_; clear L1; intro v1 w5 o1 g1 d1; clear d1; have B5 := Lib.hid (B4.out.grown g1 B4.out.size (OwnRules.nil w.heap.size w4).ge); have O1 := Lib.hid (show OwnRules w.heap.size w5 v1 s0 from o1); obtain ⟨p1, n1, c1, rfl, -⟩ := o1.form; clear o1 g1)
                | (at_builtin; refine wpList_append_rules rfl _ _ rfl w.heap.size (.slice p1 n1 c1) s0 rfl O1.out u1 s1 rfl (Y1.out.call B5.out) L2.out B5.out.size ?_; intro v2 w6 o2 g2 d2; clear d2; have B6 := Lib.hid (B5.out.grown g2 B5.out.size O1.out.ge); have R6 := Lib.hid o2.rules; obtain ⟨p2, n2, c2, rfl, -⟩ := o2.form; clear O1 o2 g2)
                | (at_builtin; refine wpList_append_rules rfl _ _ rfl w.heap.size (.slice (some ⟨w6.heap.size, 0, none⟩) 1 1) [⟨true, [], [47]⟩] rfl (own_lit (base := w.heap.size) (w := w6) ⟨true, [], [47]⟩ B6.out.size) (.slice p0 n0 c0) s0 rfl ((Y0.out.call B6.out).alloc _) L3.out (Nat.le_trans B6.out.size (by simp)) ?_; intro v3 w7 o3 g3 d3; clear d3; have B7 := Lib.hid ((B6.out.alloc B6.out.size (.cells #[.bool true, .string ⟨#[]⟩, .string ⟨#[47]⟩] 28)).grown g3 (Nat.le_trans B6.out.size (by simp)) (own_lit (base := w.heap.size) (w := w6) ⟨true, [], [47]⟩ B6.out.size).ge); have R7 := Lib.hid (R6.out.past g3); have A7 := Lib.hid (show RulesIs w7 v3 (⟨true, [], [47]⟩ :: s0) from o3.rules); obtain ⟨p3, n3, c3, rfl, -⟩ := o3.form; clear R6 o3 g3)
                | (go_at_call 14; refine (HAL.out _ _ (E.below (B7.out)) A7.out).mono ?_; rintro e w8 ⟨rfl, b8⟩; have B8 := Lib.hid (B7.out.trans (b8.mono B7.out.size)); have R8 := Lib.hid (R7.out.call b8); clear HAL R7 A7)
                | (go_at_call 15; refine (HPM.out _ (E.below (B8.out))).mono ?_; rintro e w9 ⟨rfl, b9⟩; have B9 := Lib.hid (B8.out.trans (b9.mono B8.out.size)); have R9 := Lib.hid (R8.out.call b9); clear HPM R8)
                | (go_at_call 12; refine (HW1.out _ (E.below (B9.out)) (Y1.out.call (B9.out))).mono ?_; rintro e w10 ⟨rfl, b10⟩; have B10 := Lib.hid (B9.out.trans (b10.mono B9.out.size)); have R10 := Lib.hid (R9.out.call b10); clear HW1 R9)
                | (go_at_call 12; refine (HW2.out _ _ (E.below (B10.out)) R10.out).mono ?_; rintro e w11 ⟨rfl, b11⟩; have B11 := Lib.hid (B10.out.trans (b11.mono B10.out.size)); have R11 := Lib.hid (R10.out.call b11); clear HW2 R10))
            all_goals (go_ret; exact ⟨by first | rfl | (simp; done) | (simp; omega), B11.out⟩)
        · have hb : which (s0 ++ s1) s2 s3 = (k : Int) + (n0 : Int) := by rw [ky (by rw [h1]; omega), h1, HN0.out]
          have hk20 : k ≤ 20 := by omega
          clear h0 kn ky hk
          cases al with
          | false =>
            have HAL := Lib.hid (fun u W EW HR => allowed_of u (⟨false, [], [47]⟩ :: s0) s2 s3 (HSA.out _) (by omega) false (by rw [allowed_all]; rfl) W EW HR)
            have HW1 := Lib.hid (fun W EW HR => which_of u1 s1 s2 s3 HS1.out (by omega) (k : Int) h1 W EW HR)
            have HW2 := Lib.hid (fun u W EW HR => which_of u (s0 ++ s1) s2 s3 HSB.out (by omega) ((k : Int) + (n0 : Int)) hb W EW HR)
            have gk : ¬ (k : Int) < 0 := by omega
            clear h1 hb
            go_enter Tryd.func4, Tryd.ntmps4
            go_wp2_with (first
                | (go_at_call 7; refine (AWK.out _ (E.below (B0.out))).mono ?_; rintro e w1 ⟨rfl, b1⟩; have B1 := Lib.hid (B0.out.trans (b1.mono B0.out.size)); clear AWK)
                | (go_at_call 8; refine (HF0.out _ (Y0.out.call (B1.out))).mono ?_; rintro e w2 ⟨rfl, b2⟩; have B2 := Lib.hid (B1.out.trans (b2.mono B1.out.size)); clear HF0)
                | (go_at_call 8; refine (HF1.out _ (Y1.out.call (B2.out))).mono ?_; rintro e w3 ⟨rfl, b3⟩; have B3 := Lib.hid (B2.out.trans (b3.mono B2.out.size)); clear HF1)
                | (go_at_call 12; refine (HW.out _ (E.below (B3.out)) (Y0.out.call (B3.out))).mono ?_; rintro e w4 ⟨rfl, b4⟩; have B4 := Lib.hid (B3.out.trans (b4.mono B3.out.size)); clear HW)
                | (at_builtin; refine wpList_append_rules rfl _ _ rfl w.heap.size (.slice none 0 0) [] rfl (OwnRules.nil _ _) (.slice p0 n0 c0) s0 rfl (Y0.out.call B4.out) L1.out B4.out.size ?_; clear L1; intro v1 w5 o1 g1 d1; clear d1; have B5 := Lib.hid (B4.out.grown g1 B4.out.size (OwnRules.nil w.heap.size w4).ge); have O1 := Lib.hid (show OwnRules w.heap.size w5 v1 s0 from o1); obtain ⟨p1, n1, c1, rfl, -⟩ := o1.form; clear o1 g1)
                | (at_builtin; refine wpList_append_rules rfl _ _ rfl w.heap.size (.slice p1 n1 c1) s0 rfl O1.out u1 s1 rfl (Y1.out.call B5.out) L2.out B5.out.size ?_; intro v2 w6 o2 g2 d2; clear d2; have B6 := Lib.hid (B5.out.grown g2 B5.out.size O1.out.ge); have R6 := Lib.hid o2.rules; obtain ⟨p2, n2, c2, rfl, -⟩ := o2.form; clear O1 o2 g2)
                | (at_builtin; refine wpList_append_rules rfl _ _ rfl w.heap.size (.slice (some ⟨w6.heap.size, 0, none⟩) 1 1) [⟨false, [], [47]⟩] rfl (own_lit (base := w.heap.size) (w := w6) ⟨false, [], [47]⟩ B6.out.size) (.slice p0 n0 c0) s0 rfl ((Y0.out.call B6.out).alloc _) L3.out (Nat.le_trans B6.out.size (by simp)) ?_; intro v3 w7 o3 g3 d3; clear d3; have B7 := Lib.hid ((B6.out.alloc B6.out.size (.cells #[.bool false, .string ⟨#[]⟩, .string ⟨#[47]⟩] 28)).grown g3 (Nat.le_trans B6.out.size (by simp)) (own_lit (base := w.heap.size) (w := w6) ⟨false, [], [47]⟩ B6.out.size).ge); have R7 := Lib.hid (R6.out.past g3); have A7 := Lib.hid (show RulesIs w7 v3 (⟨false, [], [47]⟩ :: s0) from o3.rules); obtain ⟨p3, n3, c3, rfl, -⟩ := o3.form; clear R6 o3 g3)
                | (go_at_call 14; refine (HAL.out _ _ (E.below (B7.out)) A7.out).mono ?_; rintro e w8 ⟨rfl, b8⟩; have B8 := Lib.hid (B7.out.trans (b8.mono B7.out.size)); have R8 := Lib.hid (R7.out.call b8); clear HAL R7 A7)
                | (go_at_call 12; refine (HW1.out _ (E.below (B8.out)) (Y1.out.call (B8.out))).mono ?_; rintro e w9 ⟨rfl, b9⟩; have B9 := Lib.hid (B8.out.trans (b9.mono B8.out.size)); have R9 := Lib.hid (R8.out.call b9); clear HW1 R8)
                | (go_at_call 12; refine (HW2.out _ _ (E.below (B9.out)) R9.out).mono ?_; rintro e w10 ⟨rfl, b10⟩; have B10 := Lib.hid (B9.out.trans (b10.mono B9.out.size)); have R10 := Lib.hid (R9.out.call b10); clear HW2 R9))
            all_goals (go_ret; exact ⟨by first | rfl | (simp; done) | (simp; omega), B10.out⟩)
          | true =>
            obtain ⟨m, hm⟩ : ∃ m, mayP s3 = m := ⟨_, rfl⟩
            have HAL := Lib.hid (fun u W EW HR => allowed_of u (⟨true, [], [47]⟩ :: s0) s2 s3 (HSA.out _) (by omega) m (by rw [allowed_all, hm]; rfl) W EW HR)
            have HPM := Lib.hid (fun W EW => pmay_of s3 (by omega) m hm W EW)
            clear hm
            have HW1 := Lib.hid (fun W EW HR => which_of u1 s1 s2 s3 HS1.out (by omega) (k : Int) h1 W EW HR)
            have HW2 := Lib.hid (fun u W EW HR => which_of u (s0 ++ s1) s2 s3 HSB.out (by omega) ((k : Int) + (n0 : Int)) hb W EW HR)
            have gk : ¬ (k : Int) < 0 := by omega
            clear h1 hb
            go_enter Tryd.func4, Tryd.ntmps4
            go_wp2_with (first
                | (go_at_call 7; refine (AWK.out _ (E.below (B0.out))).mono ?_; rintro e w1 ⟨rfl, b1⟩; have B1 := Lib.hid (B0.out.trans (b1.mono B0.out.size)); clear AWK)
                | (go_at_call 8; refine (HF0.out _ (Y0.out.call (B1.out))).mono ?_; rintro e w2 ⟨rfl, b2⟩; have B2 := Lib.hid (B1.out.trans (b2.mono B1.out.size)); clear HF0)
                | (go_at_call 8; refine (HF1.out _ (Y1.out.call (B2.out))).mono ?_; rintro e w3 ⟨rfl, b3⟩; have B3 := Lib.hid (B2.out.trans (b3.mono B2.out.size)); clear HF1)
                | (go_at_call 12; refine (HW.out _ (E.below (B3.out)) (Y0.out.call (B3.out))).mono ?_; rintro e w4 ⟨rfl, b4⟩; have B4 := Lib.hid (B3.out.trans (b4.mono B3.out.size)); clear HW)
                | (at_builtin; refine wpList_append_rules rfl _ _ rfl w.heap.size (.slice none 0 0) [] rfl (OwnRules.nil _ _) (.slice p0 n0 c0) s0 rfl (Y0.out.call B4.out) L1.out B4.out.size ?_; clear L1; intro v1 w5 o1 g1 d1; clear d1; have B5 := Lib.hid (B4.out.grown g1 B4.out.size (OwnRules.nil w.heap.size w4).ge); have O1 := Lib.hid (show OwnRules w.heap.size w5 v1 s0 from o1); obtain ⟨p1, n1, c1, rfl, -⟩ := o1.form; clear o1 g1)
                | (at_builtin; refine wpList_append_rules rfl _ _ rfl w.heap.size (.slice p1 n1 c1) s0 rfl O1.out u1 s1 rfl (Y1.out.call B5.out) L2.out B5.out.size ?_; intro v2 w6 o2 g2 d2; clear d2; have B6 := Lib.hid (B5.out.grown g2 B5.out.size O1.out.ge); have R6 := Lib.hid o2.rules; obtain ⟨p2, n2, c2, rfl, -⟩ := o2.form; clear O1 o2 g2)
                | (at_builtin; refine wpList_append_rules rfl _ _ rfl w.heap.size (.slice (some ⟨w6.heap.size, 0, none⟩) 1 1) [⟨true, [], [47]⟩] rfl (own_lit (base := w.heap.size) (w := w6) ⟨true, [], [47]⟩ B6.out.size) (.slice p0 n0 c0) s0 rfl ((Y0.out.call B6.out).alloc _) L3.out (Nat.le_trans B6.out.size (by simp)) ?_; intro v3 w7 o3 g3 d3; clear d3; have B7 := Lib.hid ((B6.out.alloc B6.out.size (.cells #[.bool true, .string ⟨#[]⟩, .string ⟨#[47]⟩] 28)).grown g3 (Nat.le_trans B6.out.size (by simp)) (own_lit (base := w.heap.size) (w := w6) ⟨true, [], [47]⟩ B6.out.size).ge); have R7 := Lib.hid (R6.out.past g3); have A7 := Lib.hid (show RulesIs w7 v3 (⟨true, [], [47]⟩ :: s0) from o3.rules); obtain ⟨p3, n3, c3, rfl, -⟩ := o3.form; clear R6 o3 g3)
                | (go_at_call 14; refine (HAL.out _ _ (E.below (B7.out)) A7.out).mono ?_; rintro e w8 ⟨rfl, b8⟩; have B8 := Lib.hid (B7.out.trans (b8.mono B7.out.size)); have R8 := Lib.hid (R7.out.call b8); clear HAL R7 A7)
                | (go_at_call 15; refine (HPM.out _ (E.below (B8.out))).mono ?_; rintro e w9 ⟨rfl, b9⟩; have B9 := Lib.hid (B8.out.trans (b9.mono B8.out.size)); have R9 := Lib.hid (R8.out.call b9); clear HPM R8)
                | (go_at_call 12; refine (HW1.out _ (E.below (B9.out)) (Y1.out.call (B9.out))).mono ?_; rintro e w10 ⟨rfl, b10⟩; have B10 := Lib.hid (B9.out.trans (b10.mono B9.out.size)); have R10 := Lib.hid (R9.out.call b10); clear HW1 R9)
                | (go_at_call 12; refine (HW2.out _ _ (E.below (B10.out)) R10.out).mono ?_; rintro e w11 ⟨rfl, b11⟩; have B11 := Lib.hid (B10.out.trans (b11.mono B10.out.size)); have R11 := Lib.hid (R10.out.call b11); clear HW2 R10))
            all_goals (go_ret; exact ⟨by first | rfl | (simp; done) | (simp; omega), B11.out⟩)
      · have HW := Lib.hid (fun W EW HR => which_of (.slice p0 n0 c0) s0 s2 s3 HS0.out (by omega) (i : Int) h0 W EW HR)
        obtain ⟨k1, k2, k3, _⟩ := both_first (l := s0) (m := s1) (v := s2) (p := s3) (by rw [h0]; omega)
        rw [h0] at k1 k3
        rw [Int.toNat_natCast] at k3
        obtain ⟨p4, n4, c4, hn4, hsl, RT0⟩ := rules_h Y0.out i (Nat.le_of_lt hi)
        have RT := Lib.hid RT0
        have HST := Lib.hid (HS0.out.take i)
        obtain ⟨a, ha'⟩ : ∃ a, allowed s0 s2 s3 = a := ⟨_, rfl⟩
        rw [ha'] at k2
        have gi : (i : Int) < (n0 : Int) := by have := HN0.out; omega
        have gi2 : ¬ (i : Int) < 0 := by omega
        clear h0 ha hi RT0 hn4
        have ha := ha'
        clear ha'
        cases al with
        | false =>
          have HAL := Lib.hid (fun u W EW HR => allowed_of u (⟨false, [], [47]⟩ :: s0) s2 s3 (HSA.out _) (by omega) false (by rw [allowed_all]; rfl) W EW HR)
          have HW2 := Lib.hid (fun u W EW HR => which_of u (s0 ++ s1) s2 s3 HSB.out (by omega) (i : Int) k1 W EW HR)
          have HW3 := Lib.hid (fun W EW HR => which_of (.slice p4 n4 c4) (s0.take i) s2 s3 HST.out (by omega) (-1) k3 W EW HR)
          have HA1 := Lib.hid (fun u W EW HR => allowed_of u (s0 ++ s1) s2 s3 HSB.out (by omega) a k2 W EW HR)
          have HA2 := Lib.hid (fun W EW HR => allowed_of (.slice p0 n0 c0) s0 s2 s3 HS0.out (by omega) a ha W EW HR)
          clear k1 k2 k3 ha
          go_enter Tryd.func4, Tryd.ntmps4
          go_wp2_with (first
              | (go_at_call 7; refine (AWK.out _ (E.below (B0.out))).mono ?_; rintro e w1 ⟨rfl, b1⟩; have B1 := Lib.hid (B0.out.trans (b1.mono B0.out.size)); clear AWK)
              | (go_at_call 8; refine (HF0.out _ (Y0.out.call (B1.out))).mono ?_; rintro e w2 ⟨rfl, b2⟩; have B2 := Lib.hid (B1.out.trans (b2.mono B1.out.size)); clear HF0)
              | (go_at_call 8; refine (HF1.out _ (Y1.out.call (B2.out))).mono ?_; rintro e w3 ⟨rfl, b3⟩; have B3 := Lib.hid (B2.out.trans (b3.mono B2.out.size)); clear HF1)
              | (go_at_call 12; refine (HW.out _ (E.below (B3.out)) (Y0.out.call (B3.out))).mono ?_; rintro e w4 ⟨rfl, b4⟩; have B4 := Lib.hid (B3.out.trans (b4.mono B3.out.size)); clear HW)
              | (at_builtin; refine wpList_append_rules rfl _ _ rfl w.heap.size (.slice none 0 0) [] rfl (OwnRules.nil _ _) (.slice p0 n0 c0) s0 rfl (Y0.out.call B4.out) L1.out B4.out.size ?_; clear L1; intro v1 w5 o1 g1 d1; clear d1; have B5 := Lib.hid (B4.out.grown g1 B4.out.size (OwnRules.nil w.heap.size w4).ge); have O1 := Lib.hid (show OwnRules w.heap.size w5 v1 s0 from o1); obtain ⟨p1, n1, c1, rfl, -⟩ := o1.form; clear o1 g1)
              | (at_builtin; refine wpList_append_rules rfl _ _ rfl w.heap.size (.slice p1 n1 c1) s0 rfl O1.out u1 s1 rfl (Y1.out.call B5.out) L2.out B5.out.size ?_; intro v2 w6 o2 g2 d2; clear d2; have B6 := Lib.hid (B5.out.grown g2 B5.out.size O1.out.ge); have R6 := Lib.hid o2.rules; obtain ⟨p2, n2, c2, rfl, -⟩ := o2.form; clear O1 o2 g2)
              | (at_builtin; refine wpList_append_rules rfl _ _ rfl w.heap.size (.slice (some ⟨w6.heap.size, 0, none⟩) 1 1) [⟨false, [], [47]⟩] rfl (own_lit (base := w.heap.size) (w := w6) ⟨false, [], [47]⟩ B6.out.size) (.slice p0 n0 c0) s0 rfl ((Y0.out.call B6.out).alloc _) L3.out (Nat.le_trans B6.out.size (by simp)) ?_; intro v3 w7 o3 g3 d3; clear d3; have B7 := Lib.hid ((B6.out.alloc B6.out.size (.cells #[.bool false, .string ⟨#[]⟩, .string ⟨#[47]⟩] 28)).grown g3 (Nat.le_trans B6.out.size (by simp)) (own_lit (base := w.heap.size) (w := w6) ⟨false, [], [47]⟩ B6.out.size).ge); have R7 := Lib.hid (R6.out.past g3); have A7 := Lib.hid (show RulesIs w7 v3 (⟨false, [], [47]⟩ :: s0) from o3.rules); obtain ⟨p3, n3, c3, rfl, -⟩ := o3.form; clear R6 o3 g3)
              | (go_at_call 14; refine (HAL.out _ _ (E.below (B7.out)) A7.out).mono ?_; rintro e w8 ⟨rfl, b8⟩; have B8 := Lib.hid (B7.out.trans (b8.mono B7.out.size)); have R8 := Lib.hid (R7.out.call b8); clear HAL R7 A7)
              | (go_at_call 12; refine (HW2.out _ _ (E.below (B8.out)) R8.out).mono ?_; rintro e w9 ⟨rfl, b9⟩; have B9 := Lib.hid (B8.out.trans (b9.mono B8.out.size)); have R9 := Lib.hid (R8.out.call b9); clear HW2 R8)
              | (go_at_call 12; refine (HW3.out _ (E.below (B9.out)) (RT.out.call (B9.out))).mono ?_; rintro e w10 ⟨rfl, b10⟩; have B10 := Lib.hid (B9.out.trans (b10.mono B9.out.size)); have R10 := Lib.hid (R9.out.call b10); clear HW3 R9)
              | (go_at_call 14; refine (HA1.out _ _ (E.below (B10.out)) R10.out).mono ?_; rintro e w11 ⟨rfl, b11⟩; have B11 := Lib.hid (B10.out.trans (b11.mono B10.out.size)); have R11 := Lib.hid (R10.out.call b11); clear HA1 R10)
              | (go_at_call 14; refine (HA2.out _ (E.below (B11.out)) (Y0.out.call (B11.out))).mono ?_; rintro e w12 ⟨rfl, b12⟩; have B12 := Lib.hid (B11.out.trans (b12.mono B11.out.size)); have R12 := Lib.hid (R11.out.call b12); clear HA2 R11))
          all_goals (go_ret; exact ⟨by first | rfl | (simp; done) | (simp; omega), B12.out⟩)
        | true =>
          obtain ⟨m, hm⟩ : ∃ m, mayP s3 = m := ⟨_, rfl⟩
          have HAL := Lib.hid (fun u W EW HR => allowed_of u (⟨true, [], [47]⟩ :: s0) s2 s3 (HSA.out _) (by omega) m (by rw [allowed_all, hm]; rfl) W EW HR)
          have HPM := Lib.hid (fun W EW => pmay_of s3 (by omega) m hm W EW)
          clear hm
          have HW2 := Lib.hid (fun u W EW HR => which_of u (s0 ++ s1) s2 s3 HSB.out (by omega) (i : Int) k1 W EW HR)
          have HW3 := Lib.hid (fun W EW HR => which_of (.slice p4 n4 c4) (s0.take i) s2 s3 HST.out (by omega) (-1) k3 W EW HR)
          have HA1 := Lib.hid (fun u W EW HR => allowed_of u (s0 ++ s1) s2 s3 HSB.out (by omega) a k2 W EW HR)
          have HA2 := Lib.hid (fun W EW HR => allowed_of (.slice p0 n0 c0) s0 s2 s3 HS0.out (by omega) a ha W EW HR)
          clear k1 k2 k3 ha
          go_enter Tryd.func4, Tryd.ntmps4
          go_wp2_with (first
              | (go_at_call 7; refine (AWK.out _ (E.below (B0.out))).mono ?_; rintro e w1 ⟨rfl, b1⟩; have B1 := Lib.hid (B0.out.trans (b1.mono B0.out.size)); clear AWK)
              | (go_at_call 8; refine (HF0.out _ (Y0.out.call (B1.out))).mono ?_; rintro e w2 ⟨rfl, b2⟩; have B2 := Lib.hid (B1.out.trans (b2.mono B1.out.size)); clear HF0)
              | (go_at_call 8; refine (HF1.out _ (Y1.out.call (B2.out))).mono ?_; rintro e w3 ⟨rfl, b3⟩; have B3 := Lib.hid (B2.out.trans (b3.mono B2.out.size)); clear HF1)
              | (go_at_call 12; refine (HW.out _ (E.below (B3.out)) (Y0.out.call (B3.out))).mono ?_; rintro e w4 ⟨rfl, b4⟩; have B4 := Lib.hid (B3.out.trans (b4.mono B3.out.size)); clear HW)
              | (at_builtin; refine wpList_append_rules rfl _ _ rfl w.heap.size (.slice none 0 0) [] rfl (OwnRules.nil _ _) (.slice p0 n0 c0) s0 rfl (Y0.out.call B4.out) L1.out B4.out.size ?_; clear L1; intro v1 w5 o1 g1 d1; clear d1; have B5 := Lib.hid (B4.out.grown g1 B4.out.size (OwnRules.nil w.heap.size w4).ge); have O1 := Lib.hid (show OwnRules w.heap.size w5 v1 s0 from o1); obtain ⟨p1, n1, c1, rfl, -⟩ := o1.form; clear o1 g1)
              | (at_builtin; refine wpList_append_rules rfl _ _ rfl w.heap.size (.slice p1 n1 c1) s0 rfl O1.out u1 s1 rfl (Y1.out.call B5.out) L2.out B5.out.size ?_; intro v2 w6 o2 g2 d2; clear d2; have B6 := Lib.hid (B5.out.grown g2 B5.out.size O1.out.ge); have R6 := Lib.hid o2.rules; obtain ⟨p2, n2, c2, rfl, -⟩ := o2.form; clear O1 o2 g2)
              | (at_builtin; refine wpList_append_rules rfl _ _ rfl w.heap.size (.slice (some ⟨w6.heap.size, 0, none⟩) 1 1) [⟨true, [], [47]⟩] rfl (own_lit (base := w.heap.size) (w := w6) ⟨true, [], [47]⟩ B6.out.size) (.slice p0 n0 c0) s0 rfl ((Y0.out.call B6.out).alloc _) L3.out (Nat.le_trans B6.out.size (by simp)) ?_; intro v3 w7 o3 g3 d3; clear d3; have B7 := Lib.hid ((B6.out.alloc B6.out.size (.cells #[.bool true, .string ⟨#[]⟩, .string ⟨#[47]⟩] 28)).grown g3 (Nat.le_trans B6.out.size (by simp)) (own_lit (base := w.heap.size) (w := w6) ⟨true, [], [47]⟩ B6.out.size).ge); have R7 := Lib.hid (R6.out.past g3); have A7 := Lib.hid (show RulesIs w7 v3 (⟨true, [], [47]⟩ :: s0) from o3.rules); obtain ⟨p3, n3, c3, rfl, -⟩ := o3.form; clear R6 o3 g3)
              | (go_at_call 14; refine (HAL.out _ _ (E.below (B7.out)) A7.out).mono ?_; rintro e w8 ⟨rfl, b8⟩; have B8 := Lib.hid (B7.out.trans (b8.mono B7.out.size)); have R8 := Lib.hid (R7.out.call b8); clear HAL R7 A7)
              | (go_at_call 15; refine (HPM.out _ (E.below (B8.out))).mono ?_; rintro e w9 ⟨rfl, b9⟩; have B9 := Lib.hid (B8.out.trans (b9.mono B8.out.size)); have R9 := Lib.hid (R8.out.call b9); clear HPM R8)
              | (go_at_call 12; refine (HW2.out _ _ (E.below (B9.out)) R9.out).mono ?_; rintro e w10 ⟨rfl, b10⟩; have B10 := Lib.hid (B9.out.trans (b10.mono B9.out.size)); have R10 := Lib.hid (R9.out.call b10); clear HW2 R9)
              | (go_at_call 12; refine (HW3.out _ (E.below (B10.out)) (RT.out.call (B10.out))).mono ?_; rintro e w11 ⟨rfl, b11⟩; have B11 := Lib.hid (B10.out.trans (b11.mono B10.out.size)); have R11 := Lib.hid (R10.out.call b11); clear HW3 R10)
              | (go_at_call 14; refine (HA1.out _ _ (E.below (B11.out)) R11.out).mono ?_; rintro e w12 ⟨rfl, b12⟩; have B12 := Lib.hid (B11.out.trans (b12.mono B11.out.size)); have R12 := Lib.hid (R11.out.call b12); clear HA1 R11)
              | (go_at_call 14; refine (HA2.out _ (E.below (B12.out)) (Y0.out.call (B12.out))).mono ?_; rintro e w13 ⟨rfl, b13⟩; have B13 := Lib.hid (B12.out.trans (b13.mono B12.out.size)); have R13 := Lib.hid (R12.out.call b13); clear HA2 R12))
          all_goals (go_ret; exact ⟨by first | rfl | (simp; done) | (simp; omega), B13.out⟩)

set_option maxRecDepth 100000 in
theorem lifted (os : Os) (started : os.Started) (H : Type) (enc : TypeId × Value → H) :
    ReturnsInHanded {} Tryd.checked os 4 .any (fun w args => (Rows.aclFirstSpec.pre enc Tryd.prog Tryd.f4 [] false w args ∧ laidMetH Tryd.prog laidHere w) ∧ sizedMet enc Tryd.prog Tryd.f4 (OpenSpec.ofChange Rows.aclFirstSpec) false w args)
      (Rows.aclFirstSpec.post enc Tryd.prog Tryd.f4 false true false false) := by
  refine handed started (by kernel_rfl) Tryd.func4 #[.slice none 0 0, .slice none 0 0, .string ⟨#[]⟩, .string ⟨#[]⟩, .bool false] (by kernel_rfl) (by kernel_rfl) (by kernel_rfl) (World.shaped_of_ZipB (by kernel_rfl) (by kernel_rfl))
    (by unfold laidHere; rw [MakeChecks.laidMetH_plain _ _ _ (by kernel_rfl)]; exact laidMet_laidAll _ (by kernel_rfl) (by kernel_rfl)) ?_
  intro W base args ds gs before hval0 hW E
  have hval : ∀ (j : Nat) t v, Tryd.f4.params[j]? = some t → args[j]? = some v → Value.okWide Tryd.prog W .any base t v := hval0
  have hW' := hW
  obtain ⟨p, q, hA0, hV, rfl, _, _⟩ := hW
  have hA : DataW.TrodAll enc Tryd.prog W 0 (fun _ => true) true Tryd.f4.params.toList args.toList ds p := hA0
  rw [Tryd.params4] at hA hval
  obtain ⟨v0, vs0, d0, ds0, p0, q0, hargs, rfl, rfl, r0, t0⟩ := trodAll_cons hA
  obtain ⟨v1, vs1, d1, ds1, p1, q1, rfl, rfl, rfl, r1, t1⟩ := trodAll_cons t0
  obtain ⟨v2, vs2, d2, ds2, p2, q2, rfl, rfl, rfl, r2, t2⟩ := trodAll_cons t1
  obtain ⟨v3, vs3, d3, ds3, p3, q3, rfl, rfl, rfl, r3, t3⟩ := trodAll_cons t2
  obtain ⟨v4, vs4, d4, ds4, p4, q4, rfl, rfl, rfl, r4, t4⟩ := trodAll_cons t3
  obtain ⟨rfl, rfl, rfl⟩ := trodAll_nil t4
  obtain rfl : args = #[v0, v1, v2, v3, v4] := by cases args; simp_all
  obtain ⟨rfl, rfl⟩ := trodVars_none hV
  obtain ⟨s0, y0, z0, k0⟩ := open_rules (hval 0 22 v0 rfl rfl) r0
  obtain ⟨s1, y1, z1, k1⟩ := open_rules (hval 1 22 v1 rfl rfl) r1
  obtain ⟨x2, rfl, rfl, rfl, w2⟩ := open_string Tryd.underlying9 (hval 2 9 v2 rfl rfl) r2
  obtain ⟨s2, rfl⟩ : ∃ l : List UInt8, x2 = ⟨l.toArray⟩ := ⟨x2.data.toList, by simp⟩
  obtain ⟨x3, rfl, rfl, rfl, w3⟩ := open_string Tryd.underlying9 (hval 3 9 v3 rfl rfl) r3
  obtain ⟨s3, rfl⟩ : ∃ l : List UInt8, x3 = ⟨l.toArray⟩ := ⟨x3.data.toList, by simp⟩
  obtain ⟨b4, rfl, rfl, rfl⟩ := open_bool Tryd.underlying4 (hval 4 4 v4 rfl rfl) r4
  clear hA0 hval0
  simp only [List.append_nil] at hW'
  refine (walk v0 s0 v1 s1 s2 (by have := w2; rw [size_mk] at this; unfold maxLen at this; exact this) s3 (by have := w3; rw [size_mk] at this; unfold maxLen at this; exact this) b4 W y0 y1 E).mono fun e W' ⟨he, hb⟩ => ?_
  subst he
  obtain ⟨pa0, t0'⟩ := k0 W' hb
  obtain ⟨pa1, t1'⟩ := k1 W' hb
  exact ⟨_, rfl, told hW' (fun _ _ _ => trodAll_cons_mk (shut_bool Tryd.underlying4 _) trodAll_mk0) (trodAll_cons_mk (t0') (trodAll_cons_mk (t1') (trodAll_cons_mk (shut_string Tryd.underlying9 w2) (trodAll_cons_mk (shut_string Tryd.underlying9 w3) (trodAll_cons_mk (shut_bool Tryd.underlying4 b4) trodAll_mk0))))) (fun _ => rfl) hb⟩

theorem over : Rows.AclFirstSaid :=
  OpenClaim.holds_of_wide 4 Tryd.f4 rfl rfl rfl rfl rfl rfl rfl ⟨rfl, rfl, rfl, rfl, rfl⟩ rfl rfl rfl rfl rfl (by kernel_rfl) Tryd.func4 (by kernel_rfl)
    (of_decide_eq_true (by kernel_rfl)) (by unfold Func.isWrapper; first | (rw [if_pos (by decide +kernel)]; kernel_rfl) | (rw [if_neg (by decide +kernel)]; exact ⟨rfl, rfl⟩))
    (fun os started H enc _ => lifted os started H enc)

theorem proved : Rows.AclFirstCardSaid :=
  Claim7.holds_tied_plain_at .later [] Rows.aclFirstCard.laidKinds true Rows.aclFirstCard.stood.harness Rows.aclFirstCard.stood.looks
    over (fun _ h => by cases h) (by kernel_rfl) (fun _ h => by cases h) aclFirst_row_tie rfl ⟨rfl, rfl⟩ (by kernel_rfl) rfl
    (fun f fn hf hfn => by
      obtain rfl : f = 4 := Option.some.inj ((show Tryd.prog.funcNamed "wharfinger/wharfingerlaw11.AclFirst" = some 4 by kernel_rfl).symm.trans hf) |>.symm
      obtain rfl : fn = Tryd.f4 := (Option.some.inj (Tryd.func4.symm.trans hfn)).symm
      exact ⟨by kernel_rfl, fun j t ht => by
        rw [Tryd.params4] at ht
        have hm : t ∈ [22, 22, 9, 9, 4] := by simpa using Array.mem_of_getElem? ht
        have hall : ([22, 22, 9, 9, 4].all fun u => !Tryd.prog.wantsStandIn u) = true := by kernel_rfl
        exact (show Tryd.prog.wantsStandIn t = false by simpa using List.all_eq_true.1 hall t hm)⟩)
    (by kernel_rfl)
#print axioms proved
end Go.Proofs.YtojpahnfhhbnoaaDoor.aclFirst
