/- Proved: for every two limits, what is used of them, and number: neither limit is gone beyond that was not; no more goes on than was asked for, and it is cut just where less does. Conditions: none beyond the row's own (the library's variables start as the program's text lays them: the card ties them). -/
import Derived.Test.YtipagdnkmeaicaaQuotaAwake
import Derived.BigQuiet
import Derived.Deep.QuietTactic
import Derived.Deep.RegionHeld

namespace Go.Proofs.Ytipagdnkmeaicaa.quotaBounds
open Go.Proofs.Ytipagdnkmeaicaa Go.Proofs.Ytipagdnkmeaicaa.Qt
open Go.ChangeShapes Go.WideShapes Go.ChangeAt Go.RowKit Go.Sort Go.ChangeMaps
set_option linter.unusedSimpArgs false
set_option linter.unusedVariables false
set_option linter.unusedVariables false in
set_option maxHeartbeats 16000000 in
set_option maxRecDepth 100000 in
theorem walk (n0 : Int) (l0 : -9223372036854775808 ≤ n0) (h0 : n0 ≤ 9223372036854775807) (n1 : Int) (l1 : -9223372036854775808 ≤ n1) (h1 : n1 ≤ 9223372036854775807) (n2 : Int) (l2 : -9223372036854775808 ≤ n2) (h2 : n2 ≤ 9223372036854775807) (n3 : Int) (l3 : -9223372036854775808 ≤ n3) (h3 : n3 ≤ 9223372036854775807) (n4 : Int) (l4 : -9223372036854775808 ≤ n4) (h4 : n4 ≤ 9223372036854775807) (w : World)  (E : Env w) :
    Calls Try.prog 4 #[.int .i64 n0, .int .i64 n1, .int .i64 n2, .int .i64 n3, .int .i64 n4] w fun e w' => e = .returned (.bool true) ∧ Below w.heap.size w w' := by
  have AWK := Lib.hid (fun W EW => awake_any W EW)
  have B0 := Lib.hid (Below.refl w.heap.size w)
  obtain ⟨m, hm⟩ : ∃ m, least n0 n1 n2 n3 n4 = m := ⟨_, rfl⟩
  obtain ⟨x, hx⟩ : ∃ x, (take n0 n1 n2 n3 n4).x = x := ⟨_, rfl⟩
  obtain ⟨y, hy⟩ : ∃ y, (take n0 n1 n2 n3 n4).y = y := ⟨_, rfl⟩
  obtain ⟨c, hc⟩ : ∃ c, (take n0 n1 n2 n3 n4).cut = c := ⟨_, rfl⟩
  have hT : take n0 n1 n2 n3 n4 = ⟨m, x, y, c⟩ := by rw [← hm, ← hx, ← hy, ← hc]; rfl
  obtain ⟨t0, t1, t2, t3⟩ := take_may n0 n1 n2 n3 n4
  rw [hT] at t0 t1 t2 t3
  simp only at t0 t1 t2 t3
  have gm : ¬ m < 0 := by omega
  have m9 := (may_iff m).1 t1
  have x9 := (may_iff x).1 t2
  have y9 := (may_iff y).1 t3
  have HT := Lib.hid (fun W EW => take_at n0 n1 n2 n3 n4 m x y c hT W EW)
  have Hm := Lib.hid (fun W => may_at m true t1 W)
  have Hx := Lib.hid (fun W => may_at x true t2 W)
  have Hy := Lib.hid (fun W => may_at y true t3 W)
  clear hT t0 t1 t2 t3
  cases a0 : mayN n4 with
  | false =>
    have HV0 := Lib.hid (fun W => may_at n4 false a0 W)
    clear hm hx hy hc
    go_enter Try.func4, Try.ntmps4
    go_wp2_with (first
        | (go_at_call 8; refine (AWK.out _ (E.below (B0.out))).mono ?_; rintro e w1 ⟨rfl, b1⟩; have B1 := Lib.hid (B0.out.trans (b1.mono B0.out.size)); clear AWK)
        | (go_at_call 9; refine (HT.out _ (E.below (B1.out))).mono ?_; rintro e w2 ⟨rfl, b2⟩; have B2 := Lib.hid (B1.out.trans (b2.mono B1.out.size)); clear HT)
        | (go_at_call 13; refine (Hm.out _).mono ?_; rintro e w3 ⟨rfl, b3⟩; have B3 := Lib.hid (B2.out.trans (b3.mono B2.out.size)); clear Hm)
        | (go_at_call 13; refine (Hx.out _).mono ?_; rintro e w4 ⟨rfl, b4⟩; have B4 := Lib.hid (B3.out.trans (b4.mono B3.out.size)); clear Hx)
        | (go_at_call 13; refine (Hy.out _).mono ?_; rintro e w5 ⟨rfl, b5⟩; have B5 := Lib.hid (B4.out.trans (b5.mono B4.out.size)); clear Hy)
        | (go_at_call 13; refine (HV0.out _).mono ?_; rintro e w6 ⟨rfl, b6⟩; have B6 := Lib.hid (B5.out.trans (b6.mono B5.out.size)); clear HV0))
    all_goals (go_ret; exact ⟨by first | rfl | (simp; done) | (simp; omega), B6.out⟩)
  | true =>
    have HV0 := Lib.hid (fun W => may_at n4 true a0 W)
    have r0 := (may_iff n4).1 a0
    clear a0
    cases a1 : mayN n0 with
    | false =>
      have HV1 := Lib.hid (fun W => may_at n0 false a1 W)
      clear hm hx hy hc
      go_enter Try.func4, Try.ntmps4
      go_wp2_with (first
          | (go_at_call 8; refine (AWK.out _ (E.below (B0.out))).mono ?_; rintro e w1 ⟨rfl, b1⟩; have B1 := Lib.hid (B0.out.trans (b1.mono B0.out.size)); clear AWK)
          | (go_at_call 9; refine (HT.out _ (E.below (B1.out))).mono ?_; rintro e w2 ⟨rfl, b2⟩; have B2 := Lib.hid (B1.out.trans (b2.mono B1.out.size)); clear HT)
          | (go_at_call 13; refine (Hm.out _).mono ?_; rintro e w3 ⟨rfl, b3⟩; have B3 := Lib.hid (B2.out.trans (b3.mono B2.out.size)); clear Hm)
          | (go_at_call 13; refine (Hx.out _).mono ?_; rintro e w4 ⟨rfl, b4⟩; have B4 := Lib.hid (B3.out.trans (b4.mono B3.out.size)); clear Hx)
          | (go_at_call 13; refine (Hy.out _).mono ?_; rintro e w5 ⟨rfl, b5⟩; have B5 := Lib.hid (B4.out.trans (b5.mono B4.out.size)); clear Hy)
          | (go_at_call 13; refine (HV0.out _).mono ?_; rintro e w6 ⟨rfl, b6⟩; have B6 := Lib.hid (B5.out.trans (b6.mono B5.out.size)); clear HV0)
          | (go_at_call 13; refine (HV1.out _).mono ?_; rintro e w7 ⟨rfl, b7⟩; have B7 := Lib.hid (B6.out.trans (b7.mono B6.out.size)); clear HV1))
      all_goals (go_ret; exact ⟨by first | rfl | (simp; done) | (simp; omega), B7.out⟩)
    | true =>
      have HV1 := Lib.hid (fun W => may_at n0 true a1 W)
      have r1 := (may_iff n0).1 a1
      clear a1
      cases a2 : mayN n1 with
      | false =>
        have HV2 := Lib.hid (fun W => may_at n1 false a2 W)
        clear hm hx hy hc
        go_enter Try.func4, Try.ntmps4
        go_wp2_with (first
            | (go_at_call 8; refine (AWK.out _ (E.below (B0.out))).mono ?_; rintro e w1 ⟨rfl, b1⟩; have B1 := Lib.hid (B0.out.trans (b1.mono B0.out.size)); clear AWK)
            | (go_at_call 9; refine (HT.out _ (E.below (B1.out))).mono ?_; rintro e w2 ⟨rfl, b2⟩; have B2 := Lib.hid (B1.out.trans (b2.mono B1.out.size)); clear HT)
            | (go_at_call 13; refine (Hm.out _).mono ?_; rintro e w3 ⟨rfl, b3⟩; have B3 := Lib.hid (B2.out.trans (b3.mono B2.out.size)); clear Hm)
            | (go_at_call 13; refine (Hx.out _).mono ?_; rintro e w4 ⟨rfl, b4⟩; have B4 := Lib.hid (B3.out.trans (b4.mono B3.out.size)); clear Hx)
            | (go_at_call 13; refine (Hy.out _).mono ?_; rintro e w5 ⟨rfl, b5⟩; have B5 := Lib.hid (B4.out.trans (b5.mono B4.out.size)); clear Hy)
            | (go_at_call 13; refine (HV0.out _).mono ?_; rintro e w6 ⟨rfl, b6⟩; have B6 := Lib.hid (B5.out.trans (b6.mono B5.out.size)); clear HV0)
            | (go_at_call 13; refine (HV1.out _).mono ?_; rintro e w7 ⟨rfl, b7⟩; have B7 := Lib.hid (B6.out.trans (b7.mono B6.out.size)); clear HV1)
            | (go_at_call 13; refine (HV2.out _).mono ?_; rintro e w8 ⟨rfl, b8⟩; have B8 := Lib.hid (B7.out.trans (b8.mono B7.out.size)); clear HV2))
        all_goals (go_ret; exact ⟨by first | rfl | (simp; done) | (simp; omega), B8.out⟩)
      | true =>
        have HV2 := Lib.hid (fun W => may_at n1 true a2 W)
        have r2 := (may_iff n1).1 a2
        clear a2
        cases a3 : mayN n2 with
        | false =>
          have HV3 := Lib.hid (fun W => may_at n2 false a3 W)
          clear hm hx hy hc
          go_enter Try.func4, Try.ntmps4
          go_wp2_with (first
              | (go_at_call 8; refine (AWK.out _ (E.below (B0.out))).mono ?_; rintro e w1 ⟨rfl, b1⟩; have B1 := Lib.hid (B0.out.trans (b1.mono B0.out.size)); clear AWK)
              | (go_at_call 9; refine (HT.out _ (E.below (B1.out))).mono ?_; rintro e w2 ⟨rfl, b2⟩; have B2 := Lib.hid (B1.out.trans (b2.mono B1.out.size)); clear HT)
              | (go_at_call 13; refine (Hm.out _).mono ?_; rintro e w3 ⟨rfl, b3⟩; have B3 := Lib.hid (B2.out.trans (b3.mono B2.out.size)); clear Hm)
              | (go_at_call 13; refine (Hx.out _).mono ?_; rintro e w4 ⟨rfl, b4⟩; have B4 := Lib.hid (B3.out.trans (b4.mono B3.out.size)); clear Hx)
              | (go_at_call 13; refine (Hy.out _).mono ?_; rintro e w5 ⟨rfl, b5⟩; have B5 := Lib.hid (B4.out.trans (b5.mono B4.out.size)); clear Hy)
              | (go_at_call 13; refine (HV0.out _).mono ?_; rintro e w6 ⟨rfl, b6⟩; have B6 := Lib.hid (B5.out.trans (b6.mono B5.out.size)); clear HV0)
              | (go_at_call 13; refine (HV1.out _).mono ?_; rintro e w7 ⟨rfl, b7⟩; have B7 := Lib.hid (B6.out.trans (b7.mono B6.out.size)); clear HV1)
              | (go_at_call 13; refine (HV2.out _).mono ?_; rintro e w8 ⟨rfl, b8⟩; have B8 := Lib.hid (B7.out.trans (b8.mono B7.out.size)); clear HV2)
              | (go_at_call 13; refine (HV3.out _).mono ?_; rintro e w9 ⟨rfl, b9⟩; have B9 := Lib.hid (B8.out.trans (b9.mono B8.out.size)); clear HV3))
          all_goals (go_ret; exact ⟨by first | rfl | (simp; done) | (simp; omega), B9.out⟩)
        | true =>
          have HV3 := Lib.hid (fun W => may_at n2 true a3 W)
          have r3 := (may_iff n2).1 a3
          clear a3
          cases a4 : mayN n3 with
          | false =>
            have HV4 := Lib.hid (fun W => may_at n3 false a4 W)
            clear hm hx hy hc
            go_enter Try.func4, Try.ntmps4
            go_wp2_with (first
                | (go_at_call 8; refine (AWK.out _ (E.below (B0.out))).mono ?_; rintro e w1 ⟨rfl, b1⟩; have B1 := Lib.hid (B0.out.trans (b1.mono B0.out.size)); clear AWK)
                | (go_at_call 9; refine (HT.out _ (E.below (B1.out))).mono ?_; rintro e w2 ⟨rfl, b2⟩; have B2 := Lib.hid (B1.out.trans (b2.mono B1.out.size)); clear HT)
                | (go_at_call 13; refine (Hm.out _).mono ?_; rintro e w3 ⟨rfl, b3⟩; have B3 := Lib.hid (B2.out.trans (b3.mono B2.out.size)); clear Hm)
                | (go_at_call 13; refine (Hx.out _).mono ?_; rintro e w4 ⟨rfl, b4⟩; have B4 := Lib.hid (B3.out.trans (b4.mono B3.out.size)); clear Hx)
                | (go_at_call 13; refine (Hy.out _).mono ?_; rintro e w5 ⟨rfl, b5⟩; have B5 := Lib.hid (B4.out.trans (b5.mono B4.out.size)); clear Hy)
                | (go_at_call 13; refine (HV0.out _).mono ?_; rintro e w6 ⟨rfl, b6⟩; have B6 := Lib.hid (B5.out.trans (b6.mono B5.out.size)); clear HV0)
                | (go_at_call 13; refine (HV1.out _).mono ?_; rintro e w7 ⟨rfl, b7⟩; have B7 := Lib.hid (B6.out.trans (b7.mono B6.out.size)); clear HV1)
                | (go_at_call 13; refine (HV2.out _).mono ?_; rintro e w8 ⟨rfl, b8⟩; have B8 := Lib.hid (B7.out.trans (b8.mono B7.out.size)); clear HV2)
                | (go_at_call 13; refine (HV3.out _).mono ?_; rintro e w9 ⟨rfl, b9⟩; have B9 := Lib.hid (B8.out.trans (b9.mono B8.out.size)); clear HV3)
                | (go_at_call 13; refine (HV4.out _).mono ?_; rintro e w10 ⟨rfl, b10⟩; have B10 := Lib.hid (B9.out.trans (b10.mono B9.out.size)); clear HV4))
            all_goals (go_ret; exact ⟨by first | rfl | (simp; done) | (simp; omega), B10.out⟩)
          | true =>
            have HV4 := Lib.hid (fun W => may_at n3 true a4 W)
            have r4 := (may_iff n3).1 a4
            clear a4
            obtain ⟨f1, f2, f3, f4, f5, f6⟩ := take_in r1.1 r1.2 r2.1 r2.2 r3.1 r3.2 r4.1 r4.2 r0.1 r0.2
            rw [hm] at f1 f2 f3 f4 f5 f6
            rw [hc] at f2
            rw [hx] at f3
            rw [hy] at f4
            clear hm hx hy hc
            have g1 : ¬ n4 < m := by omega
            subst f2
            by_cases d1 : n1 ≤ n0
            · have gu : ¬ n0 < n1 := by omega
              by_cases d2 : n3 ≤ n2
              · obtain ⟨rfl, f3b⟩ := f3 d1
                have gx : ¬ n0 < n1 + m := by omega
                obtain ⟨rfl, f4b⟩ := f4 d2
                have gy : ¬ n2 < n3 + m := by omega
                have gq : ¬ n2 < n3 := by omega
                have f6' := f6 d1 d2
                clear f3 f4 f5 f6
                by_cases d3 : m < n4
                · have d3' : decide (m < n4) = true := decide_eq_true d3
                  rcases f6' d3 with f | f
                  · have gz : (n1 + m == n0) = true := by rw [beq_iff_eq]; exact f
                    clear f f6'
                    rw [d3'] at HT
                    go_enter Try.func4, Try.ntmps4
                    go_wp2_with (first
                        | (go_at_call 8; refine (AWK.out _ (E.below (B0.out))).mono ?_; rintro e w1 ⟨rfl, b1⟩; have B1 := Lib.hid (B0.out.trans (b1.mono B0.out.size)); clear AWK)
                        | (go_at_call 9; refine (HT.out _ (E.below (B1.out))).mono ?_; rintro e w2 ⟨rfl, b2⟩; have B2 := Lib.hid (B1.out.trans (b2.mono B1.out.size)); clear HT)
                        | (go_at_call 13; refine (Hm.out _).mono ?_; rintro e w3 ⟨rfl, b3⟩; have B3 := Lib.hid (B2.out.trans (b3.mono B2.out.size)); clear Hm)
                        | (go_at_call 13; refine (Hx.out _).mono ?_; rintro e w4 ⟨rfl, b4⟩; have B4 := Lib.hid (B3.out.trans (b4.mono B3.out.size)); clear Hx)
                        | (go_at_call 13; refine (Hy.out _).mono ?_; rintro e w5 ⟨rfl, b5⟩; have B5 := Lib.hid (B4.out.trans (b5.mono B4.out.size)); clear Hy)
                        | (go_at_call 13; refine (HV0.out _).mono ?_; rintro e w6 ⟨rfl, b6⟩; have B6 := Lib.hid (B5.out.trans (b6.mono B5.out.size)); clear HV0)
                        | (go_at_call 13; refine (HV1.out _).mono ?_; rintro e w7 ⟨rfl, b7⟩; have B7 := Lib.hid (B6.out.trans (b7.mono B6.out.size)); clear HV1)
                        | (go_at_call 13; refine (HV2.out _).mono ?_; rintro e w8 ⟨rfl, b8⟩; have B8 := Lib.hid (B7.out.trans (b8.mono B7.out.size)); clear HV2)
                        | (go_at_call 13; refine (HV3.out _).mono ?_; rintro e w9 ⟨rfl, b9⟩; have B9 := Lib.hid (B8.out.trans (b9.mono B8.out.size)); clear HV3)
                        | (go_at_call 13; refine (HV4.out _).mono ?_; rintro e w10 ⟨rfl, b10⟩; have B10 := Lib.hid (B9.out.trans (b10.mono B9.out.size)); clear HV4))
                    all_goals (go_ret; exact ⟨by first | rfl | (simp; done) | (simp; omega), B10.out⟩)
                  · have gw : (n3 + m == n2) = true := by rw [beq_iff_eq]; exact f
                    clear f f6'
                    cases gz : (n1 + m == n0) with
                    | true =>
                      rw [d3'] at HT
                      go_enter Try.func4, Try.ntmps4
                      go_wp2_with (first
                          | (go_at_call 8; refine (AWK.out _ (E.below (B0.out))).mono ?_; rintro e w1 ⟨rfl, b1⟩; have B1 := Lib.hid (B0.out.trans (b1.mono B0.out.size)); clear AWK)
                          | (go_at_call 9; refine (HT.out _ (E.below (B1.out))).mono ?_; rintro e w2 ⟨rfl, b2⟩; have B2 := Lib.hid (B1.out.trans (b2.mono B1.out.size)); clear HT)
                          | (go_at_call 13; refine (Hm.out _).mono ?_; rintro e w3 ⟨rfl, b3⟩; have B3 := Lib.hid (B2.out.trans (b3.mono B2.out.size)); clear Hm)
                          | (go_at_call 13; refine (Hx.out _).mono ?_; rintro e w4 ⟨rfl, b4⟩; have B4 := Lib.hid (B3.out.trans (b4.mono B3.out.size)); clear Hx)
                          | (go_at_call 13; refine (Hy.out _).mono ?_; rintro e w5 ⟨rfl, b5⟩; have B5 := Lib.hid (B4.out.trans (b5.mono B4.out.size)); clear Hy)
                          | (go_at_call 13; refine (HV0.out _).mono ?_; rintro e w6 ⟨rfl, b6⟩; have B6 := Lib.hid (B5.out.trans (b6.mono B5.out.size)); clear HV0)
                          | (go_at_call 13; refine (HV1.out _).mono ?_; rintro e w7 ⟨rfl, b7⟩; have B7 := Lib.hid (B6.out.trans (b7.mono B6.out.size)); clear HV1)
                          | (go_at_call 13; refine (HV2.out _).mono ?_; rintro e w8 ⟨rfl, b8⟩; have B8 := Lib.hid (B7.out.trans (b8.mono B7.out.size)); clear HV2)
                          | (go_at_call 13; refine (HV3.out _).mono ?_; rintro e w9 ⟨rfl, b9⟩; have B9 := Lib.hid (B8.out.trans (b9.mono B8.out.size)); clear HV3)
                          | (go_at_call 13; refine (HV4.out _).mono ?_; rintro e w10 ⟨rfl, b10⟩; have B10 := Lib.hid (B9.out.trans (b10.mono B9.out.size)); clear HV4))
                      all_goals (go_ret; exact ⟨by first | rfl | (simp; done) | (simp; omega), B10.out⟩)
                    | false =>
                      rw [d3'] at HT
                      go_enter Try.func4, Try.ntmps4
                      go_wp2_with (first
                          | (go_at_call 8; refine (AWK.out _ (E.below (B0.out))).mono ?_; rintro e w1 ⟨rfl, b1⟩; have B1 := Lib.hid (B0.out.trans (b1.mono B0.out.size)); clear AWK)
                          | (go_at_call 9; refine (HT.out _ (E.below (B1.out))).mono ?_; rintro e w2 ⟨rfl, b2⟩; have B2 := Lib.hid (B1.out.trans (b2.mono B1.out.size)); clear HT)
                          | (go_at_call 13; refine (Hm.out _).mono ?_; rintro e w3 ⟨rfl, b3⟩; have B3 := Lib.hid (B2.out.trans (b3.mono B2.out.size)); clear Hm)
                          | (go_at_call 13; refine (Hx.out _).mono ?_; rintro e w4 ⟨rfl, b4⟩; have B4 := Lib.hid (B3.out.trans (b4.mono B3.out.size)); clear Hx)
                          | (go_at_call 13; refine (Hy.out _).mono ?_; rintro e w5 ⟨rfl, b5⟩; have B5 := Lib.hid (B4.out.trans (b5.mono B4.out.size)); clear Hy)
                          | (go_at_call 13; refine (HV0.out _).mono ?_; rintro e w6 ⟨rfl, b6⟩; have B6 := Lib.hid (B5.out.trans (b6.mono B5.out.size)); clear HV0)
                          | (go_at_call 13; refine (HV1.out _).mono ?_; rintro e w7 ⟨rfl, b7⟩; have B7 := Lib.hid (B6.out.trans (b7.mono B6.out.size)); clear HV1)
                          | (go_at_call 13; refine (HV2.out _).mono ?_; rintro e w8 ⟨rfl, b8⟩; have B8 := Lib.hid (B7.out.trans (b8.mono B7.out.size)); clear HV2)
                          | (go_at_call 13; refine (HV3.out _).mono ?_; rintro e w9 ⟨rfl, b9⟩; have B9 := Lib.hid (B8.out.trans (b9.mono B8.out.size)); clear HV3)
                          | (go_at_call 13; refine (HV4.out _).mono ?_; rintro e w10 ⟨rfl, b10⟩; have B10 := Lib.hid (B9.out.trans (b10.mono B9.out.size)); clear HV4))
                      all_goals (go_ret; exact ⟨by first | rfl | (simp; done) | (simp; omega), B10.out⟩)
                · have d3' : decide (m < n4) = false := decide_eq_false d3
                  clear f6'
                  rw [d3'] at HT
                  go_enter Try.func4, Try.ntmps4
                  go_wp2_with (first
                      | (go_at_call 8; refine (AWK.out _ (E.below (B0.out))).mono ?_; rintro e w1 ⟨rfl, b1⟩; have B1 := Lib.hid (B0.out.trans (b1.mono B0.out.size)); clear AWK)
                      | (go_at_call 9; refine (HT.out _ (E.below (B1.out))).mono ?_; rintro e w2 ⟨rfl, b2⟩; have B2 := Lib.hid (B1.out.trans (b2.mono B1.out.size)); clear HT)
                      | (go_at_call 13; refine (Hm.out _).mono ?_; rintro e w3 ⟨rfl, b3⟩; have B3 := Lib.hid (B2.out.trans (b3.mono B2.out.size)); clear Hm)
                      | (go_at_call 13; refine (Hx.out _).mono ?_; rintro e w4 ⟨rfl, b4⟩; have B4 := Lib.hid (B3.out.trans (b4.mono B3.out.size)); clear Hx)
                      | (go_at_call 13; refine (Hy.out _).mono ?_; rintro e w5 ⟨rfl, b5⟩; have B5 := Lib.hid (B4.out.trans (b5.mono B4.out.size)); clear Hy)
                      | (go_at_call 13; refine (HV0.out _).mono ?_; rintro e w6 ⟨rfl, b6⟩; have B6 := Lib.hid (B5.out.trans (b6.mono B5.out.size)); clear HV0)
                      | (go_at_call 13; refine (HV1.out _).mono ?_; rintro e w7 ⟨rfl, b7⟩; have B7 := Lib.hid (B6.out.trans (b7.mono B6.out.size)); clear HV1)
                      | (go_at_call 13; refine (HV2.out _).mono ?_; rintro e w8 ⟨rfl, b8⟩; have B8 := Lib.hid (B7.out.trans (b8.mono B7.out.size)); clear HV2)
                      | (go_at_call 13; refine (HV3.out _).mono ?_; rintro e w9 ⟨rfl, b9⟩; have B9 := Lib.hid (B8.out.trans (b9.mono B8.out.size)); clear HV3)
                      | (go_at_call 13; refine (HV4.out _).mono ?_; rintro e w10 ⟨rfl, b10⟩; have B10 := Lib.hid (B9.out.trans (b10.mono B9.out.size)); clear HV4))
                  all_goals (go_ret; exact ⟨by first | rfl | (simp; done) | (simp; omega), B10.out⟩)
              obtain rfl : m = 0 := f5 (Or.inr (by omega))
              obtain rfl : x = n1 := by have := (f3 d1).1; omega
              have gx : ¬ n0 < x := by omega
              have gq : n2 < n3 := by omega
              clear f3 f4 f5 f6
              by_cases d3 : (0 : Int) < n4
              · have d3' : decide ((0 : Int) < n4) = true := decide_eq_true d3
                rw [d3'] at HT
                go_enter Try.func4, Try.ntmps4
                go_wp2_with (first
                    | (go_at_call 8; refine (AWK.out _ (E.below (B0.out))).mono ?_; rintro e w1 ⟨rfl, b1⟩; have B1 := Lib.hid (B0.out.trans (b1.mono B0.out.size)); clear AWK)
                    | (go_at_call 9; refine (HT.out _ (E.below (B1.out))).mono ?_; rintro e w2 ⟨rfl, b2⟩; have B2 := Lib.hid (B1.out.trans (b2.mono B1.out.size)); clear HT)
                    | (go_at_call 13; refine (Hm.out _).mono ?_; rintro e w3 ⟨rfl, b3⟩; have B3 := Lib.hid (B2.out.trans (b3.mono B2.out.size)); clear Hm)
                    | (go_at_call 13; refine (Hx.out _).mono ?_; rintro e w4 ⟨rfl, b4⟩; have B4 := Lib.hid (B3.out.trans (b4.mono B3.out.size)); clear Hx)
                    | (go_at_call 13; refine (Hy.out _).mono ?_; rintro e w5 ⟨rfl, b5⟩; have B5 := Lib.hid (B4.out.trans (b5.mono B4.out.size)); clear Hy)
                    | (go_at_call 13; refine (HV0.out _).mono ?_; rintro e w6 ⟨rfl, b6⟩; have B6 := Lib.hid (B5.out.trans (b6.mono B5.out.size)); clear HV0)
                    | (go_at_call 13; refine (HV1.out _).mono ?_; rintro e w7 ⟨rfl, b7⟩; have B7 := Lib.hid (B6.out.trans (b7.mono B6.out.size)); clear HV1)
                    | (go_at_call 13; refine (HV2.out _).mono ?_; rintro e w8 ⟨rfl, b8⟩; have B8 := Lib.hid (B7.out.trans (b8.mono B7.out.size)); clear HV2)
                    | (go_at_call 13; refine (HV3.out _).mono ?_; rintro e w9 ⟨rfl, b9⟩; have B9 := Lib.hid (B8.out.trans (b9.mono B8.out.size)); clear HV3)
                    | (go_at_call 13; refine (HV4.out _).mono ?_; rintro e w10 ⟨rfl, b10⟩; have B10 := Lib.hid (B9.out.trans (b10.mono B9.out.size)); clear HV4))
                all_goals (go_ret; exact ⟨by first | rfl | (simp; done) | (simp; omega), B10.out⟩)
              have d3' : decide ((0 : Int) < n4) = false := decide_eq_false d3
              rw [d3'] at HT
              go_enter Try.func4, Try.ntmps4
              go_wp2_with (first
                  | (go_at_call 8; refine (AWK.out _ (E.below (B0.out))).mono ?_; rintro e w1 ⟨rfl, b1⟩; have B1 := Lib.hid (B0.out.trans (b1.mono B0.out.size)); clear AWK)
                  | (go_at_call 9; refine (HT.out _ (E.below (B1.out))).mono ?_; rintro e w2 ⟨rfl, b2⟩; have B2 := Lib.hid (B1.out.trans (b2.mono B1.out.size)); clear HT)
                  | (go_at_call 13; refine (Hm.out _).mono ?_; rintro e w3 ⟨rfl, b3⟩; have B3 := Lib.hid (B2.out.trans (b3.mono B2.out.size)); clear Hm)
                  | (go_at_call 13; refine (Hx.out _).mono ?_; rintro e w4 ⟨rfl, b4⟩; have B4 := Lib.hid (B3.out.trans (b4.mono B3.out.size)); clear Hx)
                  | (go_at_call 13; refine (Hy.out _).mono ?_; rintro e w5 ⟨rfl, b5⟩; have B5 := Lib.hid (B4.out.trans (b5.mono B4.out.size)); clear Hy)
                  | (go_at_call 13; refine (HV0.out _).mono ?_; rintro e w6 ⟨rfl, b6⟩; have B6 := Lib.hid (B5.out.trans (b6.mono B5.out.size)); clear HV0)
                  | (go_at_call 13; refine (HV1.out _).mono ?_; rintro e w7 ⟨rfl, b7⟩; have B7 := Lib.hid (B6.out.trans (b7.mono B6.out.size)); clear HV1)
                  | (go_at_call 13; refine (HV2.out _).mono ?_; rintro e w8 ⟨rfl, b8⟩; have B8 := Lib.hid (B7.out.trans (b8.mono B7.out.size)); clear HV2)
                  | (go_at_call 13; refine (HV3.out _).mono ?_; rintro e w9 ⟨rfl, b9⟩; have B9 := Lib.hid (B8.out.trans (b9.mono B8.out.size)); clear HV3)
                  | (go_at_call 13; refine (HV4.out _).mono ?_; rintro e w10 ⟨rfl, b10⟩; have B10 := Lib.hid (B9.out.trans (b10.mono B9.out.size)); clear HV4))
              all_goals (go_ret; exact ⟨by first | rfl | (simp; done) | (simp; omega), B10.out⟩)
            obtain rfl : m = 0 := f5 (Or.inl (by omega))
            have gu : n0 < n1 := by omega
            by_cases d2 : n3 ≤ n2
            · obtain rfl : y = n3 := by have := (f4 d2).1; omega
              have gy : ¬ n2 < y := by omega
              clear f3 f4 f5 f6
              by_cases d3 : (0 : Int) < n4
              · have d3' : decide ((0 : Int) < n4) = true := decide_eq_true d3
                rw [d3'] at HT
                go_enter Try.func4, Try.ntmps4
                go_wp2_with (first
                    | (go_at_call 8; refine (AWK.out _ (E.below (B0.out))).mono ?_; rintro e w1 ⟨rfl, b1⟩; have B1 := Lib.hid (B0.out.trans (b1.mono B0.out.size)); clear AWK)
                    | (go_at_call 9; refine (HT.out _ (E.below (B1.out))).mono ?_; rintro e w2 ⟨rfl, b2⟩; have B2 := Lib.hid (B1.out.trans (b2.mono B1.out.size)); clear HT)
                    | (go_at_call 13; refine (Hm.out _).mono ?_; rintro e w3 ⟨rfl, b3⟩; have B3 := Lib.hid (B2.out.trans (b3.mono B2.out.size)); clear Hm)
                    | (go_at_call 13; refine (Hx.out _).mono ?_; rintro e w4 ⟨rfl, b4⟩; have B4 := Lib.hid (B3.out.trans (b4.mono B3.out.size)); clear Hx)
                    | (go_at_call 13; refine (Hy.out _).mono ?_; rintro e w5 ⟨rfl, b5⟩; have B5 := Lib.hid (B4.out.trans (b5.mono B4.out.size)); clear Hy)
                    | (go_at_call 13; refine (HV0.out _).mono ?_; rintro e w6 ⟨rfl, b6⟩; have B6 := Lib.hid (B5.out.trans (b6.mono B5.out.size)); clear HV0)
                    | (go_at_call 13; refine (HV1.out _).mono ?_; rintro e w7 ⟨rfl, b7⟩; have B7 := Lib.hid (B6.out.trans (b7.mono B6.out.size)); clear HV1)
                    | (go_at_call 13; refine (HV2.out _).mono ?_; rintro e w8 ⟨rfl, b8⟩; have B8 := Lib.hid (B7.out.trans (b8.mono B7.out.size)); clear HV2)
                    | (go_at_call 13; refine (HV3.out _).mono ?_; rintro e w9 ⟨rfl, b9⟩; have B9 := Lib.hid (B8.out.trans (b9.mono B8.out.size)); clear HV3)
                    | (go_at_call 13; refine (HV4.out _).mono ?_; rintro e w10 ⟨rfl, b10⟩; have B10 := Lib.hid (B9.out.trans (b10.mono B9.out.size)); clear HV4))
                all_goals (go_ret; exact ⟨by first | rfl | (simp; done) | (simp; omega), B10.out⟩)
              have d3' : decide ((0 : Int) < n4) = false := decide_eq_false d3
              rw [d3'] at HT
              go_enter Try.func4, Try.ntmps4
              go_wp2_with (first
                  | (go_at_call 8; refine (AWK.out _ (E.below (B0.out))).mono ?_; rintro e w1 ⟨rfl, b1⟩; have B1 := Lib.hid (B0.out.trans (b1.mono B0.out.size)); clear AWK)
                  | (go_at_call 9; refine (HT.out _ (E.below (B1.out))).mono ?_; rintro e w2 ⟨rfl, b2⟩; have B2 := Lib.hid (B1.out.trans (b2.mono B1.out.size)); clear HT)
                  | (go_at_call 13; refine (Hm.out _).mono ?_; rintro e w3 ⟨rfl, b3⟩; have B3 := Lib.hid (B2.out.trans (b3.mono B2.out.size)); clear Hm)
                  | (go_at_call 13; refine (Hx.out _).mono ?_; rintro e w4 ⟨rfl, b4⟩; have B4 := Lib.hid (B3.out.trans (b4.mono B3.out.size)); clear Hx)
                  | (go_at_call 13; refine (Hy.out _).mono ?_; rintro e w5 ⟨rfl, b5⟩; have B5 := Lib.hid (B4.out.trans (b5.mono B4.out.size)); clear Hy)
                  | (go_at_call 13; refine (HV0.out _).mono ?_; rintro e w6 ⟨rfl, b6⟩; have B6 := Lib.hid (B5.out.trans (b6.mono B5.out.size)); clear HV0)
                  | (go_at_call 13; refine (HV1.out _).mono ?_; rintro e w7 ⟨rfl, b7⟩; have B7 := Lib.hid (B6.out.trans (b7.mono B6.out.size)); clear HV1)
                  | (go_at_call 13; refine (HV2.out _).mono ?_; rintro e w8 ⟨rfl, b8⟩; have B8 := Lib.hid (B7.out.trans (b8.mono B7.out.size)); clear HV2)
                  | (go_at_call 13; refine (HV3.out _).mono ?_; rintro e w9 ⟨rfl, b9⟩; have B9 := Lib.hid (B8.out.trans (b9.mono B8.out.size)); clear HV3)
                  | (go_at_call 13; refine (HV4.out _).mono ?_; rintro e w10 ⟨rfl, b10⟩; have B10 := Lib.hid (B9.out.trans (b10.mono B9.out.size)); clear HV4))
              all_goals (go_ret; exact ⟨by first | rfl | (simp; done) | (simp; omega), B10.out⟩)
            clear f3 f4 f5 f6
            by_cases d3 : (0 : Int) < n4
            · have d3' : decide ((0 : Int) < n4) = true := decide_eq_true d3
              rw [d3'] at HT
              go_enter Try.func4, Try.ntmps4
              go_wp2_with (first
                  | (go_at_call 8; refine (AWK.out _ (E.below (B0.out))).mono ?_; rintro e w1 ⟨rfl, b1⟩; have B1 := Lib.hid (B0.out.trans (b1.mono B0.out.size)); clear AWK)
                  | (go_at_call 9; refine (HT.out _ (E.below (B1.out))).mono ?_; rintro e w2 ⟨rfl, b2⟩; have B2 := Lib.hid (B1.out.trans (b2.mono B1.out.size)); clear HT)
                  | (go_at_call 13; refine (Hm.out _).mono ?_; rintro e w3 ⟨rfl, b3⟩; have B3 := Lib.hid (B2.out.trans (b3.mono B2.out.size)); clear Hm)
                  | (go_at_call 13; refine (Hx.out _).mono ?_; rintro e w4 ⟨rfl, b4⟩; have B4 := Lib.hid (B3.out.trans (b4.mono B3.out.size)); clear Hx)
                  | (go_at_call 13; refine (Hy.out _).mono ?_; rintro e w5 ⟨rfl, b5⟩; have B5 := Lib.hid (B4.out.trans (b5.mono B4.out.size)); clear Hy)
                  | (go_at_call 13; refine (HV0.out _).mono ?_; rintro e w6 ⟨rfl, b6⟩; have B6 := Lib.hid (B5.out.trans (b6.mono B5.out.size)); clear HV0)
                  | (go_at_call 13; refine (HV1.out _).mono ?_; rintro e w7 ⟨rfl, b7⟩; have B7 := Lib.hid (B6.out.trans (b7.mono B6.out.size)); clear HV1)
                  | (go_at_call 13; refine (HV2.out _).mono ?_; rintro e w8 ⟨rfl, b8⟩; have B8 := Lib.hid (B7.out.trans (b8.mono B7.out.size)); clear HV2)
                  | (go_at_call 13; refine (HV3.out _).mono ?_; rintro e w9 ⟨rfl, b9⟩; have B9 := Lib.hid (B8.out.trans (b9.mono B8.out.size)); clear HV3)
                  | (go_at_call 13; refine (HV4.out _).mono ?_; rintro e w10 ⟨rfl, b10⟩; have B10 := Lib.hid (B9.out.trans (b10.mono B9.out.size)); clear HV4))
              all_goals (go_ret; exact ⟨by first | rfl | (simp; done) | (simp; omega), B10.out⟩)
            have d3' : decide ((0 : Int) < n4) = false := decide_eq_false d3
            rw [d3'] at HT
            go_enter Try.func4, Try.ntmps4
            go_wp2_with (first
                | (go_at_call 8; refine (AWK.out _ (E.below (B0.out))).mono ?_; rintro e w1 ⟨rfl, b1⟩; have B1 := Lib.hid (B0.out.trans (b1.mono B0.out.size)); clear AWK)
                | (go_at_call 9; refine (HT.out _ (E.below (B1.out))).mono ?_; rintro e w2 ⟨rfl, b2⟩; have B2 := Lib.hid (B1.out.trans (b2.mono B1.out.size)); clear HT)
                | (go_at_call 13; refine (Hm.out _).mono ?_; rintro e w3 ⟨rfl, b3⟩; have B3 := Lib.hid (B2.out.trans (b3.mono B2.out.size)); clear Hm)
                | (go_at_call 13; refine (Hx.out _).mono ?_; rintro e w4 ⟨rfl, b4⟩; have B4 := Lib.hid (B3.out.trans (b4.mono B3.out.size)); clear Hx)
                | (go_at_call 13; refine (Hy.out _).mono ?_; rintro e w5 ⟨rfl, b5⟩; have B5 := Lib.hid (B4.out.trans (b5.mono B4.out.size)); clear Hy)
                | (go_at_call 13; refine (HV0.out _).mono ?_; rintro e w6 ⟨rfl, b6⟩; have B6 := Lib.hid (B5.out.trans (b6.mono B5.out.size)); clear HV0)
                | (go_at_call 13; refine (HV1.out _).mono ?_; rintro e w7 ⟨rfl, b7⟩; have B7 := Lib.hid (B6.out.trans (b7.mono B6.out.size)); clear HV1)
                | (go_at_call 13; refine (HV2.out _).mono ?_; rintro e w8 ⟨rfl, b8⟩; have B8 := Lib.hid (B7.out.trans (b8.mono B7.out.size)); clear HV2)
                | (go_at_call 13; refine (HV3.out _).mono ?_; rintro e w9 ⟨rfl, b9⟩; have B9 := Lib.hid (B8.out.trans (b9.mono B8.out.size)); clear HV3)
                | (go_at_call 13; refine (HV4.out _).mono ?_; rintro e w10 ⟨rfl, b10⟩; have B10 := Lib.hid (B9.out.trans (b10.mono B9.out.size)); clear HV4))
            all_goals (go_ret; exact ⟨by first | rfl | (simp; done) | (simp; omega), B10.out⟩)

set_option maxRecDepth 100000 in
theorem lifted (os : Os) (started : os.Started) (H : Type) (enc : TypeId × Value → H) :
    ReturnsInHanded {} Try.checked os 4 .any (Rows.quotaBoundsSpec.pre6 enc Try.prog Try.f4 Rows.quotaBoundsRow.domain false) (Rows.quotaBoundsSpec.post enc Try.prog Try.f4 false true false false) := by
  refine returnsInHanded_of_change (C := Try.checked) ownKnobs started (by kernel_rfl) Try.func4
    (ChangeSpec.witness6 (enc := enc) (C := Try.checked) false ⟨#[], #[.int .i64 0, .int .i64 0, .int .i64 0, .int .i64 0, .int .i64 0], []⟩ 8 (by kernel_rfl) (by kernel_rfl) (by kernel_rfl) (by kernel_rfl)) ?_
  intro W base args ds gs before hval0 hW _ _
  have E : Env W := trivial
  have hval : ∀ (j : Nat) t v, Try.f4.params[j]? = some t → args[j]? = some v → Value.okWide Try.prog W .any base t v := hval0
  have hW' := hW
  obtain ⟨p, q, hA0, hV, rfl, _, _⟩ := hW
  have hA : DataW.TrodAll enc Try.prog W 0 (fun _ => true) true Try.f4.params.toList args.toList ds p := hA0
  rw [Try.params4] at hA hval
  obtain ⟨v0, vs0, d0, ds0, p0, q0, hargs, rfl, rfl, r0, t0⟩ := trodAll_cons hA
  obtain ⟨v1, vs1, d1, ds1, p1, q1, rfl, rfl, rfl, r1, t1⟩ := trodAll_cons t0
  obtain ⟨v2, vs2, d2, ds2, p2, q2, rfl, rfl, rfl, r2, t2⟩ := trodAll_cons t1
  obtain ⟨v3, vs3, d3, ds3, p3, q3, rfl, rfl, rfl, r3, t3⟩ := trodAll_cons t2
  obtain ⟨v4, vs4, d4, ds4, p4, q4, rfl, rfl, rfl, r4, t4⟩ := trodAll_cons t3
  obtain ⟨rfl, rfl, rfl⟩ := trodAll_nil t4
  obtain rfl : args = #[v0, v1, v2, v3, v4] := by cases args; simp_all
  obtain ⟨rfl, rfl⟩ := trodVars_none hV
  obtain ⟨n0, rfl, rfl, rfl, w0⟩ := open_int Try.underlying3 (hval 0 3 v0 rfl rfl) r0
  obtain ⟨n1, rfl, rfl, rfl, w1⟩ := open_int Try.underlying3 (hval 1 3 v1 rfl rfl) r1
  obtain ⟨n2, rfl, rfl, rfl, w2⟩ := open_int Try.underlying3 (hval 2 3 v2 rfl rfl) r2
  obtain ⟨n3, rfl, rfl, rfl, w3⟩ := open_int Try.underlying3 (hval 3 3 v3 rfl rfl) r3
  obtain ⟨n4, rfl, rfl, rfl, w4⟩ := open_int Try.underlying3 (hval 4 3 v4 rfl rfl) r4
  clear hA0 hval0
  simp only [List.append_nil] at hW'
  refine (walk n0 (int_wf w0).1 (int_wf w0).2 n1 (int_wf w1).1 (int_wf w1).2 n2 (int_wf w2).1 (int_wf w2).2 n3 (int_wf w3).1 (int_wf w3).2 n4 (int_wf w4).1 (int_wf w4).2 W  E).mono fun e W' ⟨he, hb⟩ => ?_
  subst he
  exact ⟨_, rfl, told hW' (fun _ _ _ => trodAll_cons_mk (shut_bool Try.underlying4 _) trodAll_mk0) (trodAll_cons_mk (shut_int Try.underlying3 w0) (trodAll_cons_mk (shut_int Try.underlying3 w1) (trodAll_cons_mk (shut_int Try.underlying3 w2) (trodAll_cons_mk (shut_int Try.underlying3 w3) (trodAll_cons_mk (shut_int Try.underlying3 w4) trodAll_mk0))))) (fun _ => rfl) hb⟩

theorem over : Rows.quotaBoundsRow.holds Try.pinned (OpenSpec.ofChange Rows.quotaBoundsSpec) :=
  OpenClaim.holds_of_wide 4 Try.f4 rfl rfl rfl rfl rfl rfl rfl ⟨rfl, rfl, rfl, rfl, rfl⟩ rfl rfl rfl rfl rfl (by kernel_rfl) Try.func4 (by kernel_rfl)
    (of_decide_eq_true (by kernel_rfl)) (by unfold Func.isWrapper; first | (rw [if_pos (by decide +kernel)]; kernel_rfl) | (rw [if_neg (by decide +kernel)]; exact ⟨rfl, rfl⟩))
    (fun os started H enc _ => lifted os started H enc)

theorem proved : Rows.QuotaBoundsSaid :=
  over
#print axioms proved
end Go.Proofs.Ytipagdnkmeaicaa.quotaBounds
