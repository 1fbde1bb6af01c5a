/- Proved: for every two limits, what is used of them, and two numbers (held against 2^39): what is taken in two goes is as in one. Conditions: none beyond the row's own (the library's variables start as the program's text lays them: the card ties them). -/
import Derived.Test.YtipagdnkmeaicaaQuotaAwake
import Derived.BigQuiet
import Derived.Deep.QuietTactic
import Derived.Deep.RegionHeld

namespace Go.Proofs.Ytipagdnkmeaicaa.quotaTwice
open Go.Proofs.Ytipagdnkmeaicaa Go.Proofs.Ytipagdnkmeaicaa.Qt
open Go.ChangeShapes Go.WideShapes Go.ChangeAt Go.RowKit Go.Sort Go.ChangeMaps
set_option linter.unusedSimpArgs false
set_option linter.unusedVariables false
set_option linter.unusedVariables false in
set_option maxHeartbeats 16000000 in
set_option maxRecDepth 100000 in
theorem walk (n0 : Int) (l0 : -9223372036854775808 ≤ n0) (h0 : n0 ≤ 9223372036854775807) (n1 : Int) (l1 : -9223372036854775808 ≤ n1) (h1 : n1 ≤ 9223372036854775807) (n2 : Int) (l2 : -9223372036854775808 ≤ n2) (h2 : n2 ≤ 9223372036854775807) (n3 : Int) (l3 : -9223372036854775808 ≤ n3) (h3 : n3 ≤ 9223372036854775807) (n4 : Int) (l4 : -9223372036854775808 ≤ n4) (h4 : n4 ≤ 9223372036854775807) (n5 : Int) (l5 : -9223372036854775808 ≤ n5) (h5 : n5 ≤ 9223372036854775807) (w : World)  (E : Env w) :
    Calls Try.prog 5 #[.int .i64 n0, .int .i64 n1, .int .i64 n2, .int .i64 n3, .int .i64 n4, .int .i64 n5] w fun e w' => e = .returned (.bool true) ∧ Below w.heap.size w w' := by
  have AWK := Lib.hid (fun W EW => awake_any W EW)
  have B0 := Lib.hid (Below.refl w.heap.size w)
  by_cases ga : n4 < 0
  · go_enter Try.func5, Try.ntmps5
    go_wp2_with (first
        | (go_at_call 8; refine (AWK.out _ (E.below (B0.out))).mono ?_; rintro e w1 ⟨rfl, b1⟩; have B1 := Lib.hid (B0.out.trans (b1.mono B0.out.size)); clear AWK))
    all_goals (go_ret; exact ⟨by first | rfl | (simp; done) | (simp; omega), B1.out⟩)
  have ga' : ¬ n4 < 0 := by omega
  by_cases gb : n5 < 0
  · go_enter Try.func5, Try.ntmps5
    go_wp2_with (first
        | (go_at_call 8; refine (AWK.out _ (E.below (B0.out))).mono ?_; rintro e w1 ⟨rfl, b1⟩; have B1 := Lib.hid (B0.out.trans (b1.mono B0.out.size)); clear AWK))
    all_goals (go_ret; exact ⟨by first | rfl | (simp; done) | (simp; omega), B1.out⟩)
  have gb' : ¬ n5 < 0 := by omega
  by_cases gc : 549755813888 < n4
  · go_enter Try.func5, Try.ntmps5
    go_wp2_with (first
        | (go_at_call 8; refine (AWK.out _ (E.below (B0.out))).mono ?_; rintro e w1 ⟨rfl, b1⟩; have B1 := Lib.hid (B0.out.trans (b1.mono B0.out.size)); clear AWK))
    all_goals (go_ret; exact ⟨by first | rfl | (simp; done) | (simp; omega), B1.out⟩)
  have gc' : ¬ 549755813888 < n4 := by omega
  by_cases gd : 549755813888 < n5
  · go_enter Try.func5, Try.ntmps5
    go_wp2_with (first
        | (go_at_call 8; refine (AWK.out _ (E.below (B0.out))).mono ?_; rintro e w1 ⟨rfl, b1⟩; have B1 := Lib.hid (B0.out.trans (b1.mono B0.out.size)); clear AWK))
    all_goals (go_ret; exact ⟨by first | rfl | (simp; done) | (simp; omega), B1.out⟩)
  have gd' : ¬ 549755813888 < n5 := by omega
  obtain ⟨t1, t2, t3⟩ := take_twice n0 n1 n2 n3 n4 n5 (by omega) (by omega) (by omega) (by omega)
  have b1 := take_may n0 n1 n2 n3 n4
  have b2 := (may_iff _).1 b1.2.1
  obtain ⟨m, x, y, c, h1⟩ : ∃ m x y c, take n0 n1 n2 n3 n4 = ⟨m, x, y, c⟩ := ⟨_, _, _, _, rfl⟩
  rw [h1] at t1 t2 t3 b2
  simp only at t1 t2 t3 b2
  have b3 := take_may n0 x n2 y n5
  have b4 := (may_iff _).1 b3.2.1
  obtain ⟨m', x', y', c', h2⟩ : ∃ m x' y' c, take n0 x n2 y n5 = ⟨m, x', y', c⟩ := ⟨_, _, _, _, rfl⟩
  rw [h2] at t1 t2 t3 b4
  simp only at t1 t2 t3 b4
  obtain ⟨m9, x9, y9, c9, h3⟩ : ∃ m x y c, take n0 n1 n2 n3 (n4 + n5) = ⟨m, x, y, c⟩ := ⟨_, _, _, _, rfl⟩
  rw [h3] at t1 t2 t3
  simp only at t1 t2 t3
  subst t1; subst t2; subst t3
  have H1 := Lib.hid (fun W EW => take_at n0 n1 n2 n3 n4 m x y c h1 W EW)
  have H2 := Lib.hid (fun W EW => take_at n0 x n2 y n5 m' x9 y9 c' h2 W EW)
  have H3 := Lib.hid (fun W EW => take_at n0 n1 n2 n3 (n4 + n5) (m + m') x9 y9 c9 h3 W EW)
  clear h1 h2 h3 b1 b3
  go_enter Try.func5, Try.ntmps5
  go_wp2_with (first
      | (go_at_call 8; refine (AWK.out _ (E.below (B0.out))).mono ?_; rintro e w1 ⟨rfl, b1⟩; have B1 := Lib.hid (B0.out.trans (b1.mono B0.out.size)); clear AWK)
      | (go_at_call 9; refine (H1.out _ (E.below (B1.out))).mono ?_; rintro e w2 ⟨rfl, b2⟩; have B2 := Lib.hid (B1.out.trans (b2.mono B1.out.size)); clear H1)
      | (go_at_call 9; refine (H2.out _ (E.below (B2.out))).mono ?_; rintro e w3 ⟨rfl, b3⟩; have B3 := Lib.hid (B2.out.trans (b3.mono B2.out.size)); clear H2)
      | (go_at_call 9; refine (H3.out _ (E.below (B3.out))).mono ?_; rintro e w4 ⟨rfl, b4⟩; have B4 := Lib.hid (B3.out.trans (b4.mono B3.out.size)); clear H3))
  all_goals (go_ret; exact ⟨by first | rfl | (simp; done) | (simp; omega), B4.out⟩)

set_option maxRecDepth 100000 in
theorem lifted (os : Os) (started : os.Started) (H : Type) (enc : TypeId × Value → H) :
    ReturnsInHanded {} Try.checked os 5 .any (Rows.quotaTwiceSpec.pre6 enc Try.prog Try.f5 Rows.quotaTwiceRow.domain false) (Rows.quotaTwiceSpec.post enc Try.prog Try.f5 false true false false) := by
  refine returnsInHanded_of_change (C := Try.checked) ownKnobs started (by kernel_rfl) Try.func5
    (ChangeSpec.witness6 (enc := enc) (C := Try.checked) false ⟨#[], #[.int .i64 0, .int .i64 0, .int .i64 0, .int .i64 0, .int .i64 0, .int .i64 0], []⟩ 8 (by kernel_rfl) (by kernel_rfl) (by kernel_rfl) (by kernel_rfl)) ?_
  intro W base args ds gs before hval0 hW _ _
  have E : Env W := trivial
  have hval : ∀ (j : Nat) t v, Try.f5.params[j]? = some t → args[j]? = some v → Value.okWide Try.prog W .any base t v := hval0
  have hW' := hW
  obtain ⟨p, q, hA0, hV, rfl, _, _⟩ := hW
  have hA : DataW.TrodAll enc Try.prog W 0 (fun _ => true) true Try.f5.params.toList args.toList ds p := hA0
  rw [Try.params5] at hA hval
  obtain ⟨v0, vs0, d0, ds0, p0, q0, hargs, rfl, rfl, r0, t0⟩ := trodAll_cons hA
  obtain ⟨v1, vs1, d1, ds1, p1, q1, rfl, rfl, rfl, r1, t1⟩ := trodAll_cons t0
  obtain ⟨v2, vs2, d2, ds2, p2, q2, rfl, rfl, rfl, r2, t2⟩ := trodAll_cons t1
  obtain ⟨v3, vs3, d3, ds3, p3, q3, rfl, rfl, rfl, r3, t3⟩ := trodAll_cons t2
  obtain ⟨v4, vs4, d4, ds4, p4, q4, rfl, rfl, rfl, r4, t4⟩ := trodAll_cons t3
  obtain ⟨v5, vs5, d5, ds5, p5, q5, rfl, rfl, rfl, r5, t5⟩ := trodAll_cons t4
  obtain ⟨rfl, rfl, rfl⟩ := trodAll_nil t5
  obtain rfl : args = #[v0, v1, v2, v3, v4, v5] := by cases args; simp_all
  obtain ⟨rfl, rfl⟩ := trodVars_none hV
  obtain ⟨n0, rfl, rfl, rfl, w0⟩ := open_int Try.underlying3 (hval 0 3 v0 rfl rfl) r0
  obtain ⟨n1, rfl, rfl, rfl, w1⟩ := open_int Try.underlying3 (hval 1 3 v1 rfl rfl) r1
  obtain ⟨n2, rfl, rfl, rfl, w2⟩ := open_int Try.underlying3 (hval 2 3 v2 rfl rfl) r2
  obtain ⟨n3, rfl, rfl, rfl, w3⟩ := open_int Try.underlying3 (hval 3 3 v3 rfl rfl) r3
  obtain ⟨n4, rfl, rfl, rfl, w4⟩ := open_int Try.underlying3 (hval 4 3 v4 rfl rfl) r4
  obtain ⟨n5, rfl, rfl, rfl, w5⟩ := open_int Try.underlying3 (hval 5 3 v5 rfl rfl) r5
  clear hA0 hval0
  simp only [List.append_nil] at hW'
  refine (walk n0 (int_wf w0).1 (int_wf w0).2 n1 (int_wf w1).1 (int_wf w1).2 n2 (int_wf w2).1 (int_wf w2).2 n3 (int_wf w3).1 (int_wf w3).2 n4 (int_wf w4).1 (int_wf w4).2 n5 (int_wf w5).1 (int_wf w5).2 W  E).mono fun e W' ⟨he, hb⟩ => ?_
  subst he
  exact ⟨_, rfl, told hW' (fun _ _ _ => trodAll_cons_mk (shut_bool Try.underlying4 _) trodAll_mk0) (trodAll_cons_mk (shut_int Try.underlying3 w0) (trodAll_cons_mk (shut_int Try.underlying3 w1) (trodAll_cons_mk (shut_int Try.underlying3 w2) (trodAll_cons_mk (shut_int Try.underlying3 w3) (trodAll_cons_mk (shut_int Try.underlying3 w4) (trodAll_cons_mk (shut_int Try.underlying3 w5) trodAll_mk0)))))) (fun _ => rfl) hb⟩

theorem over : Rows.quotaTwiceRow.holds Try.pinned (OpenSpec.ofChange Rows.quotaTwiceSpec) :=
  OpenClaim.holds_of_wide 5 Try.f5 rfl rfl rfl rfl rfl rfl rfl ⟨rfl, rfl, rfl, rfl, rfl⟩ rfl rfl rfl rfl rfl (by kernel_rfl) Try.func5 (by kernel_rfl)
    (of_decide_eq_true (by kernel_rfl)) (by unfold Func.isWrapper; first | (rw [if_pos (by decide +kernel)]; kernel_rfl) | (rw [if_neg (by decide +kernel)]; exact ⟨rfl, rfl⟩))
    (fun os started H enc _ => lifted os started H enc)

theorem proved : Rows.QuotaTwiceSaid :=
  over
#print axioms proved
end Go.Proofs.Ytipagdnkmeaicaa.quotaTwice
