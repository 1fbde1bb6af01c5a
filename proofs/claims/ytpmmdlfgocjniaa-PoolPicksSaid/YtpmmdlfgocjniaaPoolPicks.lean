/- Proved: for every ports, draw and busy ones (held against 60): the one that is picked, or none, and how many are free, is what the document's answer says. Conditions: none beyond the row's own (the library's variables start as the program's text lays them: the card ties them). -/
import Derived.Test.YtpmmdlfgocjniaaPoolAwake
import Derived.BigQuiet
import Derived.Deep.QuietTactic
import Derived.Deep.RegionHeld

namespace Go.Proofs.Ytpmmdlfgocjniaa.poolPicks
open Go.Proofs.Ytpmmdlfgocjniaa Go.Proofs.Ytpmmdlfgocjniaa.Po
open Go.ChangeShapes Go.WideShapes Go.ChangeAt Go.RowKit Go.Sort Go.ChangeMaps
set_option linter.unusedSimpArgs false
set_option linter.unusedVariables false
set_option linter.unusedVariables false in
set_option maxHeartbeats 16000000 in
set_option maxRecDepth 100000 in
theorem walk (n0 : Int) (l0 : -9223372036854775808 ≤ n0) (h0 : n0 ≤ 9223372036854775807) (n1 : Int) (l1 : -9223372036854775808 ≤ n1) (h1 : n1 ≤ 9223372036854775807) (n2 : Int) (l2 : -9223372036854775808 ≤ n2) (h2 : n2 ≤ 9223372036854775807) (u3 : Value) (s3 : List Int) (z3 : ∀ x ∈ s3, -9223372036854775808 ≤ x ∧ x ≤ 9223372036854775807) (w : World) (y3 : IntsIs w u3 s3) (E : Env w) :
    Calls Try.prog 3 #[.int .i64 n0, .int .i64 n1, .int .i64 n2, u3] w fun e w' => e = .returned (.bool true) ∧ Below w.heap.size w w' := by
  have AWK := Lib.hid (fun W EW => awake_any W EW)
  have B0 := Lib.hid (Below.refl w.heap.size w)
  have WF := wf_of z3
  clear z3
  obtain ⟨p, n, c, rfl, hn⟩ := y3.form
  have HN := Lib.hid hn
  have Y := Lib.hid y3
  have hmax := y3.max
  unfold maxLen at hmax
  rw [← hn] at hmax
  clear hn y3
  by_cases g : 60 < n
  · have g' : (60 : Int) < (n : Int) := by omega
    go_enter Try.func3, Try.ntmps3
    go_wp2_with (first
        | (go_at_call 8; refine (AWK.out _ (E.below (B0.out))).mono ?_; rintro e w1 ⟨rfl, b1⟩; have B1 := Lib.hid (B0.out.trans (b1.mono B0.out.size)); clear AWK))
    all_goals (go_ret; exact ⟨by first | rfl | (simp; done) | (simp; omega), B1.out⟩)
  have g' : ¬ (60 : Int) < (n : Int) := by omega
  have hl : Hid (s3.length ≤ 100000) := Lib.hid (by rw [← HN.out]; omega)
  obtain ⟨q, b, hP⟩ : ∃ q b, pick n0 n1 n2 s3 = (q, b) := ⟨_, _, rfl⟩
  obtain ⟨f, hF⟩ : ∃ f, free n0 n1 s3 = f := ⟨_, rfl⟩
  have H1 := Lib.hid (fun W EW HR => pick_of n0 n1 n2 l2 h2 (.slice p n c) s3 hl.out q b hP W EW HR)
  have H2 := Lib.hid (fun W HR => rpick_of n0 n1 n2 (.slice p n c) s3 q b hP W HR)
  have H3 := Lib.hid (fun W EW HR => free_of n0 n1 (.slice p n c) s3 hl.out f hF W EW HR)
  have H4 := Lib.hid (fun W HR => rfree_of n0 n1 (.slice p n c) s3 f hF W HR)
  clear hP hF
  obtain ⟨D, hD⟩ : ∃ D, IntKind.i64.wrap (n1 - n0) = D := ⟨_, rfl⟩
  by_cases g1 : 1024 ≤ n0
  · by_cases g2 : n1 ≤ 65535
    · by_cases g3 : 3000 < D
      · clear H3 H4
        go_enter Try.func3, Try.ntmps3
        go_wp2_with (first
            | (go_at_call 8; refine (AWK.out _ (E.below (B0.out))).mono ?_; rintro e w1 ⟨rfl, b1⟩; have B1 := Lib.hid (B0.out.trans (b1.mono B0.out.size)); clear AWK)
            | (go_at_call 9; refine (H1.out _ (E.below (B1.out)) (Y.out.call (B1.out))).mono ?_; rintro e w2 ⟨rfl, b2⟩; have B2 := Lib.hid (B1.out.trans (b2.mono B1.out.size)); clear H1)
            | (go_at_call 10; refine (H2.out _ (Y.out.call (B2.out))).mono ?_; rintro e w3 ⟨rfl, b3⟩; have B3 := Lib.hid (B2.out.trans (b3.mono B2.out.size)); clear H2))
        all_goals (go_ret; exact ⟨by first | rfl | (simp; done) | (simp; omega), B3.out⟩)
      · go_enter Try.func3, Try.ntmps3
        go_wp2_with (first
            | (go_at_call 8; refine (AWK.out _ (E.below (B0.out))).mono ?_; rintro e w1 ⟨rfl, b1⟩; have B1 := Lib.hid (B0.out.trans (b1.mono B0.out.size)); clear AWK)
            | (go_at_call 9; refine (H1.out _ (E.below (B1.out)) (Y.out.call (B1.out))).mono ?_; rintro e w2 ⟨rfl, b2⟩; have B2 := Lib.hid (B1.out.trans (b2.mono B1.out.size)); clear H1)
            | (go_at_call 10; refine (H2.out _ (Y.out.call (B2.out))).mono ?_; rintro e w3 ⟨rfl, b3⟩; have B3 := Lib.hid (B2.out.trans (b3.mono B2.out.size)); clear H2)
            | (go_at_call 11; refine (H3.out _ (E.below (B3.out)) (Y.out.call (B3.out))).mono ?_; rintro e w4 ⟨rfl, b4⟩; have B4 := Lib.hid (B3.out.trans (b4.mono B3.out.size)); clear H3)
            | (go_at_call 12; refine (H4.out _ (Y.out.call (B4.out))).mono ?_; rintro e w5 ⟨rfl, b5⟩; have B5 := Lib.hid (B4.out.trans (b5.mono B4.out.size)); clear H4))
        all_goals (go_ret; exact ⟨by first | rfl | (simp; done) | (simp; omega), B5.out⟩)
    · go_enter Try.func3, Try.ntmps3
      go_wp2_with (first
          | (go_at_call 8; refine (AWK.out _ (E.below (B0.out))).mono ?_; rintro e w1 ⟨rfl, b1⟩; have B1 := Lib.hid (B0.out.trans (b1.mono B0.out.size)); clear AWK)
          | (go_at_call 9; refine (H1.out _ (E.below (B1.out)) (Y.out.call (B1.out))).mono ?_; rintro e w2 ⟨rfl, b2⟩; have B2 := Lib.hid (B1.out.trans (b2.mono B1.out.size)); clear H1)
          | (go_at_call 10; refine (H2.out _ (Y.out.call (B2.out))).mono ?_; rintro e w3 ⟨rfl, b3⟩; have B3 := Lib.hid (B2.out.trans (b3.mono B2.out.size)); clear H2)
          | (go_at_call 11; refine (H3.out _ (E.below (B3.out)) (Y.out.call (B3.out))).mono ?_; rintro e w4 ⟨rfl, b4⟩; have B4 := Lib.hid (B3.out.trans (b4.mono B3.out.size)); clear H3)
          | (go_at_call 12; refine (H4.out _ (Y.out.call (B4.out))).mono ?_; rintro e w5 ⟨rfl, b5⟩; have B5 := Lib.hid (B4.out.trans (b5.mono B4.out.size)); clear H4))
      all_goals (go_ret; exact ⟨by first | rfl | (simp; done) | (simp; omega), B5.out⟩)
  · go_enter Try.func3, Try.ntmps3
    go_wp2_with (first
        | (go_at_call 8; refine (AWK.out _ (E.below (B0.out))).mono ?_; rintro e w1 ⟨rfl, b1⟩; have B1 := Lib.hid (B0.out.trans (b1.mono B0.out.size)); clear AWK)
        | (go_at_call 9; refine (H1.out _ (E.below (B1.out)) (Y.out.call (B1.out))).mono ?_; rintro e w2 ⟨rfl, b2⟩; have B2 := Lib.hid (B1.out.trans (b2.mono B1.out.size)); clear H1)
        | (go_at_call 10; refine (H2.out _ (Y.out.call (B2.out))).mono ?_; rintro e w3 ⟨rfl, b3⟩; have B3 := Lib.hid (B2.out.trans (b3.mono B2.out.size)); clear H2)
        | (go_at_call 11; refine (H3.out _ (E.below (B3.out)) (Y.out.call (B3.out))).mono ?_; rintro e w4 ⟨rfl, b4⟩; have B4 := Lib.hid (B3.out.trans (b4.mono B3.out.size)); clear H3)
        | (go_at_call 12; refine (H4.out _ (Y.out.call (B4.out))).mono ?_; rintro e w5 ⟨rfl, b5⟩; have B5 := Lib.hid (B4.out.trans (b5.mono B4.out.size)); clear H4))
    all_goals (go_ret; exact ⟨by first | rfl | (simp; done) | (simp; omega), B5.out⟩)

set_option maxRecDepth 100000 in
theorem lifted (os : Os) (started : os.Started) (H : Type) (enc : TypeId × Value → H) :
    ReturnsInHanded {} Try.checked os 3 .any (Rows.poolPicksSpec.pre6 enc Try.prog Try.f3 Rows.poolPicksRow.domain false) (Rows.poolPicksSpec.post enc Try.prog Try.f3 false true false false) := by
  refine returnsInHanded_of_change (C := Try.checked) ownKnobs started (by kernel_rfl) Try.func3
    (ChangeSpec.witness6 (enc := enc) (C := Try.checked) false ⟨#[], #[.int .i64 0, .int .i64 0, .int .i64 0, .slice none 0 0], []⟩ 8 (by kernel_rfl) (by kernel_rfl) (by kernel_rfl) (by kernel_rfl)) ?_
  intro W base args ds gs before hval0 hW _ _
  have E : Env W := trivial
  have hval : ∀ (j : Nat) t v, Try.f3.params[j]? = some t → args[j]? = some v → Value.okWide Try.prog W .any base t v := hval0
  have hW' := hW
  obtain ⟨p, q, hA0, hV, rfl, _, _⟩ := hW
  have hA : DataW.TrodAll enc Try.prog W 0 (fun _ => true) true Try.f3.params.toList args.toList ds p := hA0
  rw [Try.params3] at hA hval
  obtain ⟨v0, vs0, d0, ds0, p0, q0, hargs, rfl, rfl, r0, t0⟩ := trodAll_cons hA
  obtain ⟨v1, vs1, d1, ds1, p1, q1, rfl, rfl, rfl, r1, t1⟩ := trodAll_cons t0
  obtain ⟨v2, vs2, d2, ds2, p2, q2, rfl, rfl, rfl, r2, t2⟩ := trodAll_cons t1
  obtain ⟨v3, vs3, d3, ds3, p3, q3, rfl, rfl, rfl, r3, t3⟩ := trodAll_cons t2
  obtain ⟨rfl, rfl, rfl⟩ := trodAll_nil t3
  obtain rfl : args = #[v0, v1, v2, v3] := by cases args; simp_all
  obtain ⟨rfl, rfl⟩ := trodVars_none hV
  obtain ⟨n0, rfl, rfl, rfl, w0⟩ := open_int Try.underlying3 (hval 0 3 v0 rfl rfl) r0
  obtain ⟨n1, rfl, rfl, rfl, w1⟩ := open_int Try.underlying3 (hval 1 3 v1 rfl rfl) r1
  obtain ⟨n2, rfl, rfl, rfl, w2⟩ := open_int Try.underlying3 (hval 2 3 v2 rfl rfl) r2
  obtain ⟨s3, y3, z3⟩ := open_ints_arg (hval 3 22 v3 rfl rfl) r3
  clear hA0 hval0
  simp only [List.append_nil] at hW'
  refine (walk n0 (int_wf w0).1 (int_wf w0).2 n1 (int_wf w1).1 (int_wf w1).2 n2 (int_wf w2).1 (int_wf w2).2 v3 s3 z3 W y3 E).mono fun e W' ⟨he, hb⟩ => ?_
  subst he
  have t3' := Below.trod laid_out (by kernel_rfl) (of_decide_eq_true (by kernel_rfl)) r3 hb (fun x hx => hW'.lt x (by simp [hx]))
  exact ⟨_, rfl, told hW' (fun _ _ _ => trodAll_cons_mk (shut_bool Try.underlying4 _) trodAll_mk0) (trodAll_cons_mk (shut_int Try.underlying3 w0) (trodAll_cons_mk (shut_int Try.underlying3 w1) (trodAll_cons_mk (shut_int Try.underlying3 w2) (trodAll_cons_mk (t3') trodAll_mk0)))) (fun _ => rfl) hb⟩

theorem over : Rows.poolPicksRow.holds Try.pinned (OpenSpec.ofChange Rows.poolPicksSpec) :=
  OpenClaim.holds_of_wide 3 Try.f3 rfl rfl rfl rfl rfl rfl rfl ⟨rfl, rfl, rfl, rfl, rfl⟩ rfl rfl rfl rfl rfl (by kernel_rfl) Try.func3 (by kernel_rfl)
    (of_decide_eq_true (by kernel_rfl)) (by unfold Func.isWrapper; first | (rw [if_pos (by decide +kernel)]; kernel_rfl) | (rw [if_neg (by decide +kernel)]; exact ⟨rfl, rfl⟩))
    (fun os started H enc _ => lifted os started H enc)

theorem proved : Rows.PoolPicksSaid :=
  over
#print axioms proved
end Go.Proofs.Ytpmmdlfgocjniaa.poolPicks
