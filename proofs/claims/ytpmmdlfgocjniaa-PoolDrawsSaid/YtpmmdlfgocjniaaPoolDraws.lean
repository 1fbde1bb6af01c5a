/- Proved: for every ports that may be, busy ones (held against 60), a draw that is one of them, and times (-1000 to 1000): draws that differ by a whole number of all pick the same; each port that is free is picked by some draw. Conditions: none beyond the row's own (the library's variables start as the program's text lays them: the card ties them). -/
import Derived.Test.YtpmmdlfgocjniaaPoolAwake
import Derived.BigQuiet
import Derived.Deep.QuietTactic
import Derived.Deep.RegionHeld

namespace Go.Proofs.Ytpmmdlfgocjniaa.poolDraws
open Go.Proofs.Ytpmmdlfgocjniaa Go.Proofs.Ytpmmdlfgocjniaa.Po
open Go.ChangeShapes Go.WideShapes Go.ChangeAt Go.RowKit Go.Sort Go.ChangeMaps
set_option linter.unusedSimpArgs false
set_option linter.unusedVariables false
set_option linter.unusedVariables false in
set_option maxHeartbeats 16000000 in
set_option maxRecDepth 100000 in
theorem walk (n0 : Int) (l0 : -9223372036854775808 ≤ n0) (h0 : n0 ≤ 9223372036854775807) (n1 : Int) (l1 : -9223372036854775808 ≤ n1) (h1 : n1 ≤ 9223372036854775807) (u2 : Value) (s2 : List Int) (z2 : ∀ x ∈ s2, -9223372036854775808 ≤ x ∧ x ≤ 9223372036854775807) (n3 : Int) (l3 : -9223372036854775808 ≤ n3) (h3 : n3 ≤ 9223372036854775807) (n4 : Int) (l4 : -9223372036854775808 ≤ n4) (h4 : n4 ≤ 9223372036854775807) (w : World) (y2 : IntsIs w u2 s2) (E : Env w) :
    Calls Try.prog 5 #[.int .i64 n0, .int .i64 n1, u2, .int .i64 n3, .int .i64 n4] w fun e w' => e = .returned (.bool true) ∧ Below w.heap.size w w' := by
  have AWK := Lib.hid (fun W EW => awake_any W EW)
  have B0 := Lib.hid (Below.refl w.heap.size w)
  have WF := wf_of z2
  clear z2
  obtain ⟨p, n, c, rfl, hn⟩ := y2.form
  have HN := Lib.hid hn
  have Y := Lib.hid y2
  have hmax := y2.max
  unfold maxLen at hmax
  rw [← hn] at hmax
  clear hn y2
  by_cases g : 60 < n
  · have g' : (60 : Int) < (n : Int) := by omega
    go_enter Try.func5, Try.ntmps5
    go_wp2_with (first
        | (go_at_call 8; refine (AWK.out _ (E.below (B0.out))).mono ?_; rintro e w1 ⟨rfl, b1⟩; have B1 := Lib.hid (B0.out.trans (b1.mono B0.out.size)); clear AWK))
    all_goals (go_ret; exact ⟨by first | rfl | (simp; done) | (simp; omega), B1.out⟩)
  have g' : ¬ (60 : Int) < (n : Int) := by omega
  have hl : Hid (s2.length ≤ 100000) := Lib.hid (by rw [← HN.out]; omega)
  by_cases ga : n0 < 1024
  · go_enter Try.func5, Try.ntmps5
    go_wp2_with (first
        | (go_at_call 8; refine (AWK.out _ (E.below (B0.out))).mono ?_; rintro e w1 ⟨rfl, b1⟩; have B1 := Lib.hid (B0.out.trans (b1.mono B0.out.size)); clear AWK))
    all_goals (go_ret; exact ⟨by first | rfl | (simp; done) | (simp; omega), B1.out⟩)
  have ga' : ¬ n0 < 1024 := by omega
  by_cases gb : 65535 < n1
  · go_enter Try.func5, Try.ntmps5
    go_wp2_with (first
        | (go_at_call 8; refine (AWK.out _ (E.below (B0.out))).mono ?_; rintro e w1 ⟨rfl, b1⟩; have B1 := Lib.hid (B0.out.trans (b1.mono B0.out.size)); clear AWK))
    all_goals (go_ret; exact ⟨by first | rfl | (simp; done) | (simp; omega), B1.out⟩)
  have gb' : ¬ 65535 < n1 := by omega
  by_cases gc : n1 < n0
  · go_enter Try.func5, Try.ntmps5
    go_wp2_with (first
        | (go_at_call 8; refine (AWK.out _ (E.below (B0.out))).mono ?_; rintro e w1 ⟨rfl, b1⟩; have B1 := Lib.hid (B0.out.trans (b1.mono B0.out.size)); clear AWK))
    all_goals (go_ret; exact ⟨by first | rfl | (simp; done) | (simp; omega), B1.out⟩)
  have gc' : ¬ n1 < n0 := by omega
  by_cases gd : n3 < 0
  · go_enter Try.func5, Try.ntmps5
    go_wp2_with (first
        | (go_at_call 8; refine (AWK.out _ (E.below (B0.out))).mono ?_; rintro e w1 ⟨rfl, b1⟩; have B1 := Lib.hid (B0.out.trans (b1.mono B0.out.size)); clear AWK))
    all_goals (go_ret; exact ⟨by first | rfl | (simp; done) | (simp; omega), B1.out⟩)
  have gd' : ¬ n3 < 0 := by omega
  by_cases ge : n1 - n0 < n3
  · go_enter Try.func5, Try.ntmps5
    go_wp2_with (first
        | (go_at_call 8; refine (AWK.out _ (E.below (B0.out))).mono ?_; rintro e w1 ⟨rfl, b1⟩; have B1 := Lib.hid (B0.out.trans (b1.mono B0.out.size)); clear AWK))
    all_goals (go_ret; exact ⟨by first | rfl | (simp; done) | (simp; omega), B1.out⟩)
  have ge' : ¬ n1 - n0 < n3 := by omega
  by_cases gf : n4 < -1000
  · go_enter Try.func5, Try.ntmps5
    go_wp2_with (first
        | (go_at_call 8; refine (AWK.out _ (E.below (B0.out))).mono ?_; rintro e w1 ⟨rfl, b1⟩; have B1 := Lib.hid (B0.out.trans (b1.mono B0.out.size)); clear AWK))
    all_goals (go_ret; exact ⟨by first | rfl | (simp; done) | (simp; omega), B1.out⟩)
  have gf' : ¬ n4 < -1000 := by omega
  by_cases gg : 1000 < n4
  · go_enter Try.func5, Try.ntmps5
    go_wp2_with (first
        | (go_at_call 8; refine (AWK.out _ (E.below (B0.out))).mono ?_; rintro e w1 ⟨rfl, b1⟩; have B1 := Lib.hid (B0.out.trans (b1.mono B0.out.size)); clear AWK))
    all_goals (go_ret; exact ⟨by first | rfl | (simp; done) | (simp; omega), B1.out⟩)
  have gg' : ¬ 1000 < n4 := by omega
  obtain ⟨q, b, hP⟩ : ∃ q b, pick n0 n1 n3 s2 = (q, b) := ⟨_, _, rfl⟩
  have hP2 : pick n0 n1 (n3 + n4 * (n1 - n0 + 1)) s2 = (q, b) := by rw [pick_turn]; exact hP
  have hF : s2.contains (n0 + n3) = false → q = n0 + n3 ∧ b = true := fun h => by
    have := pick_first (s := n3) (busy := s2) (low := n0) (high := n1) ⟨by omega, by omega, by omega⟩ (by omega) (by omega) (fun hm => by rw [List.contains_iff_mem.2 hm] at h; cases h)
    rw [hP] at this
    injection this with e1 e2
    exact ⟨e1, e2⟩
  obtain ⟨N, hN⟩ : ∃ N, n1 - n0 + 1 = N := ⟨_, rfl⟩
  rw [hN] at hP2
  have hN1 : 1 ≤ N := by omega
  have hN2 : N ≤ 64512 := by omega
  have hQ1 : -64512000 ≤ n4 * N := by
    have h1 : -1000 * N ≤ n4 * N := Int.mul_le_mul_of_nonneg_right (by omega) (by omega)
    omega
  have hQ2 : n4 * N ≤ 64512000 := by
    have h1 : n4 * N ≤ 1000 * N := Int.mul_le_mul_of_nonneg_right (by omega) (by omega)
    omega
  obtain ⟨Q, hQ⟩ : ∃ Q, n4 * N = Q := ⟨_, rfl⟩
  rw [hQ] at hP2 hQ1 hQ2
  have H1 := Lib.hid (fun W EW HR => pick_of n0 n1 n3 (by omega) (by omega) (.slice p n c) s2 hl.out q b hP W EW HR)
  have H2 := Lib.hid (fun W EW HR => pick_of n0 n1 (n3 + Q) (by omega) (by omega) (.slice p n c) s2 hl.out q b hP2 W EW HR)
  clear hP hP2
  cases hc : s2.contains (n0 + n3) with
  | true =>
    have H3 := Lib.hid (fun W HR => rhas_of (.slice p n c) s2 (n0 + n3) true hc W HR)
    clear hF hc
    go_enter Try.func5, Try.ntmps5
    go_wp2_with (first
        | (go_at_call 8; refine (AWK.out _ (E.below (B0.out))).mono ?_; rintro e w1 ⟨rfl, b1⟩; have B1 := Lib.hid (B0.out.trans (b1.mono B0.out.size)); clear AWK)
        | (go_at_call 9; refine (H1.out _ (E.below (B1.out)) (Y.out.call (B1.out))).mono ?_; rintro e w2 ⟨rfl, b2⟩; have B2 := Lib.hid (B1.out.trans (b2.mono B1.out.size)); clear H1)
        | (go_at_call 9; refine (H2.out _ (E.below (B2.out)) (Y.out.call (B2.out))).mono ?_; rintro e w3 ⟨rfl, b3⟩; have B3 := Lib.hid (B2.out.trans (b3.mono B2.out.size)); clear H2)
        | (go_at_call 13; refine (H3.out _ (Y.out.call (B3.out))).mono ?_; rintro e w4 ⟨rfl, b4⟩; have B4 := Lib.hid (B3.out.trans (b4.mono B3.out.size)); clear H3))
    all_goals (go_ret; exact ⟨by first | rfl | (simp; done) | (simp; omega), B4.out⟩)
  | false =>
    have H3 := Lib.hid (fun W HR => rhas_of (.slice p n c) s2 (n0 + n3) false hc W HR)
    obtain ⟨rfl, rfl⟩ := hF hc
    clear hF hc
    go_enter Try.func5, Try.ntmps5
    go_wp2_with (first
        | (go_at_call 8; refine (AWK.out _ (E.below (B0.out))).mono ?_; rintro e w1 ⟨rfl, b1⟩; have B1 := Lib.hid (B0.out.trans (b1.mono B0.out.size)); clear AWK)
        | (go_at_call 9; refine (H1.out _ (E.below (B1.out)) (Y.out.call (B1.out))).mono ?_; rintro e w2 ⟨rfl, b2⟩; have B2 := Lib.hid (B1.out.trans (b2.mono B1.out.size)); clear H1)
        | (go_at_call 9; refine (H2.out _ (E.below (B2.out)) (Y.out.call (B2.out))).mono ?_; rintro e w3 ⟨rfl, b3⟩; have B3 := Lib.hid (B2.out.trans (b3.mono B2.out.size)); clear H2)
        | (go_at_call 13; refine (H3.out _ (Y.out.call (B3.out))).mono ?_; rintro e w4 ⟨rfl, b4⟩; have B4 := Lib.hid (B3.out.trans (b4.mono B3.out.size)); clear H3))
    all_goals (go_ret; exact ⟨by first | rfl | (simp; done) | (simp; omega), B4.out⟩)

set_option maxRecDepth 100000 in
theorem lifted (os : Os) (started : os.Started) (H : Type) (enc : TypeId × Value → H) :
    ReturnsInHanded {} Try.checked os 5 .any (Rows.poolDrawsSpec.pre6 enc Try.prog Try.f5 Rows.poolDrawsRow.domain false) (Rows.poolDrawsSpec.post enc Try.prog Try.f5 false true false false) := by
  refine returnsInHanded_of_change (C := Try.checked) ownKnobs started (by kernel_rfl) Try.func5
    (ChangeSpec.witness6 (enc := enc) (C := Try.checked) false ⟨#[], #[.int .i64 0, .int .i64 0, .slice none 0 0, .int .i64 0, .int .i64 0], []⟩ 8 (by kernel_rfl) (by kernel_rfl) (by kernel_rfl) (by kernel_rfl)) ?_
  intro W base args ds gs before hval0 hW _ _
  have E : Env W := trivial
  have hval : ∀ (j : Nat) t v, Try.f5.params[j]? = some t → args[j]? = some v → Value.okWide Try.prog W .any base t v := hval0
  have hW' := hW
  obtain ⟨p, q, hA0, hV, rfl, _, _⟩ := hW
  have hA : DataW.TrodAll enc Try.prog W 0 (fun _ => true) true Try.f5.params.toList args.toList ds p := hA0
  rw [Try.params5] at hA hval
  obtain ⟨v0, vs0, d0, ds0, p0, q0, hargs, rfl, rfl, r0, t0⟩ := trodAll_cons hA
  obtain ⟨v1, vs1, d1, ds1, p1, q1, rfl, rfl, rfl, r1, t1⟩ := trodAll_cons t0
  obtain ⟨v2, vs2, d2, ds2, p2, q2, rfl, rfl, rfl, r2, t2⟩ := trodAll_cons t1
  obtain ⟨v3, vs3, d3, ds3, p3, q3, rfl, rfl, rfl, r3, t3⟩ := trodAll_cons t2
  obtain ⟨v4, vs4, d4, ds4, p4, q4, rfl, rfl, rfl, r4, t4⟩ := trodAll_cons t3
  obtain ⟨rfl, rfl, rfl⟩ := trodAll_nil t4
  obtain rfl : args = #[v0, v1, v2, v3, v4] := by cases args; simp_all
  obtain ⟨rfl, rfl⟩ := trodVars_none hV
  obtain ⟨n0, rfl, rfl, rfl, w0⟩ := open_int Try.underlying3 (hval 0 3 v0 rfl rfl) r0
  obtain ⟨n1, rfl, rfl, rfl, w1⟩ := open_int Try.underlying3 (hval 1 3 v1 rfl rfl) r1
  obtain ⟨s2, y2, z2⟩ := open_ints_arg (hval 2 22 v2 rfl rfl) r2
  obtain ⟨n3, rfl, rfl, rfl, w3⟩ := open_int Try.underlying3 (hval 3 3 v3 rfl rfl) r3
  obtain ⟨n4, rfl, rfl, rfl, w4⟩ := open_int Try.underlying3 (hval 4 3 v4 rfl rfl) r4
  clear hA0 hval0
  simp only [List.append_nil] at hW'
  refine (walk n0 (int_wf w0).1 (int_wf w0).2 n1 (int_wf w1).1 (int_wf w1).2 v2 s2 z2 n3 (int_wf w3).1 (int_wf w3).2 n4 (int_wf w4).1 (int_wf w4).2 W y2 E).mono fun e W' ⟨he, hb⟩ => ?_
  subst he
  have t2' := Below.trod laid_out (by kernel_rfl) (of_decide_eq_true (by kernel_rfl)) r2 hb (fun x hx => hW'.lt x (by simp [hx]))
  exact ⟨_, rfl, told hW' (fun _ _ _ => trodAll_cons_mk (shut_bool Try.underlying4 _) trodAll_mk0) (trodAll_cons_mk (shut_int Try.underlying3 w0) (trodAll_cons_mk (shut_int Try.underlying3 w1) (trodAll_cons_mk (t2') (trodAll_cons_mk (shut_int Try.underlying3 w3) (trodAll_cons_mk (shut_int Try.underlying3 w4) trodAll_mk0))))) (fun _ => rfl) hb⟩

theorem over : Rows.poolDrawsRow.holds Try.pinned (OpenSpec.ofChange Rows.poolDrawsSpec) :=
  OpenClaim.holds_of_wide 5 Try.f5 rfl rfl rfl rfl rfl rfl rfl ⟨rfl, rfl, rfl, rfl, rfl⟩ rfl rfl rfl rfl rfl (by kernel_rfl) Try.func5 (by kernel_rfl)
    (of_decide_eq_true (by kernel_rfl)) (by unfold Func.isWrapper; first | (rw [if_pos (by decide +kernel)]; kernel_rfl) | (rw [if_neg (by decide +kernel)]; exact ⟨rfl, rfl⟩))
    (fun os started H enc _ => lifted os started H enc)

theorem proved : Rows.PoolDrawsSaid :=
  over
#print axioms proved
end Go.Proofs.Ytpmmdlfgocjniaa.poolDraws
