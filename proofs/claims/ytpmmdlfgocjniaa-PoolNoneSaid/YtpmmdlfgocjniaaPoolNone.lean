/- Proved: for every ports, draw, busy ones (held against 59), and one port more: of ports that may not be none is picked, and none is free; what is not one of them does not matter. Conditions: none beyond the row's own (the library's variables start as the program's text lays them: the card ties them). -/
import Derived.Test.YtpmmdlfgocjniaaPoolAwake
import Derived.BigQuiet
import Derived.Deep.QuietTactic
import Derived.Deep.RegionHeld

namespace Go.Proofs.Ytpmmdlfgocjniaa.poolNone
open Go.Proofs.Ytpmmdlfgocjniaa Go.Proofs.Ytpmmdlfgocjniaa.Po
open Go.ChangeShapes Go.WideShapes Go.ChangeAt Go.RowKit Go.Sort Go.ChangeMaps
set_option linter.unusedSimpArgs false
set_option linter.unusedVariables false
set_option linter.unusedVariables false in
set_option maxHeartbeats 16000000 in
set_option maxRecDepth 100000 in
theorem walk (n0 : Int) (l0 : -9223372036854775808 ≤ n0) (h0 : n0 ≤ 9223372036854775807) (n1 : Int) (l1 : -9223372036854775808 ≤ n1) (h1 : n1 ≤ 9223372036854775807) (n2 : Int) (l2 : -9223372036854775808 ≤ n2) (h2 : n2 ≤ 9223372036854775807) (u3 : Value) (s3 : List Int) (z3 : ∀ x ∈ s3, -9223372036854775808 ≤ x ∧ x ≤ 9223372036854775807) (n4 : Int) (l4 : -9223372036854775808 ≤ n4) (h4 : n4 ≤ 9223372036854775807) (w : World) (y3 : IntsIs w u3 s3) (E : Env w) :
    Calls Try.prog 7 #[.int .i64 n0, .int .i64 n1, .int .i64 n2, u3, .int .i64 n4] w fun e w' => e = .returned (.bool true) ∧ Below w.heap.size w w' := by
  have AWK := Lib.hid (fun W EW => awake_any W EW)
  have B0 := Lib.hid (Below.refl w.heap.size w)
  have WF := wf_of z3
  clear z3
  obtain ⟨p, n, c, rfl, hn⟩ := y3.form
  have HN := Lib.hid hn
  have Y := Lib.hid y3
  have hmax := y3.max
  unfold maxLen at hmax
  rw [← hn] at hmax
  clear hn y3
  by_cases g : 59 < n
  · have g' : (59 : Int) < (n : Int) := by omega
    go_enter Try.func7, Try.ntmps7
    go_wp2_with (first
        | (go_at_call 8; refine (AWK.out _ (E.below (B0.out))).mono ?_; rintro e w1 ⟨rfl, b1⟩; have B1 := Lib.hid (B0.out.trans (b1.mono B0.out.size)); clear AWK))
    all_goals (go_ret; exact ⟨by first | rfl | (simp; done) | (simp; omega), B1.out⟩)
  have g' : ¬ (59 : Int) < (n : Int) := by omega
  have hl : Hid (s3.length ≤ 100000) := Lib.hid (by rw [← HN.out]; omega)
  by_cases ga : n0 < 1024
  · have hM : Hid (mayB n0 n1 = false) := Lib.hid (may_no (fun h => by have := h.lo; have := h.le; have := h.hi; omega))
    have H1 := Lib.hid (fun W EW HR => pick_of n0 n1 n2 l2 h2 (.slice p n c) s3 hl.out 0 false (pick_no (hM.out) n2 s3) W EW HR)
    have H2 := Lib.hid (fun W EW HR => free_of n0 n1 (.slice p n c) s3 hl.out 0 (free_no hM.out s3) W EW HR)
    go_enter Try.func7, Try.ntmps7
    go_wp2_with (first
        | (go_at_call 8; refine (AWK.out _ (E.below (B0.out))).mono ?_; rintro e w1 ⟨rfl, b1⟩; have B1 := Lib.hid (B0.out.trans (b1.mono B0.out.size)); clear AWK)
        | (go_at_call 9; refine (H1.out _ (E.below (B1.out)) (Y.out.call (B1.out))).mono ?_; rintro e w2 ⟨rfl, b2⟩; have B2 := Lib.hid (B1.out.trans (b2.mono B1.out.size)); clear H1)
        | (go_at_call 11; refine (H2.out _ (E.below (B2.out)) (Y.out.call (B2.out))).mono ?_; rintro e w3 ⟨rfl, b3⟩; have B3 := Lib.hid (B2.out.trans (b3.mono B2.out.size)); clear H2))
    all_goals (go_ret; exact ⟨by first | rfl | (simp; done) | (simp; omega), B3.out⟩)
  have ga' : ¬ n0 < 1024 := by omega
  by_cases gb : 65535 < n1
  · have hM : Hid (mayB n0 n1 = false) := Lib.hid (may_no (fun h => by have := h.lo; have := h.le; have := h.hi; omega))
    have H1 := Lib.hid (fun W EW HR => pick_of n0 n1 n2 l2 h2 (.slice p n c) s3 hl.out 0 false (pick_no (hM.out) n2 s3) W EW HR)
    have H2 := Lib.hid (fun W EW HR => free_of n0 n1 (.slice p n c) s3 hl.out 0 (free_no hM.out s3) W EW HR)
    go_enter Try.func7, Try.ntmps7
    go_wp2_with (first
        | (go_at_call 8; refine (AWK.out _ (E.below (B0.out))).mono ?_; rintro e w1 ⟨rfl, b1⟩; have B1 := Lib.hid (B0.out.trans (b1.mono B0.out.size)); clear AWK)
        | (go_at_call 9; refine (H1.out _ (E.below (B1.out)) (Y.out.call (B1.out))).mono ?_; rintro e w2 ⟨rfl, b2⟩; have B2 := Lib.hid (B1.out.trans (b2.mono B1.out.size)); clear H1)
        | (go_at_call 11; refine (H2.out _ (E.below (B2.out)) (Y.out.call (B2.out))).mono ?_; rintro e w3 ⟨rfl, b3⟩; have B3 := Lib.hid (B2.out.trans (b3.mono B2.out.size)); clear H2))
    all_goals (go_ret; exact ⟨by first | rfl | (simp; done) | (simp; omega), B3.out⟩)
  have gb' : ¬ 65535 < n1 := by omega
  by_cases gc : n1 < n0
  · have hM : Hid (mayB n0 n1 = false) := Lib.hid (may_no (fun h => by have := h.lo; have := h.le; have := h.hi; omega))
    have H1 := Lib.hid (fun W EW HR => pick_of n0 n1 n2 l2 h2 (.slice p n c) s3 hl.out 0 false (pick_no (hM.out) n2 s3) W EW HR)
    have H2 := Lib.hid (fun W EW HR => free_of n0 n1 (.slice p n c) s3 hl.out 0 (free_no hM.out s3) W EW HR)
    go_enter Try.func7, Try.ntmps7
    go_wp2_with (first
        | (go_at_call 8; refine (AWK.out _ (E.below (B0.out))).mono ?_; rintro e w1 ⟨rfl, b1⟩; have B1 := Lib.hid (B0.out.trans (b1.mono B0.out.size)); clear AWK)
        | (go_at_call 9; refine (H1.out _ (E.below (B1.out)) (Y.out.call (B1.out))).mono ?_; rintro e w2 ⟨rfl, b2⟩; have B2 := Lib.hid (B1.out.trans (b2.mono B1.out.size)); clear H1)
        | (go_at_call 11; refine (H2.out _ (E.below (B2.out)) (Y.out.call (B2.out))).mono ?_; rintro e w3 ⟨rfl, b3⟩; have B3 := Lib.hid (B2.out.trans (b3.mono B2.out.size)); clear H2))
    all_goals (go_ret; exact ⟨by first | rfl | (simp; done) | (simp; omega), B3.out⟩)
  have gc' : ¬ n1 < n0 := by omega
  by_cases d1 : n0 ≤ n4
  · by_cases d2 : n4 ≤ n1
    · obtain ⟨q, b, hP⟩ : ∃ q b, pick n0 n1 n2 s3 = (q, b) := ⟨_, _, rfl⟩
      have H1 := Lib.hid (fun W EW HR => pick_of n0 n1 n2 l2 h2 (.slice p n c) s3 hl.out q b hP W EW HR)
      clear hP
      go_enter Try.func7, Try.ntmps7
      go_wp2_with (first
          | (go_at_call 8; refine (AWK.out _ (E.below (B0.out))).mono ?_; rintro e w1 ⟨rfl, b1⟩; have B1 := Lib.hid (B0.out.trans (b1.mono B0.out.size)); clear AWK)
          | (go_at_call 9; refine (H1.out _ (E.below (B1.out)) (Y.out.call (B1.out))).mono ?_; rintro e w2 ⟨rfl, b2⟩; have B2 := Lib.hid (B1.out.trans (b2.mono B1.out.size)); clear H1))
      all_goals (go_ret; exact ⟨by first | rfl | (simp; done) | (simp; omega), B2.out⟩)
    · obtain ⟨k1, k2⟩ := pick_more (low := n0) (high := n1) (draw := n2) (busy := s3) (p := n4) (by omega)
      obtain ⟨q, b, hP⟩ : ∃ q b, pick n0 n1 n2 s3 = (q, b) := ⟨_, _, rfl⟩
      obtain ⟨f, hF⟩ : ∃ f, free n0 n1 s3 = f := ⟨_, rfl⟩
      rw [hP] at k1
      rw [hF] at k2
      have H1 := Lib.hid (fun W EW HR => pick_of n0 n1 n2 l2 h2 (.slice p n c) s3 hl.out q b hP W EW HR)
      have H3 := Lib.hid (fun u W EW HR => pick_of n0 n1 n2 l2 h2 u ([] ++ s3 ++ [n4]) (by have := hl.out; simp; have := HN.out; omega) q b k1 W EW HR)
      have H4 := Lib.hid (fun u W EW HR => free_of n0 n1 u ([] ++ s3 ++ [n4]) (by have := hl.out; simp; have := HN.out; omega) f k2 W EW HR)
      have H5 := Lib.hid (fun W EW HR => free_of n0 n1 (.slice p n c) s3 hl.out f hF W EW HR)
      have HA1 := Lib.hid trivial
      clear hP hF k1 k2
      go_enter Try.func7, Try.ntmps7
      go_wp2_with (first
          | (go_at_call 8; refine (AWK.out _ (E.below (B0.out))).mono ?_; rintro e w1 ⟨rfl, b1⟩; have B1 := Lib.hid (B0.out.trans (b1.mono B0.out.size)); clear AWK)
          | (go_at_call 9; refine (H1.out _ (E.below (B1.out)) (Y.out.call (B1.out))).mono ?_; rintro e w2 ⟨rfl, b2⟩; have B2 := Lib.hid (B1.out.trans (b2.mono B1.out.size)); clear H1)
          | (at_builtin; refine wpList_append_ints rfl _ _ rfl w.heap.size (.slice none 0 0) [] rfl (OwnInts.nil _ _) (.slice p n c) s3 rfl (Y.out.call B2.out) (by have := hl.out; simp; omega) B2.out.size ?_; intro va wa oa ga ka; have BA := Lib.hid (B2.out.grown ga B2.out.size (OwnInts.nil w.heap.size w2).ge); have OA := Lib.hid oa; clear HA1 ga ka oa)
          | (at_builtin; refine wpList_append_ints rfl _ _ rfl w.heap.size va ([] ++ s3) rfl (OA.out.alloc _) (.slice (some ⟨wa.heap.size, 0, none⟩) 1 1) [n4] rfl (ints_one wa n4) (by have := hl.out; simp; omega) (by have := BA.out.size; simp; omega) ?_; intro vb wb ob gb kb; have BB := Lib.hid ((BA.out.alloc BA.out.size (.cells #[.int .i64 n4] 3)).grown gb (by have := BA.out.size; simp; omega) OA.out.ge); have OB := Lib.hid ob; clear OA gb kb ob)
          | (go_at_call 9; refine (H3.out _ _ (E.below BB.out) OB.out.ints).mono ?_; rintro e wc ⟨rfl, bwc⟩; have Bwc := Lib.hid (BB.out.trans (bwc.mono BB.out.size)); have OC := Lib.hid (OB.out.kept bwc); clear H3 OB)
          | (go_at_call 11; refine (H4.out _ _ (E.below Bwc.out) OC.out.ints).mono ?_; rintro e wd ⟨rfl, bwd⟩; have Bwd := Lib.hid (Bwc.out.trans (bwd.mono Bwc.out.size)); clear H4)
          | (go_at_call 11; refine (H5.out _ (E.below Bwd.out) (Y.out.call Bwd.out)).mono ?_; rintro e we ⟨rfl, bwe⟩; have Bwe := Lib.hid (Bwd.out.trans (bwe.mono Bwd.out.size)); clear H5))
      all_goals (go_ret; exact ⟨by first | rfl | (simp; done) | (simp; omega), Bwe.out⟩)
  · obtain ⟨k1, k2⟩ := pick_more (low := n0) (high := n1) (draw := n2) (busy := s3) (p := n4) (by omega)
    obtain ⟨q, b, hP⟩ : ∃ q b, pick n0 n1 n2 s3 = (q, b) := ⟨_, _, rfl⟩
    obtain ⟨f, hF⟩ : ∃ f, free n0 n1 s3 = f := ⟨_, rfl⟩
    rw [hP] at k1
    rw [hF] at k2
    have H1 := Lib.hid (fun W EW HR => pick_of n0 n1 n2 l2 h2 (.slice p n c) s3 hl.out q b hP W EW HR)
    have H3 := Lib.hid (fun u W EW HR => pick_of n0 n1 n2 l2 h2 u ([] ++ s3 ++ [n4]) (by have := hl.out; simp; have := HN.out; omega) q b k1 W EW HR)
    have H4 := Lib.hid (fun u W EW HR => free_of n0 n1 u ([] ++ s3 ++ [n4]) (by have := hl.out; simp; have := HN.out; omega) f k2 W EW HR)
    have H5 := Lib.hid (fun W EW HR => free_of n0 n1 (.slice p n c) s3 hl.out f hF W EW HR)
    have HA1 := Lib.hid trivial
    clear hP hF k1 k2
    go_enter Try.func7, Try.ntmps7
    go_wp2_with (first
        | (go_at_call 8; refine (AWK.out _ (E.below (B0.out))).mono ?_; rintro e w1 ⟨rfl, b1⟩; have B1 := Lib.hid (B0.out.trans (b1.mono B0.out.size)); clear AWK)
        | (go_at_call 9; refine (H1.out _ (E.below (B1.out)) (Y.out.call (B1.out))).mono ?_; rintro e w2 ⟨rfl, b2⟩; have B2 := Lib.hid (B1.out.trans (b2.mono B1.out.size)); clear H1)
        | (at_builtin; refine wpList_append_ints rfl _ _ rfl w.heap.size (.slice none 0 0) [] rfl (OwnInts.nil _ _) (.slice p n c) s3 rfl (Y.out.call B2.out) (by have := hl.out; simp; omega) B2.out.size ?_; intro va wa oa ga ka; have BA := Lib.hid (B2.out.grown ga B2.out.size (OwnInts.nil w.heap.size w2).ge); have OA := Lib.hid oa; clear HA1 ga ka oa)
        | (at_builtin; refine wpList_append_ints rfl _ _ rfl w.heap.size va ([] ++ s3) rfl (OA.out.alloc _) (.slice (some ⟨wa.heap.size, 0, none⟩) 1 1) [n4] rfl (ints_one wa n4) (by have := hl.out; simp; omega) (by have := BA.out.size; simp; omega) ?_; intro vb wb ob gb kb; have BB := Lib.hid ((BA.out.alloc BA.out.size (.cells #[.int .i64 n4] 3)).grown gb (by have := BA.out.size; simp; omega) OA.out.ge); have OB := Lib.hid ob; clear OA gb kb ob)
        | (go_at_call 9; refine (H3.out _ _ (E.below BB.out) OB.out.ints).mono ?_; rintro e wc ⟨rfl, bwc⟩; have Bwc := Lib.hid (BB.out.trans (bwc.mono BB.out.size)); have OC := Lib.hid (OB.out.kept bwc); clear H3 OB)
        | (go_at_call 11; refine (H4.out _ _ (E.below Bwc.out) OC.out.ints).mono ?_; rintro e wd ⟨rfl, bwd⟩; have Bwd := Lib.hid (Bwc.out.trans (bwd.mono Bwc.out.size)); clear H4)
        | (go_at_call 11; refine (H5.out _ (E.below Bwd.out) (Y.out.call Bwd.out)).mono ?_; rintro e we ⟨rfl, bwe⟩; have Bwe := Lib.hid (Bwd.out.trans (bwe.mono Bwd.out.size)); clear H5))
    all_goals (go_ret; exact ⟨by first | rfl | (simp; done) | (simp; omega), Bwe.out⟩)

set_option maxRecDepth 100000 in
theorem lifted (os : Os) (started : os.Started) (H : Type) (enc : TypeId × Value → H) :
    ReturnsInHanded {} Try.checked os 7 .any (Rows.poolNoneSpec.pre6 enc Try.prog Try.f7 Rows.poolNoneRow.domain false) (Rows.poolNoneSpec.post enc Try.prog Try.f7 false true false false) := by
  refine returnsInHanded_of_change (C := Try.checked) ownKnobs started (by kernel_rfl) Try.func7
    (ChangeSpec.witness6 (enc := enc) (C := Try.checked) false ⟨#[], #[.int .i64 0, .int .i64 0, .int .i64 0, .slice none 0 0, .int .i64 0], []⟩ 8 (by kernel_rfl) (by kernel_rfl) (by kernel_rfl) (by kernel_rfl)) ?_
  intro W base args ds gs before hval0 hW _ _
  have E : Env W := trivial
  have hval : ∀ (j : Nat) t v, Try.f7.params[j]? = some t → args[j]? = some v → Value.okWide Try.prog W .any base t v := hval0
  have hW' := hW
  obtain ⟨p, q, hA0, hV, rfl, _, _⟩ := hW
  have hA : DataW.TrodAll enc Try.prog W 0 (fun _ => true) true Try.f7.params.toList args.toList ds p := hA0
  rw [Try.params7] at hA hval
  obtain ⟨v0, vs0, d0, ds0, p0, q0, hargs, rfl, rfl, r0, t0⟩ := trodAll_cons hA
  obtain ⟨v1, vs1, d1, ds1, p1, q1, rfl, rfl, rfl, r1, t1⟩ := trodAll_cons t0
  obtain ⟨v2, vs2, d2, ds2, p2, q2, rfl, rfl, rfl, r2, t2⟩ := trodAll_cons t1
  obtain ⟨v3, vs3, d3, ds3, p3, q3, rfl, rfl, rfl, r3, t3⟩ := trodAll_cons t2
  obtain ⟨v4, vs4, d4, ds4, p4, q4, rfl, rfl, rfl, r4, t4⟩ := trodAll_cons t3
  obtain ⟨rfl, rfl, rfl⟩ := trodAll_nil t4
  obtain rfl : args = #[v0, v1, v2, v3, v4] := by cases args; simp_all
  obtain ⟨rfl, rfl⟩ := trodVars_none hV
  obtain ⟨n0, rfl, rfl, rfl, w0⟩ := open_int Try.underlying3 (hval 0 3 v0 rfl rfl) r0
  obtain ⟨n1, rfl, rfl, rfl, w1⟩ := open_int Try.underlying3 (hval 1 3 v1 rfl rfl) r1
  obtain ⟨n2, rfl, rfl, rfl, w2⟩ := open_int Try.underlying3 (hval 2 3 v2 rfl rfl) r2
  obtain ⟨s3, y3, z3⟩ := open_ints_arg (hval 3 22 v3 rfl rfl) r3
  obtain ⟨n4, rfl, rfl, rfl, w4⟩ := open_int Try.underlying3 (hval 4 3 v4 rfl rfl) r4
  clear hA0 hval0
  simp only [List.append_nil] at hW'
  refine (walk n0 (int_wf w0).1 (int_wf w0).2 n1 (int_wf w1).1 (int_wf w1).2 n2 (int_wf w2).1 (int_wf w2).2 v3 s3 z3 n4 (int_wf w4).1 (int_wf w4).2 W y3 E).mono fun e W' ⟨he, hb⟩ => ?_
  subst he
  have t3' := Below.trod laid_out (by kernel_rfl) (of_decide_eq_true (by kernel_rfl)) r3 hb (fun x hx => hW'.lt x (by simp [hx]))
  exact ⟨_, rfl, told hW' (fun _ _ _ => trodAll_cons_mk (shut_bool Try.underlying4 _) trodAll_mk0) (trodAll_cons_mk (shut_int Try.underlying3 w0) (trodAll_cons_mk (shut_int Try.underlying3 w1) (trodAll_cons_mk (shut_int Try.underlying3 w2) (trodAll_cons_mk (t3') (trodAll_cons_mk (shut_int Try.underlying3 w4) trodAll_mk0))))) (fun _ => rfl) hb⟩

theorem over : Rows.poolNoneRow.holds Try.pinned (OpenSpec.ofChange Rows.poolNoneSpec) :=
  OpenClaim.holds_of_wide 7 Try.f7 rfl rfl rfl rfl rfl rfl rfl ⟨rfl, rfl, rfl, rfl, rfl⟩ rfl rfl rfl rfl rfl (by kernel_rfl) Try.func7 (by kernel_rfl)
    (of_decide_eq_true (by kernel_rfl)) (by unfold Func.isWrapper; first | (rw [if_pos (by decide +kernel)]; kernel_rfl) | (rw [if_neg (by decide +kernel)]; exact ⟨rfl, rfl⟩))
    (fun os started H enc _ => lifted os started H enc)

theorem proved : Rows.PoolNoneSaid :=
  over
#print axioms proved
end Go.Proofs.Ytpmmdlfgocjniaa.poolNone
