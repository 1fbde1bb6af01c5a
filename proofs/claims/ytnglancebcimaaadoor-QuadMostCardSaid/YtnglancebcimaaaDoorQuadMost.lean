/- Proved: for every text, and any two ints, the law QuadMost answers true: what is a number up to one is it up to a greater one, and not up to a lesser one than it. Conditions: none beyond the row's own (the library's variables start as the program's text lays them: the card ties them). -/
import Derived.Test.YtnglancebcimaaaDoorQuadAwake
import Derived.Test.YtnglancebcimaaaDoorHostArg
import Derived.Test.YtnglancebcimaaaDoorCards
namespace Go.Proofs.YtnglancebcimaaaDoor.quadMost
open Go.Proofs.YtnglancebcimaaaDoor Go.Proofs.YtnglancebcimaaaDoor.Quad
open Go.ChangeShapes Go.WideShapes Go.ChangeAt Go.RowKit Go.Sort Go.ChangeMaps

set_option linter.unusedVariables false in
set_option maxHeartbeats 2000000 in
set_option maxRecDepth 100000 in
theorem walk (s0 : List UInt8) (z0 : s0.length ≤ 9223372036854775807) (n1 : Int) (l1 : -9223372036854775808 ≤ n1) (h1 : n1 ≤ 9223372036854775807) (n2 : Int) (l2 : -9223372036854775808 ≤ n2) (h2 : n2 ≤ 9223372036854775807) (w : World) (E : Env w) :
    Calls Tryd.prog 7 #[str s0, .int .i64 n1, .int .i64 n2] w fun e w' => e = .returned (.bool true) ∧ Below w.heap.size w w' := by
  by_cases c0 : 40 < s0.length
  · go_enter Tryd.func7, Tryd.ntmps7
    go_wp2_with (go_at_call 8; refine (awake_any _ E).mono ?_; rintro e w1 ⟨rfl, B1⟩)
    go_ret
    exact ⟨rfl, B1⟩
  by_cases c1 : n2 < n1
  · go_enter Tryd.func7, Tryd.ntmps7
    go_wp2_with (go_at_call 8; refine (awake_any _ E).mono ?_; rintro e w1 ⟨rfl, B1⟩)
    go_ret
    exact ⟨rfl, B1⟩
  cases hB : getB s0 n1 with
  | false =>
    have g1 := Lib.hid (got_no hB)
    go_enter Tryd.func7, Tryd.ntmps7
    go_wp2_with (go_at_call 8; refine (awake_any _ E).mono ?_; rintro e w1 ⟨rfl, B1⟩)
    go_wp2_with (go_at_call 9; refine (get_any s0 n1 _ ?_).mono ?_)
    · exact E.below B1
    rintro e w2 ⟨he, b2⟩
    rw [g1.out] at he
    subst he
    go_wp2_with fail
    go_ret
    exact ⟨rfl, below_trans B1 b2⟩
  | true =>
    obtain ⟨n, hn, hl, hm, hv⟩ := (getB_iff s0 n1).1 hB
    have ho := (getO_iff s0 n).2 ⟨hn, hl⟩
    have g1 := Lib.hid (got_yes hB hv)
    have g2 := Lib.hid (got_yes (l := s0) (most := n2) (n := n) (by rw [getB_some ho]; simp; omega) (getV_yes ho (by omega)))
    have g3 := Lib.hid (got_no (l := s0) (most := (n : Int) - 1) (by rw [getB_some ho]; simp; omega))
    clear hn hl hv ho hB
    go_enter Tryd.func7, Tryd.ntmps7
    go_wp2_with (go_at_call 8; refine (awake_any _ E).mono ?_; rintro e w1 ⟨rfl, B1⟩)
    go_wp2_with (go_at_call 9; refine (get_any s0 n1 _ ?_).mono ?_)
    · exact E.below B1
    rintro e w2 ⟨he, b2⟩
    rw [g1.out] at he
    subst he
    have B2 := below_trans B1 b2
    clear b2
    go_wp2_with (go_at_call 9; refine (get_any s0 n2 _ ?_).mono ?_)
    · exact E.below B2
    rintro e w3 ⟨he, b3⟩
    rw [g2.out] at he
    subst he
    have B3 := below_trans B2 b3
    clear b3
    go_wp2_with (go_at_call 9; refine (get_any s0 ((n : Int) - 1) _ ?_).mono ?_)
    · exact E.below B3
    rintro e w4 ⟨he, b4⟩
    rw [g3.out] at he
    subst he
    go_wp2_with fail
    go_ret
    exact ⟨rfl, below_trans B3 b4⟩

set_option maxRecDepth 100000 in
theorem lifted (os : Os) (started : os.Started) (H : Type) (enc : TypeId × Value → H) :
    ReturnsInHanded {} Tryd.checked os 7 .any (fun w args => (Rows.quadMostSpec.pre enc Tryd.prog Tryd.f7 [] false w args ∧ laidMetH Tryd.prog laidHere w) ∧ sizedMet enc Tryd.prog Tryd.f7 (OpenSpec.ofChange Rows.quadMostSpec) false w args)
      (Rows.quadMostSpec.post enc Tryd.prog Tryd.f7 false true false false) := by
  refine handed started (by kernel_rfl) Tryd.func7 #[.string ⟨#[]⟩, .int .i64 0, .int .i64 0] (by kernel_rfl) (by kernel_rfl) (by kernel_rfl) (World.shaped_of_ZipB (by kernel_rfl) (by kernel_rfl))
    (by unfold laidHere; rw [MakeChecks.laidMetH_plain _ _ _ (by kernel_rfl)]; exact laidMet_laidAll _ (by kernel_rfl) (by kernel_rfl)) ?_
  intro W base args ds gs before hval0 hW E
  have hval : ∀ (j : Nat) t v, Tryd.f7.params[j]? = some t → args[j]? = some v → Value.okWide Tryd.prog W .any base t v := hval0
  have hW' := hW
  obtain ⟨p, q, hA0, hV, rfl, _, _⟩ := hW
  have hA : DataW.TrodAll enc Tryd.prog W 0 (fun _ => true) true Tryd.f7.params.toList args.toList ds p := hA0
  rw [Tryd.params7] at hA hval
  obtain ⟨v0, vs0, d0, ds0, p0, q0, hargs, rfl, rfl, r0, t0⟩ := trodAll_cons hA
  obtain ⟨v1, vs1, d1, ds1, p1, q1, rfl, rfl, rfl, r1, t1⟩ := trodAll_cons t0
  obtain ⟨v2, vs2, d2, ds2, p2, q2, rfl, rfl, rfl, r2, t2⟩ := trodAll_cons t1
  obtain ⟨rfl, rfl, rfl⟩ := trodAll_nil t2
  obtain rfl : args = #[v0, v1, v2] := by cases args; simp_all
  obtain ⟨rfl, rfl⟩ := trodVars_none hV
  obtain ⟨x0, rfl, rfl, rfl, w0⟩ := open_string Tryd.underlying9 (hval 0 9 v0 rfl rfl) r0
  obtain ⟨s0, rfl⟩ : ∃ l : List UInt8, x0 = ⟨l.toArray⟩ := ⟨x0.data.toList, by simp⟩
  obtain ⟨n1, rfl, rfl, rfl, w1⟩ := open_int Tryd.underlying3 (hval 1 3 v1 rfl rfl) r1
  obtain ⟨n2, rfl, rfl, rfl, w2⟩ := open_int Tryd.underlying3 (hval 2 3 v2 rfl rfl) r2
  clear hA0 hval0
  simp only [List.append_nil] at hW'
  refine (walk s0 (by have := w0; rw [size_mk] at this; unfold maxLen at this; exact this) n1 (int_wf w1).1 (int_wf w1).2 n2 (int_wf w2).1 (int_wf w2).2 W E).mono fun e W' ⟨he, hb⟩ => ?_
  subst he
  exact ⟨_, rfl, told hW' (fun _ _ _ => trodAll_cons_mk (shut_bool Tryd.underlying4 _) trodAll_mk0) (fun _ => trodAll_cons_mk (shut_string Tryd.underlying9 w0) (trodAll_cons_mk (shut_int Tryd.underlying3 w1) (trodAll_cons_mk (shut_int Tryd.underlying3 w2) trodAll_mk0))) (fun _ => rfl) hb⟩

theorem over : Rows.QuadMostSaid :=
  OpenClaim.holds_of_wide 7 Tryd.f7 rfl rfl rfl rfl rfl rfl rfl ⟨rfl, rfl, rfl, rfl, rfl⟩ rfl rfl rfl rfl rfl (by kernel_rfl) Tryd.func7 (by kernel_rfl)
    (of_decide_eq_true (by kernel_rfl)) (by unfold Func.isWrapper; first | (rw [if_pos (by decide +kernel)]; kernel_rfl) | (rw [if_neg (by decide +kernel)]; exact ⟨rfl, rfl⟩))
    (fun os started H enc _ => lifted os started H enc)

theorem proved : Rows.QuadMostCardSaid :=
  Claim7.holds_tied_plain_at .later [] Rows.quadMostCard.laidKinds true Rows.quadMostCard.stood.harness true
    over (fun _ h => by cases h) (by kernel_rfl) (fun _ h => by cases h) quadMost_row_tie rfl ⟨rfl, rfl⟩ (by kernel_rfl) rfl
    (fun f fn hf hfn => by
      obtain rfl : f = 7 := Option.some.inj ((show Tryd.prog.funcNamed "wharfinger/wharfingerlaw02.QuadMost" = some 7 by kernel_rfl).symm.trans hf) |>.symm
      obtain rfl : fn = Tryd.f7 := (Option.some.inj (Tryd.func7.symm.trans hfn)).symm
      exact ⟨by kernel_rfl, fun j t ht => by
        rw [Tryd.params7] at ht
        have hm : t ∈ [9, 3, 3] := by simpa using Array.mem_of_getElem? ht
        have hall : ([9, 3, 3].all fun u => !Tryd.prog.wantsStandIn u) = true := by kernel_rfl
        exact (show Tryd.prog.wantsStandIn t = false by simpa using List.all_eq_true.1 hall t hm)⟩)
    (by kernel_rfl)
#print axioms proved
end Go.Proofs.YtnglancebcimaaaDoor.quadMost
