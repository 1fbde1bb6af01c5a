/- Proved: for every rules, verb and path (held against 20 rules, 300 bytes): whether the rules may be, which one tells, and whether it is allowed, is what the document's answer says. Conditions: none beyond the row's own (the library's variables start as the program's text lays them: the card ties them). -/
import Derived.Test.YtojpahnfhhbnoaaDoorAclAwake
import Derived.BigQuiet
import Derived.Deep.RegionLaw
import Derived.Deep.QuietTactic

namespace Go.Proofs.YtojpahnfhhbnoaaDoor.aclTells
open Go.Proofs.YtojpahnfhhbnoaaDoor Go.Proofs.YtojpahnfhhbnoaaDoor.Ac Go.Proofs.YtojpahnfhhbnoaaDoor.Pt Go.Proofs.YtojpahnfhhbnoaaDoor.Quad
open Go.ChangeShapes Go.WideShapes Go.ChangeAt Go.RowKit Go.Sort Go.ChangeMaps

set_option linter.unusedVariables false in
set_option maxHeartbeats 2000000 in
set_option maxRecDepth 100000 in
theorem walk (u0 : Value) (s0 : List Rl) (s1 : List UInt8) (z1 : s1.length ≤ 9223372036854775807) (s2 : List UInt8) (z2 : s2.length ≤ 9223372036854775807) (w : World) (y0 : RulesIs w u0 s0) (E : Env w) :
    Calls Tryd.prog 3 #[u0, str s1, str s2] w fun e w' => e = .returned (.bool true) ∧ Below w.heap.size w w' := by
  have AWK := Lib.hid (fun W EW => awake_any W EW)
  have B0 := Lib.hid (Below.refl w.heap.size w)
  have YR := Lib.hid y0
  clear y0
  cases hf : fewL s0 with
  | false =>
    have HF := Lib.hid (fun W HR => few_at u0 s0 false hf W HR)
    clear hf
    go_enter Tryd.func3, Tryd.ntmps3
    go_wp2_with (first
        | (go_at_call 7; refine (AWK.out _ (E.below (B0.out))).mono ?_; rintro e w1 ⟨rfl, b1⟩; have B1 := Lib.hid (B0.out.trans (b1.mono B0.out.size)); clear AWK)
        | (go_at_call 8; refine (HF.out _ (YR.out.call (B1.out))).mono ?_; rintro e w2 ⟨rfl, b2⟩; have B2 := Lib.hid (B1.out.trans (b2.mono B1.out.size)); clear HF))
    all_goals (go_ret; exact ⟨by first | rfl | (simp; done) | (simp; omega), B2.out⟩)
  | true =>
    have HF := Lib.hid (fun W HR => few_at u0 s0 true hf W HR)
    have hs : Short s0 := short_few hf
    clear hf
    by_cases g1 : 300 < s1.length
    · have g1' : (300 : Int) < (s1.length : Int) := by omega
      go_enter Tryd.func3, Tryd.ntmps3
      go_wp2_with (first
          | (go_at_call 7; refine (AWK.out _ (E.below (B0.out))).mono ?_; rintro e w1 ⟨rfl, b1⟩; have B1 := Lib.hid (B0.out.trans (b1.mono B0.out.size)); clear AWK)
          | (go_at_call 8; refine (HF.out _ (YR.out.call (B1.out))).mono ?_; rintro e w2 ⟨rfl, b2⟩; have B2 := Lib.hid (B1.out.trans (b2.mono B1.out.size)); clear HF))
      all_goals (go_ret; exact ⟨by first | rfl | (simp; done) | (simp; omega), B2.out⟩)
    have g1' : ¬ (300 : Int) < (s1.length : Int) := by omega
    by_cases g2 : 300 < s2.length
    · have g2' : (300 : Int) < (s2.length : Int) := by omega
      go_enter Tryd.func3, Tryd.ntmps3
      go_wp2_with (first
          | (go_at_call 7; refine (AWK.out _ (E.below (B0.out))).mono ?_; rintro e w1 ⟨rfl, b1⟩; have B1 := Lib.hid (B0.out.trans (b1.mono B0.out.size)); clear AWK)
          | (go_at_call 8; refine (HF.out _ (YR.out.call (B1.out))).mono ?_; rintro e w2 ⟨rfl, b2⟩; have B2 := Lib.hid (B1.out.trans (b2.mono B1.out.size)); clear HF))
      all_goals (go_ret; exact ⟨by first | rfl | (simp; done) | (simp; omega), B2.out⟩)
    have g2' : ¬ (300 : Int) < (s2.length : Int) := by omega
    have H1 := Lib.hid (fun W HR => rmayl_any u0 s0 hs W HR)
    have H2 := Lib.hid (fun W HR => rallowed_any u0 s0 s1 s2 hs (by omega) W HR)
    have H3 := Lib.hid (fun W EW HR => may_of u0 s0 hs (mayL s0) rfl W EW HR)
    have H4 := Lib.hid (fun W EW HR => which_of u0 s0 s1 s2 hs (by omega) (which s0 s1 s2) rfl W EW HR)
    have H5 := Lib.hid (fun W HR => rwhich_any u0 s0 s1 s2 hs (by omega) W HR)
    have H6 := Lib.hid (fun W EW HR => allowed_of u0 s0 s1 s2 hs (by omega) (allowed s0 s1 s2) rfl W EW HR)
    clear hs
    generalize mayL s0 = m at *
    generalize which s0 s1 s2 = k at *
    generalize allowed s0 s1 s2 = a at *
    go_enter Tryd.func3, Tryd.ntmps3
    go_wp2_with (first
        | (go_at_call 7; refine (AWK.out _ (E.below (B0.out))).mono ?_; rintro e w1 ⟨rfl, b1⟩; have B1 := Lib.hid (B0.out.trans (b1.mono B0.out.size)); clear AWK)
        | (go_at_call 8; refine (HF.out _ (YR.out.call (B1.out))).mono ?_; rintro e w2 ⟨rfl, b2⟩; have B2 := Lib.hid (B1.out.trans (b2.mono B1.out.size)); clear HF)
        | (go_at_call 9; refine (H1.out _ (YR.out.call (B2.out))).mono ?_; rintro e w3 ⟨rfl, b3⟩; have B3 := Lib.hid (B2.out.trans (b3.mono B2.out.size)); clear H1)
        | (go_at_call 10; refine (H2.out _ (YR.out.call (B3.out))).mono ?_; rintro e w4 ⟨rfl, b4⟩; have B4 := Lib.hid (B3.out.trans (b4.mono B3.out.size)); clear H2)
        | (go_at_call 11; refine (H3.out _ (E.below (B4.out)) (YR.out.call (B4.out))).mono ?_; rintro e w5 ⟨rfl, b5⟩; have B5 := Lib.hid (B4.out.trans (b5.mono B4.out.size)); clear H3)
        | (go_at_call 12; refine (H4.out _ (E.below (B5.out)) (YR.out.call (B5.out))).mono ?_; rintro e w6 ⟨rfl, b6⟩; have B6 := Lib.hid (B5.out.trans (b6.mono B5.out.size)); clear H4)
        | (go_at_call 13; refine (H5.out _ (YR.out.call (B6.out))).mono ?_; rintro e w7 ⟨rfl, b7⟩; have B7 := Lib.hid (B6.out.trans (b7.mono B6.out.size)); clear H5)
        | (go_at_call 14; refine (H6.out _ (E.below (B7.out)) (YR.out.call (B7.out))).mono ?_; rintro e w8 ⟨rfl, b8⟩; have B8 := Lib.hid (B7.out.trans (b8.mono B7.out.size)); clear H6))
    all_goals (go_ret; exact ⟨by first | rfl | (simp; done) | (simp; omega), B8.out⟩)

set_option maxRecDepth 100000 in
theorem lifted (os : Os) (started : os.Started) (H : Type) (enc : TypeId × Value → H) :
    ReturnsInHanded {} Tryd.checked os 3 .any (fun w args => (Rows.aclTellsSpec.pre enc Tryd.prog Tryd.f3 [] false w args ∧ laidMetH Tryd.prog laidHere w) ∧ sizedMet enc Tryd.prog Tryd.f3 (OpenSpec.ofChange Rows.aclTellsSpec) false w args)
      (Rows.aclTellsSpec.post enc Tryd.prog Tryd.f3 false true false false) := by
  refine handed started (by kernel_rfl) Tryd.func3 #[.slice none 0 0, .string ⟨#[]⟩, .string ⟨#[]⟩] (by kernel_rfl) (by kernel_rfl) (by kernel_rfl) (World.shaped_of_ZipB (by kernel_rfl) (by kernel_rfl))
    (by unfold laidHere; rw [MakeChecks.laidMetH_plain _ _ _ (by kernel_rfl)]; exact laidMet_laidAll _ (by kernel_rfl) (by kernel_rfl)) ?_
  intro W base args ds gs before hval0 hW E
  have hval : ∀ (j : Nat) t v, Tryd.f3.params[j]? = some t → args[j]? = some v → Value.okWide Tryd.prog W .any base t v := hval0
  have hW' := hW
  obtain ⟨p, q, hA0, hV, rfl, _, _⟩ := hW
  have hA : DataW.TrodAll enc Tryd.prog W 0 (fun _ => true) true Tryd.f3.params.toList args.toList ds p := hA0
  rw [Tryd.params3] at hA hval
  obtain ⟨v0, vs0, d0, ds0, p0, q0, hargs, rfl, rfl, r0, t0⟩ := trodAll_cons hA
  obtain ⟨v1, vs1, d1, ds1, p1, q1, rfl, rfl, rfl, r1, t1⟩ := trodAll_cons t0
  obtain ⟨v2, vs2, d2, ds2, p2, q2, rfl, rfl, rfl, r2, t2⟩ := trodAll_cons t1
  obtain ⟨rfl, rfl, rfl⟩ := trodAll_nil t2
  obtain rfl : args = #[v0, v1, v2] := by cases args; simp_all
  obtain ⟨rfl, rfl⟩ := trodVars_none hV
  obtain ⟨s0, y0, z0, k0⟩ := open_rules (hval 0 22 v0 rfl rfl) r0
  obtain ⟨x1, rfl, rfl, rfl, w1⟩ := open_string Tryd.underlying9 (hval 1 9 v1 rfl rfl) r1
  obtain ⟨s1, rfl⟩ : ∃ l : List UInt8, x1 = ⟨l.toArray⟩ := ⟨x1.data.toList, by simp⟩
  obtain ⟨x2, rfl, rfl, rfl, w2⟩ := open_string Tryd.underlying9 (hval 2 9 v2 rfl rfl) r2
  obtain ⟨s2, rfl⟩ : ∃ l : List UInt8, x2 = ⟨l.toArray⟩ := ⟨x2.data.toList, by simp⟩
  clear hA0 hval0
  simp only [List.append_nil] at hW'
  refine (walk v0 s0 s1 (by have := w1; rw [size_mk] at this; unfold maxLen at this; exact this) s2 (by have := w2; rw [size_mk] at this; unfold maxLen at this; exact this) W y0 E).mono fun e W' ⟨he, hb⟩ => ?_
  subst he
  obtain ⟨pa0, t0'⟩ := k0 W' hb
  exact ⟨_, rfl, told hW' (fun _ _ _ => trodAll_cons_mk (shut_bool Tryd.underlying4 _) trodAll_mk0) (trodAll_cons_mk (t0') (trodAll_cons_mk (shut_string Tryd.underlying9 w1) (trodAll_cons_mk (shut_string Tryd.underlying9 w2) trodAll_mk0))) (fun _ => rfl) hb⟩

theorem over : Rows.AclTellsSaid :=
  OpenClaim.holds_of_wide 3 Tryd.f3 rfl rfl rfl rfl rfl rfl rfl ⟨rfl, rfl, rfl, rfl, rfl⟩ rfl rfl rfl rfl rfl (by kernel_rfl) Tryd.func3 (by kernel_rfl)
    (of_decide_eq_true (by kernel_rfl)) (by unfold Func.isWrapper; first | (rw [if_pos (by decide +kernel)]; kernel_rfl) | (rw [if_neg (by decide +kernel)]; exact ⟨rfl, rfl⟩))
    (fun os started H enc _ => lifted os started H enc)

theorem proved : Rows.AclTellsCardSaid :=
  Claim7.holds_tied_plain_at .later [] Rows.aclTellsCard.laidKinds true Rows.aclTellsCard.stood.harness Rows.aclTellsCard.stood.looks
    over (fun _ h => by cases h) (by kernel_rfl) (fun _ h => by cases h) aclTells_row_tie rfl ⟨rfl, rfl⟩ (by kernel_rfl) rfl
    (fun f fn hf hfn => by
      obtain rfl : f = 3 := Option.some.inj ((show Tryd.prog.funcNamed "wharfinger/wharfingerlaw11.AclTells" = some 3 by kernel_rfl).symm.trans hf) |>.symm
      obtain rfl : fn = Tryd.f3 := (Option.some.inj (Tryd.func3.symm.trans hfn)).symm
      exact ⟨by kernel_rfl, fun j t ht => by
        rw [Tryd.params3] at ht
        have hm : t ∈ [22, 9, 9] := by simpa using Array.mem_of_getElem? ht
        have hall : ([22, 9, 9].all fun u => !Tryd.prog.wantsStandIn u) = true := by kernel_rfl
        exact (show Tryd.prog.wantsStandIn t = false by simpa using List.all_eq_true.1 hall t hm)⟩)
    (by kernel_rfl)
#print axioms proved
end Go.Proofs.YtojpahnfhhbnoaaDoor.aclTells
