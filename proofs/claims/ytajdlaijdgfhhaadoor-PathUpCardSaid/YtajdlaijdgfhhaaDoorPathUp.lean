/- Proved: for every path that may be and every part (held against 300 bytes each): one part more, and two dots, lead back; two dots at / lead nowhere. Conditions: none beyond the row's own (the library's variables start as the program's text lays them: the card ties them). -/
import Derived.Test.YtajdlaijdgfhhaaDoorPathAwake
import Derived.BigQuiet
import Derived.Deep.QuietTactic

namespace Go.Proofs.YtajdlaijdgfhhaaDoor.pathUp
open Go.Proofs.YtajdlaijdgfhhaaDoor Go.Proofs.YtajdlaijdgfhhaaDoor.Pt Go.Proofs.YtajdlaijdgfhhaaDoor.Cm Go.Proofs.YtajdlaijdgfhhaaDoor.Quad
open Go.ChangeShapes Go.WideShapes Go.ChangeAt Go.RowKit Go.Sort Go.ChangeMaps

set_option linter.unusedVariables false in
set_option maxHeartbeats 2000000 in
set_option maxRecDepth 100000 in
theorem walk (s0 : List UInt8) (z0 : s0.length ≤ 9223372036854775807) (s1 : List UInt8) (z1 : s1.length ≤ 9223372036854775807) (w : World)  (E : Env w) :
    Calls Tryd.prog 5 #[str s0, str s1] w fun e w' => e = .returned (.bool true) ∧ Below w.heap.size w w' := by
  have AWK := Lib.hid (fun W EW => awake_any W EW)
  have B0 := Lib.hid (Below.refl w.heap.size w)
  by_cases q0 : 300 < s0.length
  · have g0 : (300 : Int) < (s0.length : Int) := by omega
    go_enter Tryd.func5, Tryd.ntmps5
    go_wp2_with (first
        | (go_at_call 10; refine (AWK.out _ (E.below (B0.out))).mono ?_; rintro e w1 ⟨rfl, b1⟩; have B1 := Lib.hid (B0.out.trans (b1.mono B0.out.size)); clear AWK))
    all_goals (go_ret; exact ⟨by first | rfl | (simp; done) | (simp; omega), B1.out⟩)
  have g0 : ¬ (300 : Int) < (s0.length : Int) := by omega
  by_cases q1 : 300 < s1.length
  · have g1 : (300 : Int) < (s1.length : Int) := by omega
    go_enter Tryd.func5, Tryd.ntmps5
    go_wp2_with (first
        | (go_at_call 10; refine (AWK.out _ (E.below (B0.out))).mono ?_; rintro e w1 ⟨rfl, b1⟩; have B1 := Lib.hid (B0.out.trans (b1.mono B0.out.size)); clear AWK))
    all_goals (go_ret; exact ⟨by first | rfl | (simp; done) | (simp; omega), B1.out⟩)
  have g1 : ¬ (300 : Int) < (s1.length : Int) := by omega
  obtain ⟨y, hy⟩ : ∃ y, y = (47 : UInt8) :: s1 := ⟨_, rfl⟩
  have hx1 : ByteArray.mk #[47] ++ ByteArray.mk s1.toArray = ⟨y.toArray⟩ := by rw [hy]; apply ByteArray.ext; simp [ByteArray.data_append]
  have hyl : y.length ≤ 301 := by rw [hy, List.length_cons]; omega
  have n0 : ¬ 9223372036854775807 < 1 + s1.length := by omega
  cases m0 : mayP s0 with
  | false =>
    have H1 := Lib.hid (fun W EW => may_at (s0) (by omega) false m0 W EW)
    clear hx1 n0 hyl
    go_enter Tryd.func5, Tryd.ntmps5
    go_wp2_with (first
        | (go_at_call 10; refine (AWK.out _ (E.below (B0.out))).mono ?_; rintro e w1 ⟨rfl, b1⟩; have B1 := Lib.hid (B0.out.trans (b1.mono B0.out.size)); clear AWK)
        | (go_at_call 15; refine (H1.out _ (E.below (B1.out))).mono ?_; rintro e w2 ⟨rfl, b2⟩; have B2 := Lib.hid (B1.out.trans (b2.mono B1.out.size)); clear H1))
    all_goals (go_ret; exact ⟨by first | rfl | (simp; done) | (simp; omega), B2.out⟩)
  | true =>
    have H1 := Lib.hid (fun W EW => may_at (s0) (by omega) true m0 W EW)
    cases m1 : mayP y with
    | false =>
      have H2 := Lib.hid (fun W EW => may_at (y) (by omega) false m1 W EW)
      clear m0 m1 hy hyl
      go_enter Tryd.func5, Tryd.ntmps5
      go_wp2_with (first
          | (go_at_call 10; refine (AWK.out _ (E.below (B0.out))).mono ?_; rintro e w1 ⟨rfl, b1⟩; have B1 := Lib.hid (B0.out.trans (b1.mono B0.out.size)); clear AWK)
          | (go_at_call 15; refine (H1.out _ (E.below (B1.out))).mono ?_; rintro e w2 ⟨rfl, b2⟩; have B2 := Lib.hid (B1.out.trans (b2.mono B1.out.size)); clear H1)
          | (go_at_call 15; refine (H2.out _ (E.below (B2.out))).mono ?_; rintro e w3 ⟨rfl, b3⟩; have B3 := Lib.hid (B2.out.trans (b3.mono B2.out.size)); clear H2))
      all_goals (go_ret; exact ⟨by first | rfl | (simp; done) | (simp; omega), B3.out⟩)
    | true =>
      have H2 := Lib.hid (fun W EW => may_at (y) (by omega) true m1 W EW)
      cases hs : (s1 == []) with
      | true =>
        clear m0 m1 hy hyl
        go_enter Tryd.func5, Tryd.ntmps5
        go_wp2_with (first
            | (go_at_call 10; refine (AWK.out _ (E.below (B0.out))).mono ?_; rintro e w1 ⟨rfl, b1⟩; have B1 := Lib.hid (B0.out.trans (b1.mono B0.out.size)); clear AWK)
            | (go_at_call 15; refine (H1.out _ (E.below (B1.out))).mono ?_; rintro e w2 ⟨rfl, b2⟩; have B2 := Lib.hid (B1.out.trans (b2.mono B1.out.size)); clear H1)
            | (go_at_call 15; refine (H2.out _ (E.below (B2.out))).mono ?_; rintro e w3 ⟨rfl, b3⟩; have B3 := Lib.hid (B2.out.trans (b3.mono B2.out.size)); clear H2))
        all_goals (go_ret; exact ⟨by first | rfl | (simp; done) | (simp; omega), B3.out⟩)
      | false =>
        have hne : s1 ≠ [] := beq_eq_false_iff_ne.1 hs
        obtain ⟨q, hq⟩ : ∃ q, q = s1 ++ [(47 : UInt8), 46, 46] := ⟨_, rfl⟩
        have hx2 : ByteArray.mk s1.toArray ++ ByteArray.mk #[47, 46, 46] = ⟨q.toArray⟩ := by rw [hq]; apply ByteArray.ext; simp [ByteArray.data_append]
        have hql : q.length ≤ 303 := by rw [hq, List.length_append]; simp <;> omega
        have n1 : ¬ 9223372036854775807 < s1.length + 3 := by omega
        have HPT : Hid ((47 : UInt8) ∉ s1 → Part s1) := Lib.hid (fun h => part_of (by rw [← hy]; exact m1) hne h)
        have HJ3 := Lib.hid (fun W EW => join_at [47] [46, 46] (by decide) (by decide) [47] 0 up_root W EW)
        have HM0 := Lib.hid m0
        have HM1 : Hid (mayP (47 :: s1) = true) := Lib.hid (by rw [← hy]; exact m1)
        have HQE := Lib.hid hq
        have HQL := Lib.hid hql
        clear m0 m1 hy hyl hne hq hql
        go_enter Tryd.func5, Tryd.ntmps5
        go_wp2_with (first
            | (go_at_call 10; refine (AWK.out _ (E.below (B0.out))).mono ?_; rintro e w1 ⟨rfl, b1⟩; have B1 := Lib.hid (B0.out.trans (b1.mono B0.out.size)); clear AWK)
            | (go_at_call 15; refine (H1.out _ (E.below (B1.out))).mono ?_; rintro e w2 ⟨rfl, b2⟩; have B2 := Lib.hid (B1.out.trans (b2.mono B1.out.size)); clear H1)
            | (go_at_call 15; refine (H2.out _ (E.below (B2.out))).mono ?_; rintro e w3 ⟨rfl, b3⟩; have B3 := Lib.hid (B2.out.trans (b3.mono B2.out.size)); clear H2))
        go_loopw [6] (fun x44 wr => ∃ (k : Nat), x44 = .int .i64 (k : Int) ∧ k ≤ s1.length ∧ Hid ((47 : UInt8) ∉ s1.take k) ∧ Hid (wr = w3)) (fun i _ => s1.length - (intOf i).toNat)
        case atStart => exact ⟨0, rfl, Nat.zero_le _, Lib.hid (by simp), by first | exact Lib.hid rfl | exact Lib.hid trivial⟩
        case round =>
          obtain ⟨k, rfl, hk, HF, HW⟩ := hrel
          obtain rfl := HW.out
          by_cases hlt : k < s1.length
          · have hsz : k < (ByteArray.mk s1.toArray).size := by simpa [ByteArray.size] using hlt
            have hji : (k : Int) < (s1.length : Int) := by omega
            have HK : Hid (k + 1 ≤ s1.length) := Lib.hid hlt
            obtain ⟨ch, hcx⟩ : ∃ c : UInt8, (ByteArray.mk s1.toArray)[k]'hsz = c := ⟨_, rfl⟩
            have hc0 : s1[k]'hlt = ch := hcx
            cases h4 : (ch == (47 : UInt8)) with
            | true =>
              have g4 : ((ch.toNat : Int) == 47) = true := by rw [beq_iff_eq] at h4; subst h4; rfl
              clear h4 hc0
              go_wp2_with fail
              go_ret
              exact ⟨rfl, B3.out⟩
            | false =>
              have g4 : ((ch.toNat : Int) == 47) = false := by rw [beq_eq_false_iff_ne]; intro e; rw [beq_eq_false_iff_ne] at h4; exact h4 (UInt8.toNat.inj (by show ch.toNat = 47; omega))
              have HFN : Hid ((47 : UInt8) ∉ s1.take (k + 1)) := Lib.hid (by
                rw [List.take_succ_eq_append_getElem hlt, hc0]
                simp only [List.mem_append, List.mem_singleton, not_or]
                rw [beq_eq_false_iff_ne] at h4
                exact ⟨HF.out, fun e => h4 e.symm⟩)
              clear h4 hc0
              go_wp2_with fail
              go_roundw
              case rel => exact ⟨k + 1, by go_num, HK.out, HFN, by first | exact Lib.hid rfl | exact Lib.hid trivial⟩
              case measure => have := HK.out; simp [intOf]; omega
          · have hji : ¬ (k : Int) < (s1.length : Int) := by omega
            have hfree : (47 : UInt8) ∉ s1 := by have h := HF.out; rw [List.take_of_length_le (by omega)] at h; exact h
            have HP := HPT.out hfree
            have hql := HQL.out
            have HJ4 := Lib.hid (fun W EW => join_at s0 q (by omega) (by omega) s0 0 (by rw [HQE.out]; exact join_back HM0.out HP) W EW)
            by_cases hz : (join s0 s1).2 = 0
            case neg =>
              obtain ⟨h5, h6⟩ := part_over HM0.out HP HM1.out hz
              have HJ2 := Lib.hid (fun W EW => join_at s0 s1 (by omega) (by omega) [] 5 (Prod.ext (join_err hz) h5) W EW)
              have g6 : (200 : Int) ≤ (s0.length : Int) + (s1.length : Int) := by omega
              clear h5 h6 hz hql hfree HF
              go_wp2_with (first
                  | (go_at_call 12; refine (HJ2.out _ (E.below (B3.out))).mono ?_; rintro e w4 ⟨rfl, b4⟩; have B4 := Lib.hid (B3.out.trans (b4.mono B3.out.size)); clear HJ2)
                  | (go_at_call 12; refine (HJ3.out _ (E.below (B4.out))).mono ?_; rintro e w5 ⟨rfl, b5⟩; have B5 := Lib.hid (B4.out.trans (b5.mono B4.out.size)); clear HJ3)
                  | (go_at_call 12; refine (HJ4.out _ (E.below (B5.out))).mono ?_; rintro e w6 ⟨rfl, b6⟩; have B6 := Lib.hid (B5.out.trans (b6.mono B5.out.size)); clear HJ4))
              all_goals (go_ret; exact ⟨by first | rfl | (simp; done) | (simp; omega), B6.out⟩)
            case pos =>
              have hL := led hz
              have hM := hL.mayP
              have hps := hL.parts
              rw [lead_part HP] at hps
              obtain ⟨x, hx⟩ : ∃ x, x = (join s0 s1).1 := ⟨_, rfl⟩
              rw [← hx] at hM hps
              have hxl : x.length ≤ 200 := (may_parts hM).short
              have HJ2 := Lib.hid (fun W EW => join_at s0 s1 (by omega) (by omega) x 0 (Prod.ext hx.symm hz) W EW)
              have HJ5 := Lib.hid (fun W EW => join_at x [46, 46] (by omega) (by decide) s0 0 (join_up hM HM0.out hps) W EW)
              have HU6 := Lib.hid (fun W EW => under_at s0 x (by omega) (by omega) true (under_of HM0.out hM (by rw [hps]; exact List.prefix_append _ _)) W EW)
              have gx : (x == s0) = false := by
                rw [beq_eq_false_iff_ne]
                intro e
                rw [e] at hps
                have := congrArg List.length hps
                rw [List.length_append] at this; simp at this
              clear hz hql hfree HF hM hps hx hL
              go_wp2_with (first
                  | (go_at_call 12; refine (HJ2.out _ (E.below (B3.out))).mono ?_; rintro e w4 ⟨rfl, b4⟩; have B4 := Lib.hid (B3.out.trans (b4.mono B3.out.size)); clear HJ2)
                  | (go_at_call 12; refine (HJ3.out _ (E.below (B4.out))).mono ?_; rintro e w5 ⟨rfl, b5⟩; have B5 := Lib.hid (B4.out.trans (b5.mono B4.out.size)); clear HJ3)
                  | (go_at_call 12; refine (HJ4.out _ (E.below (B5.out))).mono ?_; rintro e w6 ⟨rfl, b6⟩; have B6 := Lib.hid (B5.out.trans (b6.mono B5.out.size)); clear HJ4)
                  | (go_at_call 12; refine (HJ5.out _ (E.below (B6.out))).mono ?_; rintro e w7 ⟨rfl, b7⟩; have B7 := Lib.hid (B6.out.trans (b7.mono B6.out.size)); clear HJ5)
                  | (go_at_call 16; refine (HU6.out _ (E.below (B7.out))).mono ?_; rintro e w8 ⟨rfl, b8⟩; have B8 := Lib.hid (B7.out.trans (b8.mono B7.out.size)); clear HU6))
              all_goals (go_ret; exact ⟨by first | rfl | (simp; done) | (simp; omega), B8.out⟩)

set_option maxRecDepth 100000 in
theorem lifted (os : Os) (started : os.Started) (H : Type) (enc : TypeId × Value → H) :
    ReturnsInHanded {} Tryd.checked os 5 .any (fun w args => (Rows.pathUpSpec.pre enc Tryd.prog Tryd.f5 [] false w args ∧ laidMetH Tryd.prog laidHere w) ∧ sizedMet enc Tryd.prog Tryd.f5 (OpenSpec.ofChange Rows.pathUpSpec) false w args)
      (Rows.pathUpSpec.post enc Tryd.prog Tryd.f5 false true false false) := by
  refine handed started (by kernel_rfl) Tryd.func5 #[.string ⟨#[]⟩, .string ⟨#[]⟩] (by kernel_rfl) (by kernel_rfl) (by kernel_rfl) (World.shaped_of_ZipB (by kernel_rfl) (by kernel_rfl))
    (by unfold laidHere; rw [MakeChecks.laidMetH_plain _ _ _ (by kernel_rfl)]; exact laidMet_laidAll _ (by kernel_rfl) (by kernel_rfl)) ?_
  intro W base args ds gs before hval0 hW E
  have hval : ∀ (j : Nat) t v, Tryd.f5.params[j]? = some t → args[j]? = some v → Value.okWide Tryd.prog W .any base t v := hval0
  have hW' := hW
  obtain ⟨p, q, hA0, hV, rfl, _, _⟩ := hW
  have hA : DataW.TrodAll enc Tryd.prog W 0 (fun _ => true) true Tryd.f5.params.toList args.toList ds p := hA0
  rw [Tryd.params5] at hA hval
  obtain ⟨v0, vs0, d0, ds0, p0, q0, hargs, rfl, rfl, r0, t0⟩ := trodAll_cons hA
  obtain ⟨v1, vs1, d1, ds1, p1, q1, rfl, rfl, rfl, r1, t1⟩ := trodAll_cons t0
  obtain ⟨rfl, rfl, rfl⟩ := trodAll_nil t1
  obtain rfl : args = #[v0, v1] := by cases args; simp_all
  obtain ⟨rfl, rfl⟩ := trodVars_none hV
  obtain ⟨x0, rfl, rfl, rfl, w0⟩ := open_string Tryd.underlying9 (hval 0 9 v0 rfl rfl) r0
  obtain ⟨s0, rfl⟩ : ∃ l : List UInt8, x0 = ⟨l.toArray⟩ := ⟨x0.data.toList, by simp⟩
  obtain ⟨x1, rfl, rfl, rfl, w1⟩ := open_string Tryd.underlying9 (hval 1 9 v1 rfl rfl) r1
  obtain ⟨s1, rfl⟩ : ∃ l : List UInt8, x1 = ⟨l.toArray⟩ := ⟨x1.data.toList, by simp⟩
  clear hA0 hval0
  simp only [List.append_nil] at hW'
  refine (walk s0 (by have := w0; rw [size_mk] at this; unfold maxLen at this; exact this) s1 (by have := w1; rw [size_mk] at this; unfold maxLen at this; exact this) W  E).mono fun e W' ⟨he, hb⟩ => ?_
  subst he
  exact ⟨_, rfl, told hW' (fun _ _ _ => trodAll_cons_mk (shut_bool Tryd.underlying4 _) trodAll_mk0) (trodAll_cons_mk (shut_string Tryd.underlying9 w0) (trodAll_cons_mk (shut_string Tryd.underlying9 w1) trodAll_mk0)) (fun _ => rfl) hb⟩

theorem over : Rows.PathUpSaid :=
  OpenClaim.holds_of_wide 5 Tryd.f5 rfl rfl rfl rfl rfl rfl rfl ⟨rfl, rfl, rfl, rfl, rfl⟩ rfl rfl rfl rfl rfl (by kernel_rfl) Tryd.func5 (by kernel_rfl)
    (of_decide_eq_true (by kernel_rfl)) (by unfold Func.isWrapper; first | (rw [if_pos (by decide +kernel)]; kernel_rfl) | (rw [if_neg (by decide +kernel)]; exact ⟨rfl, rfl⟩))
    (fun os started H enc _ => lifted os started H enc)

theorem proved : Rows.PathUpCardSaid :=
  Claim7.holds_tied_plain_at .later [] Rows.pathUpCard.laidKinds true Rows.pathUpCard.stood.harness Rows.pathUpCard.stood.looks
    over (fun _ h => by cases h) (by kernel_rfl) (fun _ h => by cases h) pathUp_row_tie rfl ⟨rfl, rfl⟩ (by kernel_rfl) rfl
    (fun f fn hf hfn => by
      obtain rfl : f = 5 := Option.some.inj ((show Tryd.prog.funcNamed "wharfinger/wharfingerlaw10.PathUp" = some 5 by kernel_rfl).symm.trans hf) |>.symm
      obtain rfl : fn = Tryd.f5 := (Option.some.inj (Tryd.func5.symm.trans hfn)).symm
      exact ⟨by kernel_rfl, fun j t ht => by
        rw [Tryd.params5] at ht
        have hm : t ∈ [9, 9] := by simpa using Array.mem_of_getElem? ht
        have hall : ([9, 9].all fun u => !Tryd.prog.wantsStandIn u) = true := by kernel_rfl
        exact (show Tryd.prog.wantsStandIn t = false by simpa using List.all_eq_true.1 hall t hm)⟩)
    (by kernel_rfl)
#print axioms proved
end Go.Proofs.YtajdlaijdgfhhaaDoor.pathUp
