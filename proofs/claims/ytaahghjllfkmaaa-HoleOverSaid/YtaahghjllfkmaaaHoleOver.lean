/- Proved: for every pinholes (held against 40) and two times, one not behind the other: what is left by a sweep is not over, and what is gone was; at a later time no more are left; swept twice is swept once. Conditions: none beyond the row's own (the library's variables start as the program's text lays them: the card ties them). -/
import Derived.Test.YtaahghjllfkmaaaHoleAwake
import Derived.BigQuiet
import Derived.Deep.QuietTactic
import Derived.Deep.RegionHeld

namespace Go.Proofs.Ytaahghjllfkmaaa.holeOver
open Go.Proofs.Ytaahghjllfkmaaa Go.Proofs.Ytaahghjllfkmaaa.Hl
open Go.ChangeShapes Go.WideShapes Go.ChangeAt Go.RowKit Go.Sort Go.ChangeMaps
set_option linter.unusedSimpArgs false
set_option linter.unusedVariables false
set_option linter.unusedVariables false in
set_option maxHeartbeats 16000000 in
set_option maxRecDepth 100000 in
theorem walk (u0 : Value) (s0 : List Ho) (n1 : Int) (l1 : -9223372036854775808 ≤ n1) (h1 : n1 ≤ 9223372036854775807) (n2 : Int) (l2 : -9223372036854775808 ≤ n2) (h2 : n2 ≤ 9223372036854775807) (w : World) (y0 : HolesIs w u0 s0) (E : Env w) :
    Calls Try.prog 5 #[u0, .int .i64 n1, .int .i64 n2] w fun e w' => e = .returned (.bool true) ∧ Below w.heap.size w w' := by
  have AWK := Lib.hid (fun W EW => awake_any W EW)
  have B0 := Lib.hid (Below.refl w.heap.size w)
  obtain ⟨p, n, c, rfl, hn⟩ := y0.form
  have HN := Lib.hid hn
  have YL0 := Lib.hid y0
  have hmax := y0.max
  rw [← hn] at hmax
  clear hn y0
  by_cases g : 40 < n
  · have g' : (40 : Int) < (n : Int) := by omega
    go_enter Try.func5, Try.ntmps5
    go_wp2_with (first
        | (go_at_call 10; refine (AWK.out _ (E.below (B0.out))).mono ?_; rintro e w1 ⟨rfl, b1⟩; have B1 := Lib.hid (B0.out.trans (b1.mono B0.out.size)); have YL1 := Lib.hid (YL0.out.call b1); clear YL0))
    all_goals (go_ret; exact ⟨by first | rfl | (simp; done) | (simp; omega), B1.out⟩)
  have g' : ¬ (40 : Int) < (n : Int) := by omega
  have hl : Hid (s0.length ≤ 99999) := Lib.hid (by rw [← HN.out]; omega)
  have hl1 : Hid (s0.length ≤ 100000) := Lib.hid (by rw [← HN.out]; omega)
  by_cases ga : n2 < n1
  · go_enter Try.func5, Try.ntmps5
    go_wp2_with (first
        | (go_at_call 10; refine (AWK.out _ (E.below (B0.out))).mono ?_; rintro e w1 ⟨rfl, b1⟩; have B1 := Lib.hid (B0.out.trans (b1.mono B0.out.size)); have YL1 := Lib.hid (YL0.out.call b1); clear YL0))
    all_goals (go_ret; exact ⟨by first | rfl | (simp; done) | (simp; omega), B1.out⟩)
  obtain ⟨r, hr⟩ : ∃ r, sweep s0 n1 = r := ⟨_, rfl⟩
  obtain ⟨r2, hr2⟩ : ∃ r, sweep s0 n2 = r := ⟨_, rfl⟩
  have hT := sweep_twice s0 (show n1 ≤ n2 by omega)
  rw [hr, hr2] at hT
  obtain ⟨hT1, hT2, hT3⟩ := hT
  have HM : Hid (∀ x ∈ r, n1 < x.dead) := Lib.hid (fun x hx => by rw [← hr] at hx; exact sweep_mem hx)
  have HF : Hid (r = s0.filter (fun x => decide (n1 < x.dead))) := Lib.hid hr.symm
  have hrl : r.length ≤ 100000 := by rw [← hr]; exact Nat.le_trans (List.length_filter_le _ _) hl1.out
  obtain ⟨N, hN⟩ : ∃ N, r.length = N := ⟨_, rfl⟩
  obtain ⟨N2, hN2⟩ : ∃ N, r2.length = N := ⟨_, rfl⟩
  have hNN : N2 ≤ N := by omega
  have hN9 : N ≤ 100000 := by omega
  have HNr := Lib.hid hN
  have H1 := Lib.hid (fun W HR => hsweep_of (.slice p n c) s0 n1 hl1.out r N hr hN W HR)
  have H2 := Lib.hid (fun W HR => hsweep_of (.slice p n c) s0 n2 hl1.out r2 N2 hr2 hN2 W HR)
  have H3 := Lib.hid (fun u W HR => hsweep_of u r n1 hrl r N hT1 hN W HR)
  have H4 := Lib.hid (fun u v W HR HR2 => hsame_of u v r r true (sameL_self r) W HR HR2)
  have H5 := Lib.hid (fun u W HR => hsweep_of u r n2 hrl r2 N2 hT2 hN2 W HR)
  have H6 := Lib.hid (fun u v W HR HR2 => hsame_of u v r2 r2 true (sameL_self r2) W HR HR2)
  clear hr hr2 hT1 hT2 hT3 hrl hN hN2
  go_enter Try.func5, Try.ntmps5
  go_wp2_with (first
      | (go_at_call 10; refine (AWK.out _ (E.below (B0.out))).mono ?_; rintro e w1 ⟨rfl, b1⟩; have B1 := Lib.hid (B0.out.trans (b1.mono B0.out.size)); have YL1 := Lib.hid (YL0.out.call b1); clear YL0)
      | (go_at_call 17; refine (H1.out _ YL1.out).mono ?_; rintro e w2 ⟨⟨p1, c1, rfl, y1⟩, b2⟩; have B2 := Lib.hid (B1.out.trans (b2.mono B1.out.size)); have YL2 := Lib.hid (YL1.out.call b2); clear YL1; have YA2 := Lib.hid y1; clear y1; clear H1)
      | (go_at_call 17; refine (H2.out _ YL2.out).mono ?_; rintro e w3 ⟨⟨p2, c2, rfl, y2⟩, b3⟩; have B3 := Lib.hid (B2.out.trans (b3.mono B2.out.size)); have YL3 := Lib.hid (YL2.out.call b3); clear YL2; have YA3 := Lib.hid (YA2.out.call b3); clear YA2; have YB3 := Lib.hid y2; clear y2; clear H2))
  go_loopw [10, 11] (fun x10 x11 w4 => ∃ (k c0 : Nat), x10 = .int .i64 (c0 : Int) ∧ x11 = .int .i64 (k : Int) ∧ k ≤ n ∧ Hid (c0 = ((s0.take k).filter (fun x => decide (n1 < x.dead))).length) ∧ Hid (Below w3.heap.size w3 w4)) (fun _ i _ => n - (intOf i).toNat)
  case atStart => exact ⟨0, 0, rfl, rfl, Nat.zero_le _, Lib.hid rfl, Lib.hid (Below.refl _ _)⟩
  case round =>
    obtain ⟨k, c0, rfl, rfl, hk, HT, HB⟩ := hrel
    by_cases hlt : k < n
    · have hji : (k : Int) < (n : Int) := by omega
      have HKN : Hid (k + 1 ≤ n) := Lib.hid hlt
      have hkl : k < s0.length := by rw [← HN.out]; exact hlt
      have hc9 : c0 ≤ 100000 := by have := HT.out; have h2 := List.length_filter_le (fun x : Ho => decide (n1 < x.dead)) (s0.take k); rw [List.length_take] at h2; omega
      obtain ⟨b1, o1, rfl, hb1, hc1⟩ := (YL3.out.call HB.out).some (by omega)
      have a12 := (hc1 k hkl).c12
      have HTN := Lib.hid (filter_next (f := fun x => decide (n1 < x.dead)) hkl)
      clear hc1
      generalize s0[k] = x at *
      by_cases h1 : n1 < x.dead
      · have HT2 : Hid (c0 + 1 = ((s0.take (k + 1)).filter (fun x => decide (n1 < x.dead))).length) := Lib.hid (by rw [HTN.out, HT.out, decide_eq_true h1]; simp)
        clear HTN
        go_wp2_with fail
        go_roundw
        case rel => exact ⟨k + 1, c0 + 1, by go_num, by go_num, HKN.out, HT2, HB⟩
        case measure => have := HKN.out; simp [intOf]; omega
      · have HT2 : Hid (c0 = ((s0.take (k + 1)).filter (fun x => decide (n1 < x.dead))).length) := Lib.hid (by rw [HTN.out, HT.out, decide_eq_false h1]; simp)
        clear HTN
        go_wp2_with fail
        go_roundw
        case rel => exact ⟨k + 1, c0, by go_num, by go_num, HKN.out, HT2, HB⟩
        case measure => have := HKN.out; simp [intOf]; omega
    · have hji : ¬ (k : Int) < (n : Int) := by omega
      have hE : s0.take k = s0 := List.take_of_length_le (by have := HN.out; omega)
      rw [hE, ← HF.out, HNr.out] at HT
      clear hE
      obtain rfl := HT.out
      go_wp2_with fail
      go_loopw [12] (fun x12 w5 => ∃ (j : Nat), x12 = .int .i64 (j : Int) ∧ j ≤ c0 ∧ Hid (Below w3.heap.size w3 w5)) (fun i _ => c0 - (intOf i).toNat)
      case atStart => exact ⟨0, rfl, Nat.zero_le _, HB⟩
      case round =>
        obtain ⟨j, rfl, hj, HB2⟩ := hrel
        by_cases hlt : j < c0
        · have hji : (j : Int) < (c0 : Int) := by omega
          have HKN : Hid (j + 1 ≤ c0) := Lib.hid hlt
          have hjl : j < r.length := by rw [HNr.out]; exact hlt
          obtain ⟨b1, o1, rfl, hb1, hc1⟩ := (YA3.out.call HB2.out).some (by omega)
          have a12 := (hc1 j hjl).c12
          have hd := HM.out _ (List.getElem_mem hjl)
          clear hc1
          generalize r[j] = x at *
          have h1 : ¬ x.dead ≤ n1 := by omega
          go_wp2_with fail
          go_roundw
          case rel => exact ⟨j + 1, by go_num, HKN.out, HB2⟩
          case measure => have := HKN.out; simp [intOf]; omega
        · have hji : ¬ (j : Int) < (c0 : Int) := by omega
          have B5 := Lib.hid (B3.out.trans (HB2.out.mono B3.out.size))
          have YA5 := Lib.hid (YA3.out.call HB2.out)
          have YB5 := Lib.hid (YB3.out.call HB2.out)
          have hq : ((N2 : Int) ≤ (c0 : Int)) := by omega
          go_wp2_with (first
              | (go_at_call 17; refine (H3.out _ _ YA5.out).mono ?_; rintro e w6 ⟨⟨p6, c6, rfl, y6⟩, b6⟩; have B6 := Lib.hid (B5.out.trans (b6.mono B5.out.size)); have YA6 := Lib.hid (YA5.out.call b6); clear YA5; have YB6 := Lib.hid (YB5.out.call b6); clear YB5; have YC6 := Lib.hid y6; clear y6; clear H3)
              | (go_at_call 24; refine (H4.out _ _ _ YC6.out YA6.out).mono ?_; rintro e w7 ⟨rfl, b7⟩; have B7 := Lib.hid (B6.out.trans (b7.mono B6.out.size)); have YA7 := Lib.hid (YA6.out.call b7); clear YA6; have YB7 := Lib.hid (YB6.out.call b7); clear YB6; clear H4)
              | (go_at_call 17; refine (H5.out _ _ YA7.out).mono ?_; rintro e w8 ⟨⟨p8, c8, rfl, y8⟩, b8⟩; have B8 := Lib.hid (B7.out.trans (b8.mono B7.out.size)); have YA8 := Lib.hid (YA7.out.call b8); clear YA7; have YB8 := Lib.hid (YB7.out.call b8); clear YB7; have YD8 := Lib.hid y8; clear y8; clear H5)
              | (go_at_call 24; refine (H6.out _ _ _ YD8.out YB8.out).mono ?_; rintro e w9 ⟨rfl, b9⟩; have B9 := Lib.hid (B8.out.trans (b9.mono B8.out.size)); have YA9 := Lib.hid (YA8.out.call b9); clear YA8; have YB9 := Lib.hid (YB8.out.call b9); clear YB8; clear H6))
          all_goals (go_ret; exact ⟨by first | rfl | (simp; done) | (simp; omega), B9.out⟩)

set_option maxRecDepth 100000 in
theorem lifted (os : Os) (started : os.Started) (H : Type) (enc : TypeId × Value → H) :
    ReturnsInHanded {} Try.checked os 5 .any (Rows.holeOverSpec.pre6 enc Try.prog Try.f5 Rows.holeOverRow.domain false) (Rows.holeOverSpec.post enc Try.prog Try.f5 false true false false) := by
  refine returnsInHanded_of_change (C := Try.checked) ownKnobs started (by kernel_rfl) Try.func5
    (ChangeSpec.witness6 (enc := enc) (C := Try.checked) false ⟨#[], #[.slice none 0 0, .int .i64 0, .int .i64 0], []⟩ 8 (by kernel_rfl) (by kernel_rfl) (by kernel_rfl) (by kernel_rfl)) ?_
  intro W base args ds gs before hval0 hW _ _
  have E : Env W := trivial
  have hval : ∀ (j : Nat) t v, Try.f5.params[j]? = some t → args[j]? = some v → Value.okWide Try.prog W .any base t v := hval0
  have hW' := hW
  obtain ⟨p, q, hA0, hV, rfl, _, _⟩ := hW
  have hA : DataW.TrodAll enc Try.prog W 0 (fun _ => true) true Try.f5.params.toList args.toList ds p := hA0
  rw [Try.params5] at hA hval
  obtain ⟨v0, vs0, d0, ds0, p0, q0, hargs, rfl, rfl, r0, t0⟩ := trodAll_cons hA
  obtain ⟨v1, vs1, d1, ds1, p1, q1, rfl, rfl, rfl, r1, t1⟩ := trodAll_cons t0
  obtain ⟨v2, vs2, d2, ds2, p2, q2, rfl, rfl, rfl, r2, t2⟩ := trodAll_cons t1
  obtain ⟨rfl, rfl, rfl⟩ := trodAll_nil t2
  obtain rfl : args = #[v0, v1, v2] := by cases args; simp_all
  obtain ⟨rfl, rfl⟩ := trodVars_none hV
  obtain ⟨s0, y0⟩ := open_holes (hval 0 22 v0 rfl rfl) r0
  obtain ⟨n1, rfl, rfl, rfl, w1⟩ := open_int Try.underlying3 (hval 1 3 v1 rfl rfl) r1
  obtain ⟨n2, rfl, rfl, rfl, w2⟩ := open_int Try.underlying3 (hval 2 3 v2 rfl rfl) r2
  clear hA0 hval0
  simp only [List.append_nil] at hW'
  refine (walk v0 s0 n1 (int_wf w1).1 (int_wf w1).2 n2 (int_wf w2).1 (int_wf w2).2 W y0 E).mono fun e W' ⟨he, hb⟩ => ?_
  subst he
  have t0' := Below.trod laid_out (by kernel_rfl) (of_decide_eq_true (by kernel_rfl)) r0 hb (fun x hx => hW'.lt x (by simp [hx]))
  exact ⟨_, rfl, told hW' (fun _ _ _ => trodAll_cons_mk (shut_bool Try.underlying4 _) trodAll_mk0) (trodAll_cons_mk (t0') (trodAll_cons_mk (shut_int Try.underlying3 w1) (trodAll_cons_mk (shut_int Try.underlying3 w2) trodAll_mk0))) (fun _ => rfl) hb⟩

theorem over : Rows.holeOverRow.holds Try.pinned (OpenSpec.ofChange Rows.holeOverSpec) :=
  OpenClaim.holds_of_wide 5 Try.f5 rfl rfl rfl rfl rfl rfl rfl ⟨rfl, rfl, rfl, rfl, rfl⟩ rfl rfl rfl rfl rfl (by kernel_rfl) Try.func5 (by kernel_rfl)
    (of_decide_eq_true (by kernel_rfl)) (by unfold Func.isWrapper; first | (rw [if_pos (by decide +kernel)]; kernel_rfl) | (rw [if_neg (by decide +kernel)]; exact ⟨rfl, rfl⟩))
    (fun os started H enc _ => lifted os started H enc)

theorem proved : Rows.HoleOverSaid :=
  over
#print axioms proved
end Go.Proofs.Ytaahghjllfkmaaa.holeOver
