/- Proved: for every tenants, user and host (held against 10 tenants): who logs in is told ahead of the last @, and the tenant is the first one of the host behind it. Conditions: none beyond the row's own (the library's variables start as the program's text lays them: the card ties them). -/
import Derived.Test.YtkkajbnonfnbjaaLoginAwake
import Derived.BigQuiet
import Derived.Deep.QuietTactic
import Derived.Lib.QuietBelow

namespace Go.Proofs.Ytkkajbnonfnbjaa.loginWhom
open Go.Proofs.Ytkkajbnonfnbjaa Go.Proofs.Ytkkajbnonfnbjaa.Lo Go.Proofs.Ytkkajbnonfnbjaa.Ro Go.Sort
open Go.ChangeShapes Go.WideShapes Go.ChangeAt Go.RowKit Go.Sort Go.ChangeMaps
set_option linter.unusedSimpArgs false
set_option linter.unusedVariables false
set_option linter.unusedVariables false in
set_option maxHeartbeats 16000000 in
set_option maxRecDepth 100000 in
theorem walk (u0 : Value) (s0 : List (List UInt8)) (s1 : List UInt8) (z1 : s1.length ≤ 9223372036854775807) (s2 : List UInt8) (z2 : s2.length ≤ 9223372036854775807) (w : World) (y0 : HostsIs w u0 s0) (E : Env w) :
    Calls Try.prog 6 #[u0, str s1, str s2] w fun e w' => e = .returned (.bool true) ∧ Below w.heap.size w w' := by
  have AWK := Lib.hid (fun W EW => awake_any W EW)
  have B0 := Lib.hid (Below.refl w.heap.size w)
  obtain ⟨p, n, c, rfl, hn⟩ := y0.form
  have HN := Lib.hid hn
  have YL0 := Lib.hid y0
  clear hn y0
  by_cases g1 : 10 < n
  · have g1' : (10 : Int) < (n : Int) := by omega
    go_enter Try.func6, Try.ntmps6
    go_wp2_with (first
        | (go_at_call 10; refine (AWK.out _ (E.below (B0.out))).mono ?_; rintro e w1 ⟨rfl, b1⟩; have B1 := Lib.hid (B0.out.trans (b1.mono B0.out.size)); have YL1 := Lib.hid (YL0.out.call b1); clear YL0))
    all_goals (go_ret; exact ⟨by first | rfl | (simp; done) | (simp; omega), B1.out⟩)
  have g1' : ¬ (10 : Int) < (n : Int) := by omega
  cases hu : userB s1 with
  | false =>
    have HU := Lib.hid (fun W => user_all s1 z1 false hu W)
    clear hu
    go_enter Try.func6, Try.ntmps6
    go_wp2_with (first
        | (go_at_call 10; refine (AWK.out _ (E.below (B0.out))).mono ?_; rintro e w1 ⟨rfl, b1⟩; have B1 := Lib.hid (B0.out.trans (b1.mono B0.out.size)); have YL1 := Lib.hid (YL0.out.call b1); clear YL0)
        | (go_at_call 23; refine (HU.out _).mono ?_; rintro e w2 ⟨rfl, b2⟩; have B2 := Lib.hid (B1.out.trans (b2.mono B1.out.size)); have YL2 := Lib.hid (YL1.out.call b2); clear YL1; clear HU))
    all_goals (go_ret; exact ⟨by first | rfl | (simp; done) | (simp; omega), B2.out⟩)
  | true =>
    have HU := Lib.hid (fun W => user_all s1 z1 true hu W)
    cases hm : nameB s2 with
    | false =>
      have HM := Lib.hid (fun W => name_all s2 z2 false hm W)
      clear hu hm
      go_enter Try.func6, Try.ntmps6
      go_wp2_with (first
          | (go_at_call 10; refine (AWK.out _ (E.below (B0.out))).mono ?_; rintro e w1 ⟨rfl, b1⟩; have B1 := Lib.hid (B0.out.trans (b1.mono B0.out.size)); have YL1 := Lib.hid (YL0.out.call b1); clear YL0)
          | (go_at_call 23; refine (HU.out _).mono ?_; rintro e w2 ⟨rfl, b2⟩; have B2 := Lib.hid (B1.out.trans (b2.mono B1.out.size)); have YL2 := Lib.hid (YL1.out.call b2); clear YL1; clear HU)
          | (go_at_call 24; refine (HM.out _).mono ?_; rintro e w3 ⟨rfl, b3⟩; have B3 := Lib.hid (B2.out.trans (b3.mono B2.out.size)); have YL3 := Lib.hid (YL2.out.call b3); clear YL2; clear HM))
      all_goals (go_ret; exact ⟨by first | rfl | (simp; done) | (simp; omega), B3.out⟩)
    | true =>
      have HM := Lib.hid (fun W => name_all s2 z2 true hm W)
      have b1 : s1.length ≤ 60 := by
        unfold userB at hu
        simp only [Bool.and_eq_true, decide_eq_true_eq] at hu
        exact hu.2.2.2
      have b2 : s2.length ≤ 60 := by
        unfold nameB at hm
        simp only [Bool.and_eq_true, decide_eq_true_eq] at hm
        exact hm.2.2
      obtain ⟨q1, hq1⟩ : ∃ q, q = s1 ++ [(64 : UInt8)] := ⟨_, rfl⟩
      obtain ⟨q2, hq2⟩ : ∃ q, q = q1 ++ s2 := ⟨_, rfl⟩
      have hx1 : ByteArray.mk s1.toArray ++ ByteArray.mk #[64] = ⟨q1.toArray⟩ := by rw [hq1]; apply ByteArray.ext; simp [ByteArray.data_append]
      have hx2 : ByteArray.mk q1.toArray ++ ByteArray.mk s2.toArray = ⟨q2.toArray⟩ := by rw [hq2]; apply ByteArray.ext; simp [ByteArray.data_append]
      have l1 : q1.length = s1.length + 1 := by rw [hq1, List.length_append]; rfl
      have l2 : q2.length = q1.length + s2.length := by rw [hq2, List.length_append]
      have nn1 : ¬ 9223372036854775807 < s1.length + 1 := by omega
      have nn2 : ¬ 9223372036854775807 < q1.length + s2.length := by omega
      have LQ2 : Hid (q2.length ≤ 1000) := Lib.hid (by omega)
      have e4 : q2 = s1 ++ 64 :: s2 := by rw [hq2, hq1, List.append_assoc]; rfl
      have hsp : splitR q2 = (s1, s2, true) := by rw [e4]; exact split_fine hu hm
      clear l1 l2 hq1 hq2 e4 hu hm b1 b2
      have HF := Lib.hid (fun W HR => find_any (.slice p n c) s0 s2 W HR)
      by_cases gf : findH s0 s2 < 0
      · have e := user_none (l := ⟨0, -1, []⟩) rfl hsp gf
        have HA := Lib.hid (fun W HR => user_of ⟨0, -1, []⟩ ⟨0, -1, []⟩ (.slice p n c) s0 q2 (by have := LQ2.out; omega) 3 e W HR)
        clear e hsp
        generalize findH s0 s2 = z at *
        have heq : ∀ W, (Op.equalIn 10000 23 (.agg #[.int .i64 0, .int .i64 (-1), .string ⟨#[]⟩]) (.agg #[.int .i64 0, .int .i64 (-1), .string ⟨#[]⟩])).run Try.prog W = .ok true W := fun W => by
          have := equal_logins ⟨0, -1, []⟩ ⟨0, -1, []⟩ W
          rw [eqL_self] at this
          exact this
        go_enter Try.func6, Try.ntmps6
        go_wp2_with (first
            | (go_at_call 10; refine (AWK.out _ (E.below (B0.out))).mono ?_; rintro e w1 ⟨rfl, b1⟩; have B1 := Lib.hid (B0.out.trans (b1.mono B0.out.size)); have YL1 := Lib.hid (YL0.out.call b1); clear YL0)
            | (go_at_call 23; refine (HU.out _).mono ?_; rintro e w2 ⟨rfl, b2⟩; have B2 := Lib.hid (B1.out.trans (b2.mono B1.out.size)); have YL2 := Lib.hid (YL1.out.call b2); clear YL1; clear HU)
            | (go_at_call 24; refine (HM.out _).mono ?_; rintro e w3 ⟨rfl, b3⟩; have B3 := Lib.hid (B2.out.trans (b3.mono B2.out.size)); have YL3 := Lib.hid (YL2.out.call b3); clear YL2; clear HM)
            | (go_at_call 21; refine (new_any _).mono ?_; rintro e w4 ⟨rfl, b4⟩; have B4 := Lib.hid (B3.out.trans (b4.mono B3.out.size)); have YL4 := Lib.hid (YL3.out.call b4); clear YL3)
            | (go_at_call 11; refine (HA.out _ YL4.out).mono ?_; rintro e w5 ⟨rfl, b5⟩; have B5 := Lib.hid (B4.out.trans (b5.mono B4.out.size)); have YL5 := Lib.hid (YL4.out.call b5); clear YL4; clear HA)
            | (go_at_call 25; refine (HF.out _ (YL5.out.alloc (.cells #[.int .i64 0, .int .i64 (-1), .string ⟨#[]⟩] 23))).mono ?_; rintro e w6 ⟨rfl, b6⟩; have B6 := Lib.hid (((B5.out).alloc B5.out.size (.cells #[.int .i64 0, .int .i64 (-1), .string ⟨#[]⟩] 23)).trans (b6.mono (by have := B5.out.size; simp <;> omega))); have AB6 := Lib.hid ((IsRow.made w5 23 #[.int .i64 0, .int .i64 (-1), .string ⟨#[]⟩]).call b6); have ABc0 : w6.cell? ⟨w5.heap.size, 0, none⟩ = some (.int .i64 0) := AB6.out.cell 0; have ABc1 : w6.cell? ⟨w5.heap.size, 1, none⟩ = some (.int .i64 (-1)) := AB6.out.cell 1; have ABc2 : w6.cell? ⟨w5.heap.size, 2, none⟩ = some (.string ⟨#[]⟩) := AB6.out.cell 2; have ABlt : w5.heap.size < w6.heap.size := AB6.out.lt; have YL6 := Lib.hid ((YL5.out.alloc (.cells #[.int .i64 0, .int .i64 (-1), .string ⟨#[]⟩] 23)).call b6); clear YL5; clear HF))
        have R6 := AB6.out
        clear ABc0 ABc1 ABc2 ABlt
        have k0 := cell_regrown (show w6.cell? ⟨w5.heap.size, 0, none⟩ = some (.int .i64 0) from R6.cell 0)
        have k1 := cell_regrown (show w6.cell? ⟨w5.heap.size, 1, none⟩ = some (.int .i64 (-1)) from R6.cell 1)
        have k2 := cell_regrown (show w6.cell? ⟨w5.heap.size, 2, none⟩ = some (.string ⟨#[]⟩) from R6.cell 2)
        have KN := Lib.hid (show ∀ dd os, Calls Try.prog 21 #[] (grow (redrawn w6 dd) os) fun e w'' => e = .returned (.agg #[.int .i64 0, .int .i64 (-1), .string ⟨#[]⟩]) ∧ ∃ p : Regrown, w'' = grow (redrawn w6 p.d) p.os from fun dd os => Calls.regrown_of (new_any _))
        refine wp_region_quiet_below (by kernel_rfl) (by kernel_rfl) ?_
        repeat (go_big_quiet_step (first | with_reducible exact KN.out _ _))
        refine wpQuiet_nil ?_
        intro _ hw'
        obtain ⟨⟨dq, osq⟩, hw''⟩ := hw'
        subst hw''
        go_wp2_with fail
        go_ret
        exact ⟨by first | rfl | (simp; done) | (simp; omega), B6.out.trans ((below_regrown w6 dq osq).mono B6.out.size)⟩
      · have e := user_fine (l := ⟨0, -1, []⟩) rfl hsp gf
        have HA := Lib.hid (fun W HR => user_of ⟨0, -1, []⟩ ⟨1, findH s0 s2, s1⟩ (.slice p n c) s0 q2 (by have := LQ2.out; omega) 0 e W HR)
        clear e hsp
        generalize findH s0 s2 = z at *
        have hz : (z == z) = true := by simp
        have hs : (s1 == s1) = true := by simp
        go_enter Try.func6, Try.ntmps6
        go_wp2_with (first
            | (go_at_call 10; refine (AWK.out _ (E.below (B0.out))).mono ?_; rintro e w1 ⟨rfl, b1⟩; have B1 := Lib.hid (B0.out.trans (b1.mono B0.out.size)); have YL1 := Lib.hid (YL0.out.call b1); clear YL0)
            | (go_at_call 23; refine (HU.out _).mono ?_; rintro e w2 ⟨rfl, b2⟩; have B2 := Lib.hid (B1.out.trans (b2.mono B1.out.size)); have YL2 := Lib.hid (YL1.out.call b2); clear YL1; clear HU)
            | (go_at_call 24; refine (HM.out _).mono ?_; rintro e w3 ⟨rfl, b3⟩; have B3 := Lib.hid (B2.out.trans (b3.mono B2.out.size)); have YL3 := Lib.hid (YL2.out.call b3); clear YL2; clear HM)
            | (go_at_call 21; refine (new_any _).mono ?_; rintro e w4 ⟨rfl, b4⟩; have B4 := Lib.hid (B3.out.trans (b4.mono B3.out.size)); have YL4 := Lib.hid (YL3.out.call b4); clear YL3)
            | (go_at_call 11; refine (HA.out _ YL4.out).mono ?_; rintro e w5 ⟨rfl, b5⟩; have B5 := Lib.hid (B4.out.trans (b5.mono B4.out.size)); have YL5 := Lib.hid (YL4.out.call b5); clear YL4; clear HA)
            | (go_at_call 25; refine (HF.out _ (YL5.out.alloc (.cells #[.int .i64 1, .int .i64 z, .string ⟨s1.toArray⟩] 23))).mono ?_; rintro e w6 ⟨rfl, b6⟩; have B6 := Lib.hid (((B5.out).alloc B5.out.size (.cells #[.int .i64 1, .int .i64 z, .string ⟨s1.toArray⟩] 23)).trans (b6.mono (by have := B5.out.size; simp <;> omega))); have AB6 := Lib.hid ((IsRow.made w5 23 #[.int .i64 1, .int .i64 z, .string ⟨s1.toArray⟩]).call b6); have ABc0 : w6.cell? ⟨w5.heap.size, 0, none⟩ = some (.int .i64 1) := AB6.out.cell 0; have ABc1 : w6.cell? ⟨w5.heap.size, 1, none⟩ = some (.int .i64 z) := AB6.out.cell 1; have ABc2 : w6.cell? ⟨w5.heap.size, 2, none⟩ = some (.string ⟨s1.toArray⟩) := AB6.out.cell 2; have ABlt : w5.heap.size < w6.heap.size := AB6.out.lt; have YL6 := Lib.hid ((YL5.out.alloc (.cells #[.int .i64 1, .int .i64 z, .string ⟨s1.toArray⟩] 23)).call b6); clear YL5; clear HF))
        all_goals (go_ret; exact ⟨by first | rfl | (simp; done) | (simp; omega), B6.out⟩)

set_option maxRecDepth 100000 in
theorem lifted (os : Os) (started : os.Started) (H : Type) (enc : TypeId × Value → H) :
    ReturnsInHanded {} Try.checked os 6 .any (Rows.loginWhomSpec.pre6 enc Try.prog Try.f6 Rows.loginWhomRow.domain false) (Rows.loginWhomSpec.post enc Try.prog Try.f6 false true false false) := by
  refine returnsInHanded_of_change (C := Try.checked) ownKnobs started (by kernel_rfl) Try.func6
    (ChangeSpec.witness6 (enc := enc) (C := Try.checked) false ⟨#[], #[.slice none 0 0, .string ⟨#[]⟩, .string ⟨#[]⟩], []⟩ 8 (by kernel_rfl) (by kernel_rfl) (by kernel_rfl) (by kernel_rfl)) ?_
  intro W base args ds gs before hval0 hW _ _
  have E : Env W := trivial
  have hval : ∀ (j : Nat) t v, Try.f6.params[j]? = some t → args[j]? = some v → Value.okWide Try.prog W .any base t v := hval0
  have hW' := hW
  obtain ⟨p, q, hA0, hV, rfl, _, _⟩ := hW
  have hA : DataW.TrodAll enc Try.prog W 0 (fun _ => true) true Try.f6.params.toList args.toList ds p := hA0
  rw [Try.params6] at hA hval
  obtain ⟨v0, vs0, d0, ds0, p0, q0, hargs, rfl, rfl, r0, t0⟩ := trodAll_cons hA
  obtain ⟨v1, vs1, d1, ds1, p1, q1, rfl, rfl, rfl, r1, t1⟩ := trodAll_cons t0
  obtain ⟨v2, vs2, d2, ds2, p2, q2, rfl, rfl, rfl, r2, t2⟩ := trodAll_cons t1
  obtain ⟨rfl, rfl, rfl⟩ := trodAll_nil t2
  obtain rfl : args = #[v0, v1, v2] := by cases args; simp_all
  obtain ⟨rfl, rfl⟩ := trodVars_none hV
  obtain ⟨s0, y0⟩ := open_hosts (hval 0 24 v0 rfl rfl) r0
  obtain ⟨x1, rfl, rfl, rfl, w1⟩ := open_string Try.underlying9 (hval 1 9 v1 rfl rfl) r1
  obtain ⟨s1, rfl⟩ : ∃ l : List UInt8, x1 = ⟨l.toArray⟩ := ⟨x1.data.toList, by simp⟩
  obtain ⟨x2, rfl, rfl, rfl, w2⟩ := open_string Try.underlying9 (hval 2 9 v2 rfl rfl) r2
  obtain ⟨s2, rfl⟩ : ∃ l : List UInt8, x2 = ⟨l.toArray⟩ := ⟨x2.data.toList, by simp⟩
  clear hA0 hval0
  simp only [List.append_nil] at hW'
  refine (walk v0 s0 s1 (by have := w1; rw [size_mk] at this; unfold maxLen at this; exact this) s2 (by have := w2; rw [size_mk] at this; unfold maxLen at this; exact this) W y0 E).mono fun e W' ⟨he, hb⟩ => ?_
  subst he
  have t0' := Below.trod laid_out (by kernel_rfl) (of_decide_eq_true (by kernel_rfl)) r0 hb (fun x hx => hW'.lt x (by simp [hx]))
  exact ⟨_, rfl, told hW' (fun _ _ _ => trodAll_cons_mk (shut_bool Try.underlying4 _) trodAll_mk0) (trodAll_cons_mk (t0') (trodAll_cons_mk (shut_string Try.underlying9 w1) (trodAll_cons_mk (shut_string Try.underlying9 w2) trodAll_mk0))) (fun _ => rfl) hb⟩

theorem over : Rows.loginWhomRow.holds Try.pinned (OpenSpec.ofChange Rows.loginWhomSpec) :=
  OpenClaim.holds_of_wide 6 Try.f6 rfl rfl rfl rfl rfl rfl rfl ⟨rfl, rfl, rfl, rfl, rfl⟩ rfl rfl rfl rfl rfl (by kernel_rfl) Try.func6 (by kernel_rfl)
    (of_decide_eq_true (by kernel_rfl)) (by unfold Func.isWrapper; first | (rw [if_pos (by decide +kernel)]; kernel_rfl) | (rw [if_neg (by decide +kernel)]; exact ⟨rfl, rfl⟩))
    (fun os started H enc _ => lifted os started H enc)

theorem proved : Rows.LoginWhomSaid :=
  over
#print axioms proved
end Go.Proofs.Ytkkajbnonfnbjaa.loginWhom
