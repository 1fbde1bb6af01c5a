/- Proved: for every state, all bytes and every place the law TelnetParts of layer 5 answers true. Conditions: none beyond the row's own (the library's variables start as the program's text lays them: the card ties them). -/
import Derived.Test.YtkbekabpbgdhfaaDoorTelAwake

namespace Go.Proofs.YtkbekabpbgdhfaaDoor.telnetParts
open Go.Proofs.YtkbekabpbgdhfaaDoor Go.Proofs.YtkbekabpbgdhfaaDoor.Tel Go.Proofs.YtkbekabpbgdhfaaDoor
open Go.ChangeShapes Go.WideShapes Go.ChangeAt Go.RowKit Go.Sort Go.ChangeMaps

set_option linter.unusedVariables false in
set_option maxHeartbeats 2000000 in
set_option maxRecDepth 100000 in
theorem walk (n0 : Int) (l0 : -9223372036854775808 ≤ n0) (h0 : n0 ≤ 9223372036854775807) (u1 : Value) (s1 : List UInt8) (n2 : Int) (l2 : -9223372036854775808 ≤ n2) (h2 : n2 ≤ 9223372036854775807) (w : World) (y1 : BytesIs w u1 s1) (E : Env w) :
    Calls Tryd.prog 4 #[.int .i64 n0, u1, .int .i64 n2] w fun e w' => e = .returned (.bool true) ∧ Below w.heap.size w w' := by
  by_cases hlen : 500 < s1.length
  · obtain ⟨pb, cb, rfl⟩ := y1.form
    have hl' : (500 : Int) < (s1.length : Int) := by omega
    clear y1
    go_enter Tryd.func4, Tryd.ntmps4
    go_wp2_with (go_at_call 8; refine (awake_any _).mono ?_; rintro e w1 ⟨rfl, b1⟩)
    go_ret
    exact ⟨rfl, b1⟩
  have hl0 : ¬ (500 : Int) < (s1.length : Int) := by omega
  by_cases hneg : n2 < 0
  · obtain ⟨pb, cb, rfl⟩ := y1.form
    clear y1
    go_enter Tryd.func4, Tryd.ntmps4
    go_wp2_with (go_at_call 8; refine (awake_any _).mono ?_; rintro e w1 ⟨rfl, b1⟩)
    go_ret
    exact ⟨rfl, b1⟩
  by_cases hover : (s1.length : Int) < n2
  · obtain ⟨pb, cb, rfl⟩ := y1.form
    clear y1
    go_enter Tryd.func4, Tryd.ntmps4
    go_wp2_with (go_at_call 8; refine (awake_any _).mono ?_; rintro e w1 ⟨rfl, b1⟩)
    go_ret
    exact ⟨rfl, b1⟩
  obtain ⟨at0, rfl⟩ : ∃ k : Nat, n2 = (k : Int) := ⟨n2.toNat, by omega⟩
  obtain ⟨ua, hsa, ya⟩ := slice_h y1 at0 (by omega)
  obtain ⟨ub, hsb, yb⟩ := slice_l y1 at0 (by omega)
  have S1 := Lib.hid (fun W (h : BytesIs W u1 s1) => strip_any n0 u1 s1 (by omega) W h)
  have S2 := Lib.hid (fun W (h : BytesIs W ua (s1.take at0)) => strip_any n0 ua (s1.take at0) (by rw [List.length_take]; omega) W h)
  have S3 := Lib.hid (fun W (h : BytesIs W ub (s1.drop at0)) => strip_any ((run (norm n0) (s1.take at0)).1 : Int) ub (s1.drop at0) (by rw [List.length_drop]; omega) W h)
  have hr := run_append (norm n0) (s1.take at0) (s1.drop at0)
  rw [List.take_append_drop] at hr
  have hle := run_le (s1.take at0) (norm_le n0)
  have hle2 := run_le (s1.drop at0) hle
  have hsh := run_short (norm n0) (s1.take at0)
  have hsh2 := run_short (run (norm n0) (s1.take at0)).1 (s1.drop at0)
  simp only [List.length_take, List.length_drop] at hsh hsh2
  unfold StripPost at S1 S2 S3
  rw [norm_nat hle] at S3
  rw [hr] at S1
  clear hr
  have YA := Lib.hid ya
  have YB := Lib.hid yb
  have Y1 := Lib.hid y1
  obtain ⟨pb, cb, rfl⟩ := y1.form
  clear ya yb y1
  generalize run (norm n0) (s1.take at0) = R1 at *
  obtain ⟨t1, z1, m1⟩ := R1
  simp only at S1 S2 S3 hle hle2 hsh hsh2
  generalize run t1 (s1.drop at0) = R2 at *
  obtain ⟨t2, z2, m2⟩ := R2
  simp only at S1 S2 S3 hle hle2 hsh hsh2
  have g0 : (0 : Int) ≤ (t2 : Int) := by omega
  have g2 : (t2 : Int) ≤ 2 := by omega
  have hm : ¬ 9223372036854775807 < (m1 : Int) + (m2 : Int) := by omega
  have hz : ¬ 9223372036854775807 < z1.length + z2.length := by omega
  have happ := app_list z1 z2
  have hwm : IntKind.i64.wrap ((m1 : Int) + (m2 : Int)) = (m1 : Int) + (m2 : Int) := IntWalk.i64_in _ (by omega)
  go_enter Tryd.func4, Tryd.ntmps4
  go_wp2_with (first
    | (go_at_call 8; refine (awake_any _).mono ?_; rintro e w1 ⟨rfl, b1⟩; have B1 := Lib.hid b1; clear b1)
    | (go_at_call 9; refine (S1.out _ (Y1.out.call B1.out)).mono ?_; rintro e w2 ⟨x2, rfl, hx2, b2⟩; obtain ⟨p2, c2, rfl⟩ := hx2.form; have B2 := Lib.hid (below_then B1.out b2); clear b2 S1)
    | (go_at_call 9; refine (S2.out _ (YA.out.call B2.out)).mono ?_; rintro e w3 ⟨x3, rfl, hx3, b3⟩; obtain ⟨p3, c3, rfl⟩ := hx3.form; have B3 := Lib.hid (below_then B2.out b3); have X2 := Lib.hid (hx2.call b3); clear b3 S2 hx2)
    | (go_at_call 9; refine (S3.out _ (YB.out.call B3.out)).mono ?_; rintro e w4 ⟨x4, rfl, hx4, b4⟩; obtain ⟨p4, c4, rfl⟩ := hx4.form; have q2 := str_of_bytes (X2.out.call b4); rw [List.length_append] at q2; have q3 := str_of_bytes (hx3.call b4); have q4 := str_of_bytes hx4; have B4 := Lib.hid (below_then B3.out b4); clear b4 S3 hx3 hx4 X2))
  all_goals (go_ret; exact ⟨by first | rfl | simp, B4.out⟩)

set_option maxRecDepth 100000 in
theorem lifted (os : Os) (started : os.Started) (H : Type) (enc : TypeId × Value → H) :
    ReturnsInHanded {} Tryd.checked os 4 .any (fun w args => (Rows.telnetPartsSpec.pre enc Tryd.prog Tryd.f4 [] false w args ∧ laidMetH Tryd.prog laidHere w) ∧ sizedMet enc Tryd.prog Tryd.f4 (OpenSpec.ofChange Rows.telnetPartsSpec) false w args)
      (Rows.telnetPartsSpec.post enc Tryd.prog Tryd.f4 false true false false) := by
  refine handed started (by kernel_rfl) Tryd.func4 #[.int .i64 0, .slice none 0 0, .int .i64 0] (by kernel_rfl) (by kernel_rfl) (by kernel_rfl) (World.shaped_of_ZipB (by kernel_rfl) (by kernel_rfl))
    (by unfold laidHere; rw [MakeChecks.laidMetH_plain _ _ _ (by kernel_rfl)]; exact laidMet_laidAll _ (by kernel_rfl) (by kernel_rfl)) ?_
  intro W base args ds gs before hval0 hW E
  have hval : ∀ (j : Nat) t v, Tryd.f4.params[j]? = some t → args[j]? = some v → Value.okWide Tryd.prog W .any base t v := hval0
  have hW' := hW
  obtain ⟨p, q, hA0, hV, rfl, _, _⟩ := hW
  have hA : DataW.TrodAll enc Tryd.prog W 0 (fun _ => true) true Tryd.f4.params.toList args.toList ds p := hA0
  rw [Tryd.params4] at hA hval
  obtain ⟨v0, vs0, d0, ds0, p0, q0, hargs, rfl, rfl, r0, t0⟩ := trodAll_cons hA
  obtain ⟨v1, vs1, d1, ds1, p1, q1, rfl, rfl, rfl, r1, t1⟩ := trodAll_cons t0
  obtain ⟨v2, vs2, d2, ds2, p2, q2, rfl, rfl, rfl, r2, t2⟩ := trodAll_cons t1
  obtain ⟨rfl, rfl, rfl⟩ := trodAll_nil t2
  obtain rfl : args = #[v0, v1, v2] := by cases args; simp_all
  obtain ⟨rfl, rfl⟩ := trodVars_none hV
  obtain ⟨n0, rfl, rfl, rfl, w0⟩ := open_int Tryd.underlying3 (hval 0 3 v0 rfl rfl) r0
  obtain ⟨s1, y1, k1⟩ := open_bytes (hval 1 22 v1 rfl rfl) r1
  obtain ⟨n2, rfl, rfl, rfl, w2⟩ := open_int Tryd.underlying3 (hval 2 3 v2 rfl rfl) r2
  clear hA0 hval0
  simp only [List.append_nil] at hW'
  refine (walk n0 (int_wf w0).1 (int_wf w0).2 v1 s1 n2 (int_wf w2).1 (int_wf w2).2 W y1 E).mono fun e W' ⟨he, hb⟩ => ?_
  subst he
  obtain ⟨pa1, z1⟩ := k1 W' hb
  exact ⟨_, rfl, told hW' (fun _ _ _ => trodAll_cons_mk (shut_bool Tryd.underlying4 _) trodAll_mk0) (trodAll_cons_mk (shut_int Tryd.underlying3 w0) (trodAll_cons_mk (z1) (trodAll_cons_mk (shut_int Tryd.underlying3 w2) trodAll_mk0))) (fun _ => rfl) hb⟩

theorem over : Rows.TelnetPartsSaid :=
  OpenClaim.holds_of_wide 4 Tryd.f4 rfl rfl rfl rfl rfl rfl rfl ⟨rfl, rfl, rfl, rfl, rfl⟩ rfl rfl rfl rfl rfl (by kernel_rfl) Tryd.func4 (by kernel_rfl)
    (of_decide_eq_true (by kernel_rfl)) (by unfold Func.isWrapper; first | (rw [if_pos (by decide +kernel)]; kernel_rfl) | (rw [if_neg (by decide +kernel)]; exact ⟨rfl, rfl⟩))
    (fun os started H enc _ => lifted os started H enc)

theorem proved : Rows.TelnetPartsCardSaid :=
  Claim7.holds_tied_plain_at .later [] Rows.telnetPartsCard.laidKinds true Rows.telnetPartsCard.stood.harness Rows.telnetPartsCard.stood.looks
    over (fun _ h => by cases h) (by kernel_rfl) (fun _ h => by cases h) telnetParts_row_tie rfl ⟨rfl, rfl⟩ (by kernel_rfl) rfl
    (fun f fn hf hfn => by
      obtain rfl : f = 4 := Option.some.inj ((show Tryd.prog.funcNamed "wharfinger/wharfingerlaw05.TelnetParts" = some 4 by kernel_rfl).symm.trans hf) |>.symm
      obtain rfl : fn = Tryd.f4 := (Option.some.inj (Tryd.func4.symm.trans hfn)).symm
      exact ⟨by kernel_rfl, fun j t ht => by
        rw [Tryd.params4] at ht
        have hm : t ∈ [3, 22, 3] := by simpa using Array.mem_of_getElem? ht
        have hall : ([3, 22, 3].all fun u => !Tryd.prog.wantsStandIn u) = true := by kernel_rfl
        exact (show Tryd.prog.wantsStandIn t = false by simpa using List.all_eq_true.1 hall t hm)⟩)
    (by kernel_rfl)
#print axioms proved
end Go.Proofs.YtkbekabpbgdhfaaDoor.telnetParts
