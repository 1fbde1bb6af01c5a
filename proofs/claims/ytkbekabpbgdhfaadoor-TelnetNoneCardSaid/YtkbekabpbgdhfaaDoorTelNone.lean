/- Proved: for every state the law TelnetNone of layer 5 answers true. Conditions: none beyond the row's own (the library's variables start as the program's text lays them: the card ties them). -/
import Derived.Test.YtkbekabpbgdhfaaDoorTelAwake

namespace Go.Proofs.YtkbekabpbgdhfaaDoor.telnetNone
open Go.Proofs.YtkbekabpbgdhfaaDoor Go.Proofs.YtkbekabpbgdhfaaDoor.Tel Go.Proofs.YtkbekabpbgdhfaaDoor
open Go.ChangeShapes Go.WideShapes Go.ChangeAt Go.RowKit Go.Sort Go.ChangeMaps

set_option linter.unusedVariables false in
set_option maxHeartbeats 2000000 in
set_option maxRecDepth 100000 in
theorem walk (n0 : Int) (l0 : -9223372036854775808 ≤ n0) (h0 : n0 ≤ 9223372036854775807) (w : World)  (E : Env w) :
    Calls Tryd.prog 7 #[.int .i64 n0] w fun e w' => e = .returned (.bool true) ∧ Below w.heap.size w w' := by
  have S1 := Lib.hid (fun W => strip_any n0 (.slice none 0 0) [] (by decide) W (.nil W))
  have S2 := Lib.hid (fun W (v : Value) (h : BytesIs W v [255]) => strip_any 0 v [255] (by decide) W h)
  have S3 := Lib.hid (fun W (v : Value) (h : BytesIs W v [255]) => strip_any 1 v [255] (by decide) W h)
  unfold StripPost at S1 S2 S3
  rw [show run (norm 0) [255] = (1, [], 0) from by decide] at S2
  rw [show run (norm 1) [255] = (0, [255], 0) from by decide] at S3
  rw [show run (norm n0) [] = (norm n0, [], 0) from rfl] at S1
  have D : (n0 < 0 ∧ norm n0 = 0) ∨ (¬ n0 < 0 ∧ 2 < n0 ∧ norm n0 = 0) ∨ (¬ n0 < 0 ∧ ¬ 2 < n0 ∧ ((norm n0 : Nat) : Int) = n0) := by
    by_cases h0 : n0 < 0
    · exact Or.inl ⟨h0, norm_out (Or.inl h0)⟩
    · by_cases h2 : 2 < n0
      · exact Or.inr (Or.inl ⟨h0, h2, norm_out (Or.inr h2)⟩)
      · exact Or.inr (Or.inr ⟨h0, h2, norm_in (by omega) (by omega)⟩)
  generalize norm n0 = m at *
  rcases D with ⟨d0, rfl⟩ | ⟨d0, d1, rfl⟩ | ⟨d0, d1, rfl⟩
  · go_enter Tryd.func7, Tryd.ntmps7
    go_wp2_with (first
      | (go_at_call 8; refine (awake_any _).mono ?_; rintro e w1 ⟨rfl, b1⟩; have B1 := Lib.hid b1; clear b1)
      | (go_at_call 9; refine (S1.out _).mono ?_; rintro e w2 ⟨x2, rfl, hx2, b2⟩; obtain ⟨p2, c2, rfl⟩ := hx2.form; have B2 := Lib.hid (below_then B1.out b2); clear b2 S1)
      | (go_at_call 9; refine (S2.out _ _ (bytes_new w2 [255] (by decide))).mono ?_; rintro e w3 ⟨x3, rfl, hx3, b3⟩; obtain ⟨p3, c3, rfl⟩ := hx3.form; have B3 := Lib.hid (below_new B2.out b3); clear b3 S2)
      | (go_at_call 9; refine (S3.out _ _ (bytes_new w3 [255] (by decide))).mono ?_; rintro e w4 ⟨x4, rfl, hx4, b4⟩; obtain ⟨p4, c4, rfl⟩ := hx4.form; have q4 : (convert 22 9 (.slice p4 1 c4)).run Tryd.prog w4 = .ok (.string ⟨#[255]⟩) w4 := str_of_bytes hx4; have B4 := Lib.hid (below_new B3.out b4); clear b4 S3))
    go_ret
    exact ⟨rfl, B4.out⟩
  · go_enter Tryd.func7, Tryd.ntmps7
    go_wp2_with (first
      | (go_at_call 8; refine (awake_any _).mono ?_; rintro e w1 ⟨rfl, b1⟩; have B1 := Lib.hid b1; clear b1)
      | (go_at_call 9; refine (S1.out _).mono ?_; rintro e w2 ⟨x2, rfl, hx2, b2⟩; obtain ⟨p2, c2, rfl⟩ := hx2.form; have B2 := Lib.hid (below_then B1.out b2); clear b2 S1)
      | (go_at_call 9; refine (S2.out _ _ (bytes_new w2 [255] (by decide))).mono ?_; rintro e w3 ⟨x3, rfl, hx3, b3⟩; obtain ⟨p3, c3, rfl⟩ := hx3.form; have B3 := Lib.hid (below_new B2.out b3); clear b3 S2)
      | (go_at_call 9; refine (S3.out _ _ (bytes_new w3 [255] (by decide))).mono ?_; rintro e w4 ⟨x4, rfl, hx4, b4⟩; obtain ⟨p4, c4, rfl⟩ := hx4.form; have q4 : (convert 22 9 (.slice p4 1 c4)).run Tryd.prog w4 = .ok (.string ⟨#[255]⟩) w4 := str_of_bytes hx4; have B4 := Lib.hid (below_new B3.out b4); clear b4 S3))
    go_ret
    exact ⟨rfl, B4.out⟩
  · go_enter Tryd.func7, Tryd.ntmps7
    go_wp2_with (first
      | (go_at_call 8; refine (awake_any _).mono ?_; rintro e w1 ⟨rfl, b1⟩; have B1 := Lib.hid b1; clear b1)
      | (go_at_call 9; refine (S1.out _).mono ?_; rintro e w2 ⟨x2, rfl, hx2, b2⟩; obtain ⟨p2, c2, rfl⟩ := hx2.form; have B2 := Lib.hid (below_then B1.out b2); clear b2 S1)
      | (go_at_call 9; refine (S2.out _ _ (bytes_new w2 [255] (by decide))).mono ?_; rintro e w3 ⟨x3, rfl, hx3, b3⟩; obtain ⟨p3, c3, rfl⟩ := hx3.form; have B3 := Lib.hid (below_new B2.out b3); clear b3 S2)
      | (go_at_call 9; refine (S3.out _ _ (bytes_new w3 [255] (by decide))).mono ?_; rintro e w4 ⟨x4, rfl, hx4, b4⟩; obtain ⟨p4, c4, rfl⟩ := hx4.form; have q4 : (convert 22 9 (.slice p4 1 c4)).run Tryd.prog w4 = .ok (.string ⟨#[255]⟩) w4 := str_of_bytes hx4; have B4 := Lib.hid (below_new B3.out b4); clear b4 S3))
    go_ret
    exact ⟨rfl, B4.out⟩

set_option maxRecDepth 100000 in
theorem lifted (os : Os) (started : os.Started) (H : Type) (enc : TypeId × Value → H) :
    ReturnsInHanded {} Tryd.checked os 7 .any (fun w args => (Rows.telnetNoneSpec.pre enc Tryd.prog Tryd.f7 [] false w args ∧ laidMetH Tryd.prog laidHere w) ∧ sizedMet enc Tryd.prog Tryd.f7 (OpenSpec.ofChange Rows.telnetNoneSpec) false w args)
      (Rows.telnetNoneSpec.post enc Tryd.prog Tryd.f7 false true false false) := by
  refine handed started (by kernel_rfl) Tryd.func7 #[.int .i64 0] (by kernel_rfl) (by kernel_rfl) (by kernel_rfl) (World.shaped_of_ZipB (by kernel_rfl) (by kernel_rfl))
    (by unfold laidHere; rw [MakeChecks.laidMetH_plain _ _ _ (by kernel_rfl)]; exact laidMet_laidAll _ (by kernel_rfl) (by kernel_rfl)) ?_
  intro W base args ds gs before hval0 hW E
  have hval : ∀ (j : Nat) t v, Tryd.f7.params[j]? = some t → args[j]? = some v → Value.okWide Tryd.prog W .any base t v := hval0
  have hW' := hW
  obtain ⟨p, q, hA0, hV, rfl, _, _⟩ := hW
  have hA : DataW.TrodAll enc Tryd.prog W 0 (fun _ => true) true Tryd.f7.params.toList args.toList ds p := hA0
  rw [Tryd.params7] at hA hval
  obtain ⟨v0, vs0, d0, ds0, p0, q0, hargs, rfl, rfl, r0, t0⟩ := trodAll_cons hA
  obtain ⟨rfl, rfl, rfl⟩ := trodAll_nil t0
  obtain rfl : args = #[v0] := by cases args; simp_all
  obtain ⟨rfl, rfl⟩ := trodVars_none hV
  obtain ⟨n0, rfl, rfl, rfl, w0⟩ := open_int Tryd.underlying3 (hval 0 3 v0 rfl rfl) r0
  clear hA0 hval0
  simp only [List.append_nil] at hW'
  refine (walk n0 (int_wf w0).1 (int_wf w0).2 W  E).mono fun e W' ⟨he, hb⟩ => ?_
  subst he
  exact ⟨_, rfl, told hW' (fun _ _ _ => trodAll_cons_mk (shut_bool Tryd.underlying4 _) trodAll_mk0) (trodAll_cons_mk (shut_int Tryd.underlying3 w0) trodAll_mk0) (fun _ => rfl) hb⟩

theorem over : Rows.TelnetNoneSaid :=
  OpenClaim.holds_of_wide 7 Tryd.f7 rfl rfl rfl rfl rfl rfl rfl ⟨rfl, rfl, rfl, rfl, rfl⟩ rfl rfl rfl rfl rfl (by kernel_rfl) Tryd.func7 (by kernel_rfl)
    (of_decide_eq_true (by kernel_rfl)) (by unfold Func.isWrapper; first | (rw [if_pos (by decide +kernel)]; kernel_rfl) | (rw [if_neg (by decide +kernel)]; exact ⟨rfl, rfl⟩))
    (fun os started H enc _ => lifted os started H enc)

theorem proved : Rows.TelnetNoneCardSaid :=
  Claim7.holds_tied_plain_at .later [] Rows.telnetNoneCard.laidKinds true Rows.telnetNoneCard.stood.harness Rows.telnetNoneCard.stood.looks
    over (fun _ h => by cases h) (by kernel_rfl) (fun _ h => by cases h) telnetNone_row_tie rfl ⟨rfl, rfl⟩ (by kernel_rfl) rfl
    (fun f fn hf hfn => by
      obtain rfl : f = 7 := Option.some.inj ((show Tryd.prog.funcNamed "wharfinger/wharfingerlaw05.TelnetNone" = some 7 by kernel_rfl).symm.trans hf) |>.symm
      obtain rfl : fn = Tryd.f7 := (Option.some.inj (Tryd.func7.symm.trans hfn)).symm
      exact ⟨by kernel_rfl, fun j t ht => by
        rw [Tryd.params7] at ht
        have hm : t ∈ [3] := by simpa using Array.mem_of_getElem? ht
        have hall : ([3].all fun u => !Tryd.prog.wantsStandIn u) = true := by kernel_rfl
        exact (show Tryd.prog.wantsStandIn t = false by simpa using List.all_eq_true.1 hall t hm)⟩)
    (by kernel_rfl)
#print axioms proved
end Go.Proofs.YtkbekabpbgdhfaaDoor.telnetNone
