/- Proved: for every state and all bytes the law TelnetStrips of layer 5 answers true: package telnet answers as the document does. Conditions: none beyond the row's own (the library's variables start as the program's text lays them: the card ties them). -/
import Derived.Test.YtkbekabpbgdhfaaDoorTelAwake
import Derived.Test.YtkbekabpbgdhfaaDoorTelRef
import Derived.Deep.RegionHeld

namespace Go.Proofs.YtkbekabpbgdhfaaDoor.telnetStrips
open Go.Proofs.YtkbekabpbgdhfaaDoor Go.Proofs.YtkbekabpbgdhfaaDoor.Tel Go.Proofs.YtkbekabpbgdhfaaDoor
open Go.ChangeShapes Go.WideShapes Go.ChangeAt Go.RowKit Go.Sort Go.ChangeMaps

set_option linter.unusedVariables false in
set_option maxHeartbeats 2000000 in
set_option maxRecDepth 100000 in
theorem walk (n0 : Int) (l0 : -9223372036854775808 ≤ n0) (h0 : n0 ≤ 9223372036854775807) (u1 : Value) (s1 : List UInt8) (w : World) (y1 : BytesIs w u1 s1) (E : Env w) :
    Calls Tryd.prog 3 #[.int .i64 n0, u1] w fun e w' => e = .returned (.bool true) ∧ Below w.heap.size w w' := by
  by_cases hlen : 500 < s1.length
  · obtain ⟨pb, cb, rfl⟩ := y1.form
    have hl' : (500 : Int) < (s1.length : Int) := by omega
    clear y1
    go_enter Tryd.func3, Tryd.ntmps3
    go_wp2_with (go_at_call 8; refine (awake_any _).mono ?_; rintro e w1 ⟨rfl, b1⟩)
    go_ret
    exact ⟨rfl, b1⟩
  have hl0 : ¬ (500 : Int) < (s1.length : Int) := by omega
  have S1 := Lib.hid (fun W (h : BytesIs W u1 s1) => strip_any n0 u1 s1 (by omega) W h)
  have S2 := Lib.hid (fun W (h : BytesIs W u1 s1) => rstrip_any n0 u1 s1 (by omega) W h)
  have S3 := Lib.hid (fun W (h : BytesIs W u1 s1) => escape_any u1 s1 (by omega) W h)
  have S4 := Lib.hid (fun W (h : BytesIs W u1 s1) => rescape_any u1 s1 (by omega) W h)
  unfold StripPost at S1 S2
  unfold EscPost at S3 S4
  generalize run (norm n0) s1 = R at *
  obtain ⟨t, z, m⟩ := R
  simp only at S1 S2
  generalize esc s1 = g at *
  have Y1 := Lib.hid y1
  obtain ⟨pb, cb, rfl⟩ := y1.form
  clear y1
  go_enter Tryd.func3, Tryd.ntmps3
  go_wp2_with (first
    | (go_at_call 8; refine (awake_any _).mono ?_; rintro e w1 ⟨rfl, b1⟩; have B1 := Lib.hid b1; clear b1)
    | (go_at_call 9; refine (S1.out _ (Y1.out.call B1.out)).mono ?_; rintro e w2 ⟨x2, rfl, hx2, b2⟩; obtain ⟨p2, c2, rfl⟩ := hx2.form; have B2 := Lib.hid (below_then B1.out b2); clear b2 S1)
    | (go_at_call 10; refine (S2.out _ (Y1.out.call B2.out)).mono ?_; rintro e w3 ⟨x3, rfl, hx3, b3⟩; obtain ⟨p3, c3, rfl⟩ := hx3.form; have B3 := Lib.hid (below_then B2.out b3); have X2 := Lib.hid (hx2.call b3); have X3 := Lib.hid hx3; clear b3 S2 hx2 hx3))
  have K3 : (convert 22 9 (.slice p2 z.length c2)).run Tryd.prog w3.drew = .ok (.string ⟨z.toArray⟩) w3.drew ∧ (convert 22 9 (.slice p3 z.length c3)).run Tryd.prog w3.drew = .ok (.string ⟨z.toArray⟩) w3.drew := ⟨str_of_bytes X2.out, str_of_bytes X3.out⟩
  have B3d : Hid (Below w.heap.size w w3.drew) := Lib.hid B3.out.drew
  have D2 : Hid (BytesIs w3.drew (.slice p2 z.length c2) z) := Lib.hid X2.out
  have D3 : Hid (BytesIs w3.drew (.slice p3 z.length c3) z) := Lib.hid X3.out
  clear X2 X3 B1 B2 B3
  go_region_held (fun w' => (convert 22 9 (.slice p2 z.length c2)).run Tryd.prog w' = .ok (.string ⟨z.toArray⟩) w' ∧ (convert 22 9 (.slice p3 z.length c3)).run Tryd.prog w' = .ok (.string ⟨z.toArray⟩) w')
    (first | exact K3 | exact K4 | exact K5)
    (first
    | (go_at_call 11; refine (S3.out _ (Y1.out.call B3d.out)).mono ?_; rintro e w4 ⟨x4, rfl, hx4, b4⟩; obtain ⟨p4, c4, rfl⟩ := hx4.form; have q4 := str_of_bytes hx4; have B4 := Lib.hid (below_then B3d.out b4); have E2 := Lib.hid (D2.out.call b4); have E3 := Lib.hid (D3.out.call b4); have K4 := And.intro (str_of_bytes E2.out) (str_of_bytes E3.out); have X4 := Lib.hid hx4; clear b4 S3 hx4 K3 D2 D3)
    | (go_at_call 12; refine (S4.out _ (Y1.out.call B4.out)).mono ?_; rintro e w5 ⟨x5, rfl, hx5, b5⟩; obtain ⟨p5, c5, rfl⟩ := hx5.form; have q5 := str_of_bytes hx5; have q6 := str_of_bytes (X4.out.call b5); have B5 := Lib.hid (below_then B4.out b5); have K5 := And.intro (str_of_bytes (E2.out.call b5)) (str_of_bytes (E3.out.call b5)); clear b5 S4 hx5 X4 q4 K4 E2 E3))
  all_goals (go_wp2_with fail)
  all_goals (go_ret; exact ⟨by first | rfl | simp, B5.out⟩)

set_option maxRecDepth 100000 in
theorem lifted (os : Os) (started : os.Started) (H : Type) (enc : TypeId × Value → H) :
    ReturnsInHanded {} Tryd.checked os 3 .any (fun w args => (Rows.telnetStripsSpec.pre enc Tryd.prog Tryd.f3 [] false w args ∧ laidMetH Tryd.prog laidHere w) ∧ sizedMet enc Tryd.prog Tryd.f3 (OpenSpec.ofChange Rows.telnetStripsSpec) false w args)
      (Rows.telnetStripsSpec.post enc Tryd.prog Tryd.f3 false true false false) := by
  refine handed started (by kernel_rfl) Tryd.func3 #[.int .i64 0, .slice none 0 0] (by kernel_rfl) (by kernel_rfl) (by kernel_rfl) (World.shaped_of_ZipB (by kernel_rfl) (by kernel_rfl))
    (by unfold laidHere; rw [MakeChecks.laidMetH_plain _ _ _ (by kernel_rfl)]; exact laidMet_laidAll _ (by kernel_rfl) (by kernel_rfl)) ?_
  intro W base args ds gs before hval0 hW E
  have hval : ∀ (j : Nat) t v, Tryd.f3.params[j]? = some t → args[j]? = some v → Value.okWide Tryd.prog W .any base t v := hval0
  have hW' := hW
  obtain ⟨p, q, hA0, hV, rfl, _, _⟩ := hW
  have hA : DataW.TrodAll enc Tryd.prog W 0 (fun _ => true) true Tryd.f3.params.toList args.toList ds p := hA0
  rw [Tryd.params3] at hA hval
  obtain ⟨v0, vs0, d0, ds0, p0, q0, hargs, rfl, rfl, r0, t0⟩ := trodAll_cons hA
  obtain ⟨v1, vs1, d1, ds1, p1, q1, rfl, rfl, rfl, r1, t1⟩ := trodAll_cons t0
  obtain ⟨rfl, rfl, rfl⟩ := trodAll_nil t1
  obtain rfl : args = #[v0, v1] := by cases args; simp_all
  obtain ⟨rfl, rfl⟩ := trodVars_none hV
  obtain ⟨n0, rfl, rfl, rfl, w0⟩ := open_int Tryd.underlying3 (hval 0 3 v0 rfl rfl) r0
  obtain ⟨s1, y1, k1⟩ := open_bytes (hval 1 22 v1 rfl rfl) r1
  clear hA0 hval0
  simp only [List.append_nil] at hW'
  refine (walk n0 (int_wf w0).1 (int_wf w0).2 v1 s1 W y1 E).mono fun e W' ⟨he, hb⟩ => ?_
  subst he
  obtain ⟨pa1, z1⟩ := k1 W' hb
  exact ⟨_, rfl, told hW' (fun _ _ _ => trodAll_cons_mk (shut_bool Tryd.underlying4 _) trodAll_mk0) (trodAll_cons_mk (shut_int Tryd.underlying3 w0) (trodAll_cons_mk (z1) trodAll_mk0)) (fun _ => rfl) hb⟩

theorem over : Rows.TelnetStripsSaid :=
  OpenClaim.holds_of_wide 3 Tryd.f3 rfl rfl rfl rfl rfl rfl rfl ⟨rfl, rfl, rfl, rfl, rfl⟩ rfl rfl rfl rfl rfl (by kernel_rfl) Tryd.func3 (by kernel_rfl)
    (of_decide_eq_true (by kernel_rfl)) (by unfold Func.isWrapper; first | (rw [if_pos (by decide +kernel)]; kernel_rfl) | (rw [if_neg (by decide +kernel)]; exact ⟨rfl, rfl⟩))
    (fun os started H enc _ => lifted os started H enc)

theorem proved : Rows.TelnetStripsCardSaid :=
  Claim7.holds_tied_plain_at .later [] Rows.telnetStripsCard.laidKinds true Rows.telnetStripsCard.stood.harness Rows.telnetStripsCard.stood.looks
    over (fun _ h => by cases h) (by kernel_rfl) (fun _ h => by cases h) telnetStrips_row_tie rfl ⟨rfl, rfl⟩ (by kernel_rfl) rfl
    (fun f fn hf hfn => by
      obtain rfl : f = 3 := Option.some.inj ((show Tryd.prog.funcNamed "wharfinger/wharfingerlaw05.TelnetStrips" = some 3 by kernel_rfl).symm.trans hf) |>.symm
      obtain rfl : fn = Tryd.f3 := (Option.some.inj (Tryd.func3.symm.trans hfn)).symm
      exact ⟨by kernel_rfl, fun j t ht => by
        rw [Tryd.params3] at ht
        have hm : t ∈ [3, 22] := by simpa using Array.mem_of_getElem? ht
        have hall : ([3, 22].all fun u => !Tryd.prog.wantsStandIn u) = true := by kernel_rfl
        exact (show Tryd.prog.wantsStandIn t = false by simpa using List.all_eq_true.1 hall t hm)⟩)
    (by kernel_rfl)
#print axioms proved
end Go.Proofs.YtkbekabpbgdhfaaDoor.telnetStrips
