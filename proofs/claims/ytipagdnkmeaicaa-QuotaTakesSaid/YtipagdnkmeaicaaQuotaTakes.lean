/- Proved: for every two limits, what is used of them, and bytes (held against 300): how many may go on, what is used then, and any beginning of the bytes, is what the document's answer says. Conditions: none beyond the row's own (the library's variables start as the program's text lays them: the card ties them). -/
import Derived.Test.YtipagdnkmeaicaaQuotaAwake
import Derived.BigQuiet
import Derived.Deep.QuietTactic
import Derived.Deep.RegionHeld

namespace Go.Proofs.Ytipagdnkmeaicaa.quotaTakes
open Go.Proofs.Ytipagdnkmeaicaa Go.Proofs.Ytipagdnkmeaicaa.Qt
open Go.ChangeShapes Go.WideShapes Go.ChangeAt Go.RowKit Go.Sort Go.ChangeMaps
set_option linter.unusedSimpArgs false
set_option linter.unusedVariables false
set_option linter.unusedVariables false in
set_option maxHeartbeats 16000000 in
set_option maxRecDepth 100000 in
theorem walk (n0 : Int) (l0 : -9223372036854775808 ≤ n0) (h0 : n0 ≤ 9223372036854775807) (n1 : Int) (l1 : -9223372036854775808 ≤ n1) (h1 : n1 ≤ 9223372036854775807) (n2 : Int) (l2 : -9223372036854775808 ≤ n2) (h2 : n2 ≤ 9223372036854775807) (n3 : Int) (l3 : -9223372036854775808 ≤ n3) (h3 : n3 ≤ 9223372036854775807) (n4 : Int) (l4 : -9223372036854775808 ≤ n4) (h4 : n4 ≤ 9223372036854775807) (u5 : Value) (s5 : List UInt8) (w : World) (y5 : BytesIs w u5 s5) (E : Env w) :
    Calls Try.prog 3 #[.int .i64 n0, .int .i64 n1, .int .i64 n2, .int .i64 n3, .int .i64 n4, u5] w fun e w' => e = .returned (.bool true) ∧ Below w.heap.size w w' := by
  have AWK := Lib.hid (fun W EW => awake_any W EW)
  have B0 := Lib.hid (Below.refl w.heap.size w)
  obtain ⟨p, cp, rfl⟩ := y5.form
  obtain ⟨nn, hnn⟩ : ∃ n, n = s5.length := ⟨_, rfl⟩
  rw [← hnn] at y5 ⊢
  have Y5 := Lib.hid y5
  have hl5 : ∀ k, nn ≤ k → s5.length ≤ k := fun k h => by omega
  have HL5 := Lib.hid hl5
  clear hl5 hnn y5
  by_cases g : 300 < nn
  · have g' : (300 : Int) < (nn : Int) := by omega
    go_enter Try.func3, Try.ntmps3
    go_wp2_with (first
        | (go_at_call 8; refine (AWK.out _ (E.below (B0.out))).mono ?_; rintro e w1 ⟨rfl, b1⟩; have B1 := Lib.hid (B0.out.trans (b1.mono B0.out.size)); clear AWK))
    all_goals (go_ret; exact ⟨by first | rfl | (simp; done) | (simp; omega), B1.out⟩)
  have g' : ¬ (300 : Int) < (nn : Int) := by omega
  obtain ⟨m, x, y, c, hT⟩ : ∃ m x y c, take n0 n1 n2 n3 n4 = ⟨m, x, y, c⟩ := ⟨_, _, _, _, rfl⟩
  obtain ⟨r, hr⟩ : ∃ r, s5.take n4.toNat = r := ⟨_, rfl⟩
  have H1 := Lib.hid (fun W EW => take_at n0 n1 n2 n3 n4 m x y c hT W EW)
  have H2 := Lib.hid (fun W => rtake_at n0 n1 n2 n3 n4 m x y c hT W)
  have H3 := Lib.hid (fun W EW HR => cut_at (.slice p nn cp) s5 n4 (HL5.out _ (by omega)) r hr W EW HR)
  have H4 := Lib.hid (fun W HR => rcut_at (.slice p nn cp) s5 n4 (HL5.out _ (by omega)) r hr W HR)
  clear hT hr
  go_enter Try.func3, Try.ntmps3
  go_wp2_with (first
      | (go_at_call 8; refine (AWK.out _ (E.below (B0.out))).mono ?_; rintro e w1 ⟨rfl, b1⟩; have B1 := Lib.hid (B0.out.trans (b1.mono B0.out.size)); clear AWK)
      | (go_at_call 9; refine (H1.out _ (E.below (B1.out))).mono ?_; rintro e w2 ⟨rfl, b2⟩; have B2 := Lib.hid (B1.out.trans (b2.mono B1.out.size)); clear H1)
      | (go_at_call 10; refine (H2.out _).mono ?_; rintro e w3 ⟨rfl, b3⟩; have B3 := Lib.hid (B2.out.trans (b3.mono B2.out.size)); clear H2))
  have BL := Lib.hid B3.out.drew
  go_region_held (fun _ => True) (trivial) (first | (go_simp; go_at_call 11; refine (H3.out _ (E.below BL.out) (Y5.out.call BL.out)).mono ?_; rintro e wc ⟨⟨pc, nc, cc, rfl, -, hc⟩, bc⟩; have BL := Lib.hid (BL.out.trans (bc.mono BL.out.size)); have sc := str_of_bytes hc; have Kc := Lib.hid hc; try have tr := str_of_bytes (Kr.out.call bc); clear hc bc) | (go_simp; go_at_call 12; refine (H4.out _ (Y5.out.call BL.out)).mono ?_; rintro e wr ⟨⟨pr, nr, cr, rfl, -, hr⟩, br⟩; have BL := Lib.hid (BL.out.trans (br.mono BL.out.size)); have sr := str_of_bytes hr; have Kr := Lib.hid hr; try have tc := str_of_bytes (Kc.out.call br); clear hr br))
  all_goals (
    go_wp2_with fail
    go_ret
    exact ⟨by first | rfl | (simp; done), BL.out⟩)

set_option maxRecDepth 100000 in
theorem lifted (os : Os) (started : os.Started) (H : Type) (enc : TypeId × Value → H) :
    ReturnsInHanded {} Try.checked os 3 .any (Rows.quotaTakesSpec.pre6 enc Try.prog Try.f3 Rows.quotaTakesRow.domain false) (Rows.quotaTakesSpec.post enc Try.prog Try.f3 false true false false) := by
  refine returnsInHanded_of_change (C := Try.checked) ownKnobs started (by kernel_rfl) Try.func3
    (ChangeSpec.witness6 (enc := enc) (C := Try.checked) false ⟨#[], #[.int .i64 0, .int .i64 0, .int .i64 0, .int .i64 0, .int .i64 0, .slice none 0 0], []⟩ 8 (by kernel_rfl) (by kernel_rfl) (by kernel_rfl) (by kernel_rfl)) ?_
  intro W base args ds gs before hval0 hW _ _
  have E : Env W := trivial
  have hval : ∀ (j : Nat) t v, Try.f3.params[j]? = some t → args[j]? = some v → Value.okWide Try.prog W .any base t v := hval0
  have hW' := hW
  obtain ⟨p, q, hA0, hV, rfl, _, _⟩ := hW
  have hA : DataW.TrodAll enc Try.prog W 0 (fun _ => true) true Try.f3.params.toList args.toList ds p := hA0
  rw [Try.params3] at hA hval
  obtain ⟨v0, vs0, d0, ds0, p0, q0, hargs, rfl, rfl, r0, t0⟩ := trodAll_cons hA
  obtain ⟨v1, vs1, d1, ds1, p1, q1, rfl, rfl, rfl, r1, t1⟩ := trodAll_cons t0
  obtain ⟨v2, vs2, d2, ds2, p2, q2, rfl, rfl, rfl, r2, t2⟩ := trodAll_cons t1
  obtain ⟨v3, vs3, d3, ds3, p3, q3, rfl, rfl, rfl, r3, t3⟩ := trodAll_cons t2
  obtain ⟨v4, vs4, d4, ds4, p4, q4, rfl, rfl, rfl, r4, t4⟩ := trodAll_cons t3
  obtain ⟨v5, vs5, d5, ds5, p5, q5, rfl, rfl, rfl, r5, t5⟩ := trodAll_cons t4
  obtain ⟨rfl, rfl, rfl⟩ := trodAll_nil t5
  obtain rfl : args = #[v0, v1, v2, v3, v4, v5] := by cases args; simp_all
  obtain ⟨rfl, rfl⟩ := trodVars_none hV
  obtain ⟨n0, rfl, rfl, rfl, w0⟩ := open_int Try.underlying3 (hval 0 3 v0 rfl rfl) r0
  obtain ⟨n1, rfl, rfl, rfl, w1⟩ := open_int Try.underlying3 (hval 1 3 v1 rfl rfl) r1
  obtain ⟨n2, rfl, rfl, rfl, w2⟩ := open_int Try.underlying3 (hval 2 3 v2 rfl rfl) r2
  obtain ⟨n3, rfl, rfl, rfl, w3⟩ := open_int Try.underlying3 (hval 3 3 v3 rfl rfl) r3
  obtain ⟨n4, rfl, rfl, rfl, w4⟩ := open_int Try.underlying3 (hval 4 3 v4 rfl rfl) r4
  obtain ⟨s5, y5, k5⟩ := open_bytes (hval 5 22 v5 rfl rfl) r5
  clear hA0 hval0
  simp only [List.append_nil] at hW'
  refine (walk n0 (int_wf w0).1 (int_wf w0).2 n1 (int_wf w1).1 (int_wf w1).2 n2 (int_wf w2).1 (int_wf w2).2 n3 (int_wf w3).1 (int_wf w3).2 n4 (int_wf w4).1 (int_wf w4).2 v5 s5 W y5 E).mono fun e W' ⟨he, hb⟩ => ?_
  subst he
  obtain ⟨pa5, z5⟩ := k5 W' hb
  exact ⟨_, rfl, told hW' (fun _ _ _ => trodAll_cons_mk (shut_bool Try.underlying4 _) trodAll_mk0) (trodAll_cons_mk (shut_int Try.underlying3 w0) (trodAll_cons_mk (shut_int Try.underlying3 w1) (trodAll_cons_mk (shut_int Try.underlying3 w2) (trodAll_cons_mk (shut_int Try.underlying3 w3) (trodAll_cons_mk (shut_int Try.underlying3 w4) (trodAll_cons_mk (z5) trodAll_mk0)))))) (fun _ => rfl) hb⟩

theorem over : Rows.quotaTakesRow.holds Try.pinned (OpenSpec.ofChange Rows.quotaTakesSpec) :=
  OpenClaim.holds_of_wide 3 Try.f3 rfl rfl rfl rfl rfl rfl rfl ⟨rfl, rfl, rfl, rfl, rfl⟩ rfl rfl rfl rfl rfl (by kernel_rfl) Try.func3 (by kernel_rfl)
    (of_decide_eq_true (by kernel_rfl)) (by unfold Func.isWrapper; first | (rw [if_pos (by decide +kernel)]; kernel_rfl) | (rw [if_neg (by decide +kernel)]; exact ⟨rfl, rfl⟩))
    (fun os started H enc _ => lifted os started H enc)

theorem proved : Rows.QuotaTakesSaid :=
  over
#print axioms proved
end Go.Proofs.Ytipagdnkmeaicaa.quotaTakes
