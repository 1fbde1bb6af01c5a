/- Proved: for every int, address, text and greatest number the law QuadTells answers true: quad's Num, Get, Text and Read answer as the document's own do. Conditions: none beyond the row's own (the library's variables start as the program's text lays them: the card ties them). -/
import Derived.Test.YtnglancebcimaaaDoorQuadAwake
import Derived.Test.YtnglancebcimaaaDoorHostArg
import Derived.Test.YtnglancebcimaaaDoorCards
import Derived.Test.YtnglancebcimaaaDoorQuadFacts
import Derived.Test.YtnglancebcimaaaDoorQuadRefRead
namespace Go.Proofs.YtnglancebcimaaaDoor.quadTells
open Go.Proofs.YtnglancebcimaaaDoor Go.Proofs.YtnglancebcimaaaDoor.Quad
open Go.ChangeShapes Go.WideShapes Go.ChangeAt Go.RowKit Go.Sort Go.ChangeMaps

set_option linter.unusedVariables false in
set_option maxHeartbeats 2000000 in
set_option maxRecDepth 100000 in
theorem walk (n0 : Int) (l0 : -9223372036854775808 ≤ n0) (h0 : n0 ≤ 9223372036854775807) (a1 b1 c1 d1 : Int) (a1l : 0 ≤ a1) (a1h : a1 ≤ 255) (b1l : 0 ≤ b1) (b1h : b1 ≤ 255) (c1l : 0 ≤ c1) (c1h : c1 ≤ 255) (d1l : 0 ≤ d1) (d1h : d1 ≤ 255) (s2 : List UInt8) (z2 : s2.length ≤ 9223372036854775807) (n3 : Int) (l3 : -9223372036854775808 ≤ n3) (h3 : n3 ≤ 9223372036854775807) (w : World) (E : Env w) :
    Calls Tryd.prog 3 #[.int .i64 n0, hostV a1 b1 c1 d1, str s2, .int .i64 n3] w fun e w' => e = .returned (.bool true) ∧ Below w.heap.size w w' := by
  by_cases c40 : 40 < s2.length
  · go_enter Tryd.func3, Tryd.ntmps3
    go_wp2_with (go_at_call 8; refine (awake_any _ ?_).mono ?_)
    · exact E.alloc _
    rintro e w1 ⟨rfl, q1⟩
    go_wp2_with fail
    go_ret
    exact ⟨rfl, ((Below.refl _ _).alloc (Nat.le_refl _) _).trans (q1.mono (by simp))⟩
  have CT := Lib.hid (fun W (EW : Env W) => text_any a1 b1 c1 d1 a1l a1h b1l b1h c1l c1h d1l d1h W EW)
  have CU := Lib.hid (fun W => rtext_any a1 b1 c1 d1 a1l a1h b1l b1h c1l c1h d1l d1h W)
  generalize textL a1 b1 c1 d1 = t1 at CT CU
  have CN := Lib.hid (fun W (EW : Env W) => num_any n0 l0 h0 W EW)
  have CM := Lib.hid (fun W => rnum_any n0 l0 h0 W)
  generalize Lib.itoa n0 = u1 at CN CM
  have CG := Lib.hid (fun W (EW : Env W) => get_any s2 n3 W EW)
  have CH := Lib.hid (fun W => rget_any s2 z2 n3 W)
  have CR := Lib.hid (fun W (EW : Env W) => read_any s2 (by omega) W EW)
  have CS := Lib.hid (fun W => rread_any s2 (by omega) W)
  unfold gotV at CG CH
  unfold readV at CR CS
  generalize getV s2 n3 = gv at CG CH
  generalize getB s2 n3 = gb at CG CH
  generalize readH s2 0 = r0 at CR CS
  generalize readH s2 1 = r1 at CR CS
  generalize readH s2 2 = r2 at CR CS
  generalize readH s2 3 = r3 at CR CS
  generalize readB s2 = rb at CR CS
  have hq : ∀ W, (Op.equalIn 10000 23 (hostV r0 r1 r2 r3) (hostV r0 r1 r2 r3)).run Tryd.prog W = .ok true W := fun W => by rw [equal_hosts]; simp
  go_enter Tryd.func3, Tryd.ntmps3
  go_wp2_with (go_at_call 8; refine (awake_any _ ?_).mono ?_)
  · exact E.alloc _
  rintro e w1 ⟨rfl, q1⟩
  have B1 : Below w.heap.size w w1 := ((Below.refl _ _).alloc (Nat.le_refl _) _).trans (q1.mono (by simp))
  have RA : IsRow w1 w.heap.size 23 #[.int .u8 a1, .int .u8 b1, .int .u8 c1, .int .u8 d1] := (IsRow.made w _ _).call q1
  clear q1
  go_wp2_with (go_at_call 9; refine (CG.out _ ?_).mono ?_)
  · exact E.below B1
  rintro e w2 ⟨rfl, q2⟩
  have B2 := below_trans B1 q2
  replace RA := RA.call q2
  clear q2
  go_wp2_with (go_at_call 10; refine (CH.out _).mono ?_)
  rintro e w' ⟨rfl, rfl⟩
  go_wp2_with (go_at_call 11; refine (CR.out _ ?_).mono ?_)
  · exact E.below B2
  rintro e w3 ⟨rfl, q3⟩
  have B3 := below_trans B2 q3
  replace RA := RA.call q3
  clear q3
  go_wp2_with (go_at_call 12; refine (CS.out _).mono ?_)
  rintro e w4 ⟨rfl, q4⟩
  have B4 : Below w.heap.size w w4 := (B3.alloc B3.size _).trans (q4.mono (by have := B3.size; simp; omega))
  have RX : IsRow w4 w3.heap.size 23 #[.int .u8 r0, .int .u8 r1, .int .u8 r2, .int .u8 r3] := (IsRow.made w3 _ _).call q4
  replace RA := (RA.alloc _).call q4
  clear q4
  go_wp2_with fail
  obtain ⟨w5, e5, SA, SX, SY, BK⟩ : ∃ w5, w4.alloc (.cells #[.int .u8 r0, .int .u8 r1, .int .u8 r2, .int .u8 r3] 23) = w5 ∧ IsRow w5 w.heap.size 23 #[.int .u8 a1, .int .u8 b1, .int .u8 c1, .int .u8 d1] ∧ IsRow w5 w3.heap.size 23 #[.int .u8 r0, .int .u8 r1, .int .u8 r2, .int .u8 r3] ∧ IsRow w5 w4.heap.size 23 #[.int .u8 r0, .int .u8 r1, .int .u8 r2, .int .u8 r3] ∧ Below w.heap.size w w5 :=
    ⟨_, rfl, RA.alloc _, RX.alloc _, IsRow.made _ _ _, B4.alloc B4.size _⟩
  rw [e5]
  clear e5 RA RX
  have i0 := cell_regrown (show w5.cell? ⟨w.heap.size, 0, none⟩ = some (.int .u8 a1) from SA.cell 0)
  have i1 := cell_regrown (show w5.cell? ⟨w.heap.size, 1, none⟩ = some (.int .u8 b1) from SA.cell 1)
  have i2 := cell_regrown (show w5.cell? ⟨w.heap.size, 2, none⟩ = some (.int .u8 c1) from SA.cell 2)
  have i3 := cell_regrown (show w5.cell? ⟨w.heap.size, 3, none⟩ = some (.int .u8 d1) from SA.cell 3)
  have j0 := cell_regrown (show w5.cell? ⟨w3.heap.size, 0, none⟩ = some (.int .u8 r0) from SX.cell 0)
  have j1 := cell_regrown (show w5.cell? ⟨w3.heap.size, 1, none⟩ = some (.int .u8 r1) from SX.cell 1)
  have j2 := cell_regrown (show w5.cell? ⟨w3.heap.size, 2, none⟩ = some (.int .u8 r2) from SX.cell 2)
  have j3 := cell_regrown (show w5.cell? ⟨w3.heap.size, 3, none⟩ = some (.int .u8 r3) from SX.cell 3)
  have k0 := cell_regrown (show w5.cell? ⟨w4.heap.size, 0, none⟩ = some (.int .u8 r0) from SY.cell 0)
  have k1 := cell_regrown (show w5.cell? ⟨w4.heap.size, 1, none⟩ = some (.int .u8 r1) from SY.cell 1)
  have k2 := cell_regrown (show w5.cell? ⟨w4.heap.size, 2, none⟩ = some (.int .u8 r2) from SY.cell 2)
  have k3 := cell_regrown (show w5.cell? ⟨w4.heap.size, 3, none⟩ = some (.int .u8 r3) from SY.cell 3)
  have KN := Lib.hid (show ∀ d os, Calls Tryd.prog 13 #[.int .i64 n0] (grow (redrawn w5 d) os) fun e w'' => e = .returned (str u1) ∧ ∃ p : Regrown, w'' = grow (redrawn w5 p.d) p.os from fun d os => Calls.regrown_of (CN.out _ ((E.below BK).below (below_regrown w5 d os))))
  have KM := Lib.hid (show ∀ d os, Calls Tryd.prog 14 #[.int .i64 n0] (grow (redrawn w5 d) os) fun e w'' => e = .returned (str u1) ∧ ∃ p : Regrown, w'' = grow (redrawn w5 p.d) p.os from fun d os => (CM.out _).mono fun _ _ ⟨he, hw⟩ => ⟨he, ⟨d, os⟩, hw.symm⟩)
  have KT := Lib.hid (show ∀ d os, Calls Tryd.prog 15 #[hostV a1 b1 c1 d1] (grow (redrawn w5 d) os) fun e w'' => e = .returned (str t1) ∧ ∃ p : Regrown, w'' = grow (redrawn w5 p.d) p.os from fun d os => Calls.regrown_of (CT.out _ ((E.below BK).below (below_regrown w5 d os))))
  have KU := Lib.hid (show ∀ d os, Calls Tryd.prog 16 #[hostV a1 b1 c1 d1] (grow (redrawn w5 d) os) fun e w'' => e = .returned (str t1) ∧ ∃ p : Regrown, w'' = grow (redrawn w5 p.d) p.os from fun d os => Calls.regrown_of (CU.out _))
  refine wp_region_quiet_below (by kernel_rfl) (by kernel_rfl) ?_
  repeat (quiet_step (first | with_reducible exact KN.out _ _ | with_reducible exact KM.out _ _ | with_reducible exact KT.out _ _ | with_reducible exact KU.out _ _))
  refine wpQuiet_nil ?_
  intro _ hw'
  obtain ⟨⟨dq, osq⟩, hw''⟩ := hw'
  subst hw''
  go_wp2_with fail
  go_ret
  exact ⟨rfl, below_trans BK (below_regrown w5 dq osq)⟩

set_option maxRecDepth 100000 in
theorem lifted (os : Os) (started : os.Started) (H : Type) (enc : TypeId × Value → H) :
    ReturnsInHanded {} Tryd.checked os 3 .any (fun w args => (Rows.quadTellsSpec.pre enc Tryd.prog Tryd.f3 [] false w args ∧ laidMetH Tryd.prog laidHere w) ∧ sizedMet enc Tryd.prog Tryd.f3 (OpenSpec.ofChange Rows.quadTellsSpec) false w args)
      (Rows.quadTellsSpec.post enc Tryd.prog Tryd.f3 false true false false) := by
  refine handed started (by kernel_rfl) Tryd.func3 #[.int .i64 0, .agg #[.int .u8 0, .int .u8 0, .int .u8 0, .int .u8 0], .string ⟨#[]⟩, .int .i64 0] (by kernel_rfl) (by kernel_rfl) (by kernel_rfl) (World.shaped_of_ZipB (by kernel_rfl) (by kernel_rfl))
    (by unfold laidHere; rw [MakeChecks.laidMetH_plain _ _ _ (by kernel_rfl)]; exact laidMet_laidAll _ (by kernel_rfl) (by kernel_rfl)) ?_
  intro W base args ds gs before hval0 hW E
  have hval : ∀ (j : Nat) t v, Tryd.f3.params[j]? = some t → args[j]? = some v → Value.okWide Tryd.prog W .any base t v := hval0
  have hW' := hW
  obtain ⟨p, q, hA0, hV, rfl, _, _⟩ := hW
  have hA : DataW.TrodAll enc Tryd.prog W 0 (fun _ => true) true Tryd.f3.params.toList args.toList ds p := hA0
  rw [Tryd.params3] at hA hval
  obtain ⟨v0, vs0, d0, ds0, p0, q0, hargs, rfl, rfl, r0, t0⟩ := trodAll_cons hA
  obtain ⟨v1, vs1, d1, ds1, p1, q1, rfl, rfl, rfl, r1, t1⟩ := trodAll_cons t0
  obtain ⟨v2, vs2, d2, ds2, p2, q2, rfl, rfl, rfl, r2, t2⟩ := trodAll_cons t1
  obtain ⟨v3, vs3, d3, ds3, p3, q3, rfl, rfl, rfl, r3, t3⟩ := trodAll_cons t2
  obtain ⟨rfl, rfl, rfl⟩ := trodAll_nil t3
  obtain rfl : args = #[v0, v1, v2, v3] := by cases args; simp_all
  obtain ⟨rfl, rfl⟩ := trodVars_none hV
  obtain ⟨n0, rfl, rfl, rfl, w0⟩ := open_int Tryd.underlying3 (hval 0 3 v0 rfl rfl) r0
  obtain ⟨a1, b1, c1, d1, rfl, rfl, rfl, wa1, wb1, wc1, wd1⟩ := open_host (hval 1 23 v1 rfl rfl) r1
  obtain ⟨x2, rfl, rfl, rfl, w2⟩ := open_string Tryd.underlying9 (hval 2 9 v2 rfl rfl) r2
  obtain ⟨s2, rfl⟩ : ∃ l : List UInt8, x2 = ⟨l.toArray⟩ := ⟨x2.data.toList, by simp⟩
  obtain ⟨n3, rfl, rfl, rfl, w3⟩ := open_int Tryd.underlying3 (hval 3 3 v3 rfl rfl) r3
  clear hA0 hval0
  simp only [List.append_nil] at hW'
  refine (walk n0 (int_wf w0).1 (int_wf w0).2 a1 b1 c1 d1 (byte_wf wa1).1 (byte_wf wa1).2 (byte_wf wb1).1 (byte_wf wb1).2 (byte_wf wc1).1 (byte_wf wc1).2 (byte_wf wd1).1 (byte_wf wd1).2 s2 (by have := w2; rw [size_mk] at this; unfold maxLen at this; exact this) n3 (int_wf w3).1 (int_wf w3).2 W E).mono fun e W' ⟨he, hb⟩ => ?_
  subst he
  exact ⟨_, rfl, told hW' (fun _ _ _ => trodAll_cons_mk (shut_bool Tryd.underlying4 _) trodAll_mk0) (fun _ => trodAll_cons_mk (shut_int Tryd.underlying3 w0) (trodAll_cons_mk (shut_host wa1 wb1 wc1 wd1) (trodAll_cons_mk (shut_string Tryd.underlying9 w2) (trodAll_cons_mk (shut_int Tryd.underlying3 w3) trodAll_mk0)))) (fun _ => rfl) hb⟩

theorem over : Rows.QuadTellsSaid :=
  OpenClaim.holds_of_wide 3 Tryd.f3 rfl rfl rfl rfl rfl rfl rfl ⟨rfl, rfl, rfl, rfl, rfl⟩ rfl rfl rfl rfl rfl (by kernel_rfl) Tryd.func3 (by kernel_rfl)
    (of_decide_eq_true (by kernel_rfl)) (by unfold Func.isWrapper; first | (rw [if_pos (by decide +kernel)]; kernel_rfl) | (rw [if_neg (by decide +kernel)]; exact ⟨rfl, rfl⟩))
    (fun os started H enc _ => lifted os started H enc)

theorem proved : Rows.QuadTellsCardSaid :=
  Claim7.holds_tied_plain_at .later [] Rows.quadTellsCard.laidKinds true Rows.quadTellsCard.stood.harness true
    over (fun _ h => by cases h) (by kernel_rfl) (fun _ h => by cases h) quadTells_row_tie rfl ⟨rfl, rfl⟩ (by kernel_rfl) rfl
    (fun f fn hf hfn => by
      obtain rfl : f = 3 := Option.some.inj ((show Tryd.prog.funcNamed "wharfinger/wharfingerlaw02.QuadTells" = some 3 by kernel_rfl).symm.trans hf) |>.symm
      obtain rfl : fn = Tryd.f3 := (Option.some.inj (Tryd.func3.symm.trans hfn)).symm
      exact ⟨by kernel_rfl, fun j t ht => by
        rw [Tryd.params3] at ht
        have hm : t ∈ [3, 23, 9, 3] := by simpa using Array.mem_of_getElem? ht
        have hall : ([3, 23, 9, 3].all fun u => !Tryd.prog.wantsStandIn u) = true := by kernel_rfl
        exact (show Tryd.prog.wantsStandIn t = false by simpa using List.all_eq_true.1 hall t hm)⟩)
    (by kernel_rfl)
#print axioms proved
end Go.Proofs.YtnglancebcimaaaDoor.quadTells
