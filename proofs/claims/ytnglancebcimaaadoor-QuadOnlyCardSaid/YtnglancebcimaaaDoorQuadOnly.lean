/- Proved: for every text, two addresses and two ints the law QuadOnly answers true: what is read is written so, and no two numbers, and no two addresses, are written alike. Conditions: none beyond the row's own (the library's variables start as the program's text lays them: the card ties them). -/
import Derived.Test.YtnglancebcimaaaDoorQuadAwake
import Derived.Test.YtnglancebcimaaaDoorHostArg
import Derived.Test.YtnglancebcimaaaDoorCards
import Derived.Test.YtnglancebcimaaaDoorQuadFacts
namespace Go.Proofs.YtnglancebcimaaaDoor.quadOnly
open Go.Proofs.YtnglancebcimaaaDoor Go.Proofs.YtnglancebcimaaaDoor.Quad
open Go.ChangeShapes Go.WideShapes Go.ChangeAt Go.RowKit Go.Sort Go.ChangeMaps

theorem both_texts (a1 b1 c1 d1 a2 b2 c2 d2 : Int) : ∃ bt : Bool, (textL a1 b1 c1 d1 == textL a2 b2 c2 d2) = bt ∧ (a1 == a2 && b1 == b2 && c1 == c2 && d1 == d2) = bt := by
  refine ⟨_, rfl, ?_⟩
  cases h : (a1 == a2 && b1 == b2 && c1 == c2 && d1 == d2) with
  | true =>
    simp only [Bool.and_eq_true, beq_iff_eq] at h
    obtain ⟨⟨⟨rfl, rfl⟩, rfl⟩, rfl⟩ := h
    symm; exact beq_iff_eq.2 rfl
  | false =>
    symm
    rw [beq_eq_false_iff_ne]
    intro e
    obtain ⟨rfl, rfl, rfl, rfl⟩ := text_inj e
    simp at h
theorem both_nums (a b : Int) : ∃ bn : Bool, (Lib.itoa a == Lib.itoa b) = bn ∧ (a == b) = bn := by
  refine ⟨_, rfl, ?_⟩
  by_cases h : a = b
  · subst h; rw [beq_iff_eq.2 rfl, beq_iff_eq.2 rfl]
  · rw [beq_eq_false_iff_ne.2 h, beq_eq_false_iff_ne.2 fun e => h (itoa_inj e)]

set_option linter.unusedVariables false in
set_option maxHeartbeats 2000000 in
set_option maxRecDepth 100000 in
theorem walk (s0 : List UInt8) (z0 : s0.length ≤ 9223372036854775807) (a1 b1 c1 d1 : Int) (a1l : 0 ≤ a1) (a1h : a1 ≤ 255) (b1l : 0 ≤ b1) (b1h : b1 ≤ 255) (c1l : 0 ≤ c1) (c1h : c1 ≤ 255) (d1l : 0 ≤ d1) (d1h : d1 ≤ 255) (a2 b2 c2 d2 : Int) (a2l : 0 ≤ a2) (a2h : a2 ≤ 255) (b2l : 0 ≤ b2) (b2h : b2 ≤ 255) (c2l : 0 ≤ c2) (c2h : c2 ≤ 255) (d2l : 0 ≤ d2) (d2h : d2 ≤ 255) (n3 : Int) (l3 : -9223372036854775808 ≤ n3) (h3 : n3 ≤ 9223372036854775807) (n4 : Int) (l4 : -9223372036854775808 ≤ n4) (h4 : n4 ≤ 9223372036854775807) (w : World) (E : Env w) :
    Calls Tryd.prog 4 #[str s0, hostV a1 b1 c1 d1, hostV a2 b2 c2 d2, .int .i64 n3, .int .i64 n4] w fun e w' => e = .returned (.bool true) ∧ Below w.heap.size w w' := by
  by_cases c40 : 40 < s0.length
  · go_enter Tryd.func4, Tryd.ntmps4
    go_wp2_with (go_at_call 8; refine (awake_any _ ?_).mono ?_)
    · exact (E.alloc _).alloc _
    rintro e w1 ⟨rfl, q1⟩
    go_wp2_with fail
    go_ret
    exact ⟨rfl, (((Below.refl _ _).alloc (Nat.le_refl _) _).alloc (by simp) _).trans (q1.mono (by simp; omega))⟩
  obtain ⟨bt, hT, hH⟩ := both_texts a1 b1 c1 d1 a2 b2 c2 d2
  obtain ⟨bn, hN, hM⟩ := both_nums n3 n4
  have hq : ∀ W, (Op.equalIn 10000 23 (hostV a1 b1 c1 d1) (hostV a2 b2 c2 d2)).run Tryd.prog W = .ok bt W := fun W => by rw [equal_hosts, hH]
  have HH := Lib.hid hH
  clear hH
  have CA := Lib.hid (fun W (EW : Env W) => text_any a1 b1 c1 d1 a1l a1h b1l b1h c1l c1h d1l d1h W EW)
  have CB := Lib.hid (fun W (EW : Env W) => text_any a2 b2 c2 d2 a2l a2h b2l b2h c2l c2h d2l d2h W EW)
  generalize textL a1 b1 c1 d1 = t1 at hT CA
  generalize textL a2 b2 c2 d2 = t2 at hT CB
  have CN := Lib.hid (fun W (EW : Env W) => num_any n3 l3 h3 W EW)
  have CM := Lib.hid (fun W (EW : Env W) => num_any n4 l4 h4 W EW)
  generalize Lib.itoa n3 = u1 at hN CN
  generalize Lib.itoa n4 = u2 at hN CM
  have hl0 : s0.length < 4294967281 := by omega
  go_enter Tryd.func4, Tryd.ntmps4
  go_wp2_with (go_at_call 8; refine (awake_any _ ?_).mono ?_)
  · exact (E.alloc _).alloc _
  rintro e w1 ⟨rfl, q1⟩
  have B1 : Below w.heap.size w w1 := (((Below.refl _ _).alloc (Nat.le_refl _) _).alloc (by simp) _).trans (q1.mono (by simp; omega))
  have RA : IsRow w1 w.heap.size 23 #[.int .u8 a1, .int .u8 b1, .int .u8 c1, .int .u8 d1] := ((IsRow.made w _ _).alloc _).call q1
  have RB : IsRow w1 (w.heap.size + 1) 23 #[.int .u8 a2, .int .u8 b2, .int .u8 c2, .int .u8 d2] := by
    have := (IsRow.made (w.alloc _) 23 _).call q1; simpa using this
  clear q1
  cases hR : readB s0 with
  | true =>
    have hg : getB s0 1000000 = false := by
      cases h : getB s0 1000000 with
      | false => rfl
      | true => exact (not_both hR h).elim
    have hV := Lib.hid (show readV s0 = .tuple #[hostV (readH s0 0) (readH s0 1) (readH s0 2) (readH s0 3), .bool true] from by unfold readV; rw [hR])
    have hG := Lib.hid (got_no hg)
    have CT := Lib.hid (fun W (EW : Env W) => text_any (readH s0 0) (readH s0 1) (readH s0 2) (readH s0 3) (readH_lo _ _) (readH_hi _ _) (readH_lo _ _) (readH_hi _ _) (readH_lo _ _) (readH_hi _ _) (readH_lo _ _) (readH_hi _ _) W EW)
    have hX := Lib.hid (read_yes hR)
    clear hR hg
    generalize readH s0 0 = p0 at hV CT hX
    generalize readH s0 1 = p1 at hV CT hX
    generalize readH s0 2 = p2 at hV CT hX
    generalize readH s0 3 = p3 at hV CT hX
    go_wp2_with (go_at_call 11; refine (read_any s0 hl0 _ ?_).mono ?_)
    · exact E.below B1
    rintro e w2 ⟨he, q2⟩
    rw [hV.out] at he
    subst he
    have B2 := below_trans B1 q2
    replace RA := RA.call q2
    replace RB := RB.call q2
    clear q2
    go_wp2_with (go_at_call 9; refine (get_any s0 1000000 _ ?_).mono ?_)
    · exact (E.below B2).alloc _
    rintro e w3 ⟨he, q3⟩
    rw [hG.out] at he
    subst he
    have B3 : Below w.heap.size w w3 := (B2.alloc B2.size _).trans (q3.mono (by have := B2.size; simp; omega))
    replace RA := (RA.alloc _).call q3
    replace RB := (RB.alloc _).call q3
    have RH := (IsRow.made w2 23 _).call q3
    clear q3
    have z0 : w3.cell? ⟨w2.heap.size, 0, none⟩ = some (.int .u8 p0) := RH.cell 0
    have z1 : w3.cell? ⟨w2.heap.size, 1, none⟩ = some (.int .u8 p1) := RH.cell 1
    have z2 : w3.cell? ⟨w2.heap.size, 2, none⟩ = some (.int .u8 p2) := RH.cell 2
    have z3 : w3.cell? ⟨w2.heap.size, 3, none⟩ = some (.int .u8 p3) := RH.cell 3
    go_wp2_with (go_at_call 15; refine (CT.out _ ?_).mono ?_)
    · exact E.below B3
    rintro e w4 ⟨he, q4⟩
    rw [hX.out] at he
    subst he
    have BK := below_trans B3 q4
    replace RA := RA.call q4
    replace RB := RB.call q4
    clear q4 z0 z1 z2 z3 RH
    go_wp2_with fail
    have x0 := cell_regrown (show w4.cell? ⟨w.heap.size, 0, none⟩ = some (.int .u8 a1) from RA.cell 0)
    have x1 := cell_regrown (show w4.cell? ⟨w.heap.size, 1, none⟩ = some (.int .u8 b1) from RA.cell 1)
    have x2 := cell_regrown (show w4.cell? ⟨w.heap.size, 2, none⟩ = some (.int .u8 c1) from RA.cell 2)
    have x3 := cell_regrown (show w4.cell? ⟨w.heap.size, 3, none⟩ = some (.int .u8 d1) from RA.cell 3)
    have y0 := cell_regrown (show w4.cell? ⟨w.heap.size + 1, 0, none⟩ = some (.int .u8 a2) from RB.cell 0)
    have y1 := cell_regrown (show w4.cell? ⟨w.heap.size + 1, 1, none⟩ = some (.int .u8 b2) from RB.cell 1)
    have y2 := cell_regrown (show w4.cell? ⟨w.heap.size + 1, 2, none⟩ = some (.int .u8 c2) from RB.cell 2)
    have y3 := cell_regrown (show w4.cell? ⟨w.heap.size + 1, 3, none⟩ = some (.int .u8 d2) from RB.cell 3)
    have KA := Lib.hid (show ∀ d os, Calls Tryd.prog 15 #[hostV a1 b1 c1 d1] (grow (redrawn w4 d) os) fun e w'' => e = .returned (str t1) ∧ ∃ p : Regrown, w'' = grow (redrawn w4 p.d) p.os from fun d os => Calls.regrown_of (CA.out _ ((E.below BK).below (below_regrown w4 d os))))
    have KB := Lib.hid (show ∀ d os, Calls Tryd.prog 15 #[hostV a2 b2 c2 d2] (grow (redrawn w4 d) os) fun e w'' => e = .returned (str t2) ∧ ∃ p : Regrown, w'' = grow (redrawn w4 p.d) p.os from fun d os => Calls.regrown_of (CB.out _ ((E.below BK).below (below_regrown w4 d os))))
    have KN := Lib.hid (show ∀ d os, Calls Tryd.prog 13 #[.int .i64 n3] (grow (redrawn w4 d) os) fun e w'' => e = .returned (str u1) ∧ ∃ p : Regrown, w'' = grow (redrawn w4 p.d) p.os from fun d os => Calls.regrown_of (CN.out _ ((E.below BK).below (below_regrown w4 d os))))
    have KM := Lib.hid (show ∀ d os, Calls Tryd.prog 13 #[.int .i64 n4] (grow (redrawn w4 d) os) fun e w'' => e = .returned (str u2) ∧ ∃ p : Regrown, w'' = grow (redrawn w4 p.d) p.os from fun d os => Calls.regrown_of (CM.out _ ((E.below BK).below (below_regrown w4 d os))))
    refine wp_region_quiet_below (by kernel_rfl) (by kernel_rfl) ?_
    repeat (quiet_step (first | with_reducible exact KA.out _ _ | with_reducible exact KB.out _ _ | with_reducible exact KN.out _ _ | with_reducible exact KM.out _ _))
    refine wpQuiet_nil ?_
    intro _ hw'
    obtain ⟨⟨dq, osq⟩, hw''⟩ := hw'
    subst hw''
    go_wp2_with fail
    go_ret
    exact ⟨rfl, below_trans BK (below_regrown w4 dq osq)⟩
  | false =>
    have hV := Lib.hid (show readV s0 = .tuple #[hostV 0 0 0 0, .bool false] from by unfold readV; rw [readH_no hR, readH_no hR, readH_no hR, readH_no hR, hR])
    clear hR
    go_wp2_with (go_at_call 11; refine (read_any s0 hl0 _ ?_).mono ?_)
    · exact E.below B1
    rintro e w2 ⟨he, q2⟩
    rw [hV.out] at he
    subst he
    have B2 := below_trans B1 q2
    replace RA := RA.call q2
    replace RB := RB.call q2
    clear q2
    cases hg : getB s0 1000000 with
    | true =>
      obtain ⟨n, hn, _, hnm, hv⟩ := (getB_iff s0 1000000).1 hg
      have hG := Lib.hid (got_yes hg hv)
      have hX := Lib.hid (show Lib.itoa (n : Int) = s0 from by rw [itoa_nat]; exact hn)
      clear hn hv hg
      go_wp2_with (go_at_call 9; refine (get_any s0 1000000 _ ?_).mono ?_)
      · exact (E.below B2).alloc _
      rintro e w3 ⟨he, q3⟩
      rw [hG.out] at he
      subst he
      have B3 : Below w.heap.size w w3 := (B2.alloc B2.size _).trans (q3.mono (by have := B2.size; simp; omega))
      replace RA := (RA.alloc _).call q3
      replace RB := (RB.alloc _).call q3
      clear q3
      go_wp2_with (go_at_call 13; refine (num_any (n : Int) (by omega) (by omega) _ ?_).mono ?_)
      · exact E.below B3
      rintro e w4 ⟨he, q4⟩
      rw [hX.out] at he
      subst he
      have BK := below_trans B3 q4
      replace RA := RA.call q4
      replace RB := RB.call q4
      clear q4
      go_wp2_with fail
      have x0 := cell_regrown (show w4.cell? ⟨w.heap.size, 0, none⟩ = some (.int .u8 a1) from RA.cell 0)
      have x1 := cell_regrown (show w4.cell? ⟨w.heap.size, 1, none⟩ = some (.int .u8 b1) from RA.cell 1)
      have x2 := cell_regrown (show w4.cell? ⟨w.heap.size, 2, none⟩ = some (.int .u8 c1) from RA.cell 2)
      have x3 := cell_regrown (show w4.cell? ⟨w.heap.size, 3, none⟩ = some (.int .u8 d1) from RA.cell 3)
      have y0 := cell_regrown (show w4.cell? ⟨w.heap.size + 1, 0, none⟩ = some (.int .u8 a2) from RB.cell 0)
      have y1 := cell_regrown (show w4.cell? ⟨w.heap.size + 1, 1, none⟩ = some (.int .u8 b2) from RB.cell 1)
      have y2 := cell_regrown (show w4.cell? ⟨w.heap.size + 1, 2, none⟩ = some (.int .u8 c2) from RB.cell 2)
      have y3 := cell_regrown (show w4.cell? ⟨w.heap.size + 1, 3, none⟩ = some (.int .u8 d2) from RB.cell 3)
      have KA := Lib.hid (show ∀ d os, Calls Tryd.prog 15 #[hostV a1 b1 c1 d1] (grow (redrawn w4 d) os) fun e w'' => e = .returned (str t1) ∧ ∃ p : Regrown, w'' = grow (redrawn w4 p.d) p.os from fun d os => Calls.regrown_of (CA.out _ ((E.below BK).below (below_regrown w4 d os))))
      have KB := Lib.hid (show ∀ d os, Calls Tryd.prog 15 #[hostV a2 b2 c2 d2] (grow (redrawn w4 d) os) fun e w'' => e = .returned (str t2) ∧ ∃ p : Regrown, w'' = grow (redrawn w4 p.d) p.os from fun d os => Calls.regrown_of (CB.out _ ((E.below BK).below (below_regrown w4 d os))))
      have KN := Lib.hid (show ∀ d os, Calls Tryd.prog 13 #[.int .i64 n3] (grow (redrawn w4 d) os) fun e w'' => e = .returned (str u1) ∧ ∃ p : Regrown, w'' = grow (redrawn w4 p.d) p.os from fun d os => Calls.regrown_of (CN.out _ ((E.below BK).below (below_regrown w4 d os))))
      have KM := Lib.hid (show ∀ d os, Calls Tryd.prog 13 #[.int .i64 n4] (grow (redrawn w4 d) os) fun e w'' => e = .returned (str u2) ∧ ∃ p : Regrown, w'' = grow (redrawn w4 p.d) p.os from fun d os => Calls.regrown_of (CM.out _ ((E.below BK).below (below_regrown w4 d os))))
      refine wp_region_quiet_below (by kernel_rfl) (by kernel_rfl) ?_
      repeat (quiet_step (first | with_reducible exact KA.out _ _ | with_reducible exact KB.out _ _ | with_reducible exact KN.out _ _ | with_reducible exact KM.out _ _))
      refine wpQuiet_nil ?_
      intro _ hw'
      obtain ⟨⟨dq, osq⟩, hw''⟩ := hw'
      subst hw''
      go_wp2_with fail
      go_ret
      exact ⟨rfl, below_trans BK (below_regrown w4 dq osq)⟩
    | false =>
      have hG := Lib.hid (got_no hg)
      clear hg
      go_wp2_with (go_at_call 9; refine (get_any s0 1000000 _ ?_).mono ?_)
      · exact (E.below B2).alloc _
      rintro e w3 ⟨he, q3⟩
      rw [hG.out] at he
      subst he
      have BK : Below w.heap.size w w3 := (B2.alloc B2.size _).trans (q3.mono (by have := B2.size; simp; omega))
      replace RA := (RA.alloc _).call q3
      replace RB := (RB.alloc _).call q3
      clear q3
      go_wp2_with fail
      have x0 := cell_regrown (show w3.cell? ⟨w.heap.size, 0, none⟩ = some (.int .u8 a1) from RA.cell 0)
      have x1 := cell_regrown (show w3.cell? ⟨w.heap.size, 1, none⟩ = some (.int .u8 b1) from RA.cell 1)
      have x2 := cell_regrown (show w3.cell? ⟨w.heap.size, 2, none⟩ = some (.int .u8 c1) from RA.cell 2)
      have x3 := cell_regrown (show w3.cell? ⟨w.heap.size, 3, none⟩ = some (.int .u8 d1) from RA.cell 3)
      have y0 := cell_regrown (show w3.cell? ⟨w.heap.size + 1, 0, none⟩ = some (.int .u8 a2) from RB.cell 0)
      have y1 := cell_regrown (show w3.cell? ⟨w.heap.size + 1, 1, none⟩ = some (.int .u8 b2) from RB.cell 1)
      have y2 := cell_regrown (show w3.cell? ⟨w.heap.size + 1, 2, none⟩ = some (.int .u8 c2) from RB.cell 2)
      have y3 := cell_regrown (show w3.cell? ⟨w.heap.size + 1, 3, none⟩ = some (.int .u8 d2) from RB.cell 3)
      have KA := Lib.hid (show ∀ d os, Calls Tryd.prog 15 #[hostV a1 b1 c1 d1] (grow (redrawn w3 d) os) fun e w'' => e = .returned (str t1) ∧ ∃ p : Regrown, w'' = grow (redrawn w3 p.d) p.os from fun d os => Calls.regrown_of (CA.out _ ((E.below BK).below (below_regrown w3 d os))))
      have KB := Lib.hid (show ∀ d os, Calls Tryd.prog 15 #[hostV a2 b2 c2 d2] (grow (redrawn w3 d) os) fun e w'' => e = .returned (str t2) ∧ ∃ p : Regrown, w'' = grow (redrawn w3 p.d) p.os from fun d os => Calls.regrown_of (CB.out _ ((E.below BK).below (below_regrown w3 d os))))
      have KN := Lib.hid (show ∀ d os, Calls Tryd.prog 13 #[.int .i64 n3] (grow (redrawn w3 d) os) fun e w'' => e = .returned (str u1) ∧ ∃ p : Regrown, w'' = grow (redrawn w3 p.d) p.os from fun d os => Calls.regrown_of (CN.out _ ((E.below BK).below (below_regrown w3 d os))))
      have KM := Lib.hid (show ∀ d os, Calls Tryd.prog 13 #[.int .i64 n4] (grow (redrawn w3 d) os) fun e w'' => e = .returned (str u2) ∧ ∃ p : Regrown, w'' = grow (redrawn w3 p.d) p.os from fun d os => Calls.regrown_of (CM.out _ ((E.below BK).below (below_regrown w3 d os))))
      refine wp_region_quiet_below (by kernel_rfl) (by kernel_rfl) ?_
      repeat (quiet_step (first | with_reducible exact KA.out _ _ | with_reducible exact KB.out _ _ | with_reducible exact KN.out _ _ | with_reducible exact KM.out _ _))
      refine wpQuiet_nil ?_
      intro _ hw'
      obtain ⟨⟨dq, osq⟩, hw''⟩ := hw'
      subst hw''
      go_wp2_with fail
      go_ret
      exact ⟨rfl, below_trans BK (below_regrown w3 dq osq)⟩

set_option maxRecDepth 100000 in
theorem lifted (os : Os) (started : os.Started) (H : Type) (enc : TypeId × Value → H) :
    ReturnsInHanded {} Tryd.checked os 4 .any (fun w args => (Rows.quadOnlySpec.pre enc Tryd.prog Tryd.f4 [] false w args ∧ laidMetH Tryd.prog laidHere w) ∧ sizedMet enc Tryd.prog Tryd.f4 (OpenSpec.ofChange Rows.quadOnlySpec) false w args)
      (Rows.quadOnlySpec.post enc Tryd.prog Tryd.f4 false true false false) := by
  refine handed started (by kernel_rfl) Tryd.func4 #[.string ⟨#[]⟩, .agg #[.int .u8 0, .int .u8 0, .int .u8 0, .int .u8 0], .agg #[.int .u8 0, .int .u8 0, .int .u8 0, .int .u8 0], .int .i64 0, .int .i64 0] (by kernel_rfl) (by kernel_rfl) (by kernel_rfl) (World.shaped_of_ZipB (by kernel_rfl) (by kernel_rfl))
    (by unfold laidHere; rw [MakeChecks.laidMetH_plain _ _ _ (by kernel_rfl)]; exact laidMet_laidAll _ (by kernel_rfl) (by kernel_rfl)) ?_
  intro W base args ds gs before hval0 hW E
  have hval : ∀ (j : Nat) t v, Tryd.f4.params[j]? = some t → args[j]? = some v → Value.okWide Tryd.prog W .any base t v := hval0
  have hW' := hW
  obtain ⟨p, q, hA0, hV, rfl, _, _⟩ := hW
  have hA : DataW.TrodAll enc Tryd.prog W 0 (fun _ => true) true Tryd.f4.params.toList args.toList ds p := hA0
  rw [Tryd.params4] at hA hval
  obtain ⟨v0, vs0, d0, ds0, p0, q0, hargs, rfl, rfl, r0, t0⟩ := trodAll_cons hA
  obtain ⟨v1, vs1, d1, ds1, p1, q1, rfl, rfl, rfl, r1, t1⟩ := trodAll_cons t0
  obtain ⟨v2, vs2, d2, ds2, p2, q2, rfl, rfl, rfl, r2, t2⟩ := trodAll_cons t1
  obtain ⟨v3, vs3, d3, ds3, p3, q3, rfl, rfl, rfl, r3, t3⟩ := trodAll_cons t2
  obtain ⟨v4, vs4, d4, ds4, p4, q4, rfl, rfl, rfl, r4, t4⟩ := trodAll_cons t3
  obtain ⟨rfl, rfl, rfl⟩ := trodAll_nil t4
  obtain rfl : args = #[v0, v1, v2, v3, v4] := by cases args; simp_all
  obtain ⟨rfl, rfl⟩ := trodVars_none hV
  obtain ⟨x0, rfl, rfl, rfl, w0⟩ := open_string Tryd.underlying9 (hval 0 9 v0 rfl rfl) r0
  obtain ⟨s0, rfl⟩ : ∃ l : List UInt8, x0 = ⟨l.toArray⟩ := ⟨x0.data.toList, by simp⟩
  obtain ⟨a1, b1, c1, d1, rfl, rfl, rfl, wa1, wb1, wc1, wd1⟩ := open_host (hval 1 23 v1 rfl rfl) r1
  obtain ⟨a2, b2, c2, d2, rfl, rfl, rfl, wa2, wb2, wc2, wd2⟩ := open_host (hval 2 23 v2 rfl rfl) r2
  obtain ⟨n3, rfl, rfl, rfl, w3⟩ := open_int Tryd.underlying3 (hval 3 3 v3 rfl rfl) r3
  obtain ⟨n4, rfl, rfl, rfl, w4⟩ := open_int Tryd.underlying3 (hval 4 3 v4 rfl rfl) r4
  clear hA0 hval0
  simp only [List.append_nil] at hW'
  refine (walk s0 (by have := w0; rw [size_mk] at this; unfold maxLen at this; exact this) a1 b1 c1 d1 (byte_wf wa1).1 (byte_wf wa1).2 (byte_wf wb1).1 (byte_wf wb1).2 (byte_wf wc1).1 (byte_wf wc1).2 (byte_wf wd1).1 (byte_wf wd1).2 a2 b2 c2 d2 (byte_wf wa2).1 (byte_wf wa2).2 (byte_wf wb2).1 (byte_wf wb2).2 (byte_wf wc2).1 (byte_wf wc2).2 (byte_wf wd2).1 (byte_wf wd2).2 n3 (int_wf w3).1 (int_wf w3).2 n4 (int_wf w4).1 (int_wf w4).2 W E).mono fun e W' ⟨he, hb⟩ => ?_
  subst he
  exact ⟨_, rfl, told hW' (fun _ _ _ => trodAll_cons_mk (shut_bool Tryd.underlying4 _) trodAll_mk0) (fun _ => trodAll_cons_mk (shut_string Tryd.underlying9 w0) (trodAll_cons_mk (shut_host wa1 wb1 wc1 wd1) (trodAll_cons_mk (shut_host wa2 wb2 wc2 wd2) (trodAll_cons_mk (shut_int Tryd.underlying3 w3) (trodAll_cons_mk (shut_int Tryd.underlying3 w4) trodAll_mk0))))) (fun _ => rfl) hb⟩

theorem over : Rows.QuadOnlySaid :=
  OpenClaim.holds_of_wide 4 Tryd.f4 rfl rfl rfl rfl rfl rfl rfl ⟨rfl, rfl, rfl, rfl, rfl⟩ rfl rfl rfl rfl rfl (by kernel_rfl) Tryd.func4 (by kernel_rfl)
    (of_decide_eq_true (by kernel_rfl)) (by unfold Func.isWrapper; first | (rw [if_pos (by decide +kernel)]; kernel_rfl) | (rw [if_neg (by decide +kernel)]; exact ⟨rfl, rfl⟩))
    (fun os started H enc _ => lifted os started H enc)

theorem proved : Rows.QuadOnlyCardSaid :=
  Claim7.holds_tied_plain_at .later [] Rows.quadOnlyCard.laidKinds true Rows.quadOnlyCard.stood.harness true
    over (fun _ h => by cases h) (by kernel_rfl) (fun _ h => by cases h) quadOnly_row_tie rfl ⟨rfl, rfl⟩ (by kernel_rfl) rfl
    (fun f fn hf hfn => by
      obtain rfl : f = 4 := Option.some.inj ((show Tryd.prog.funcNamed "wharfinger/wharfingerlaw02.QuadOnly" = some 4 by kernel_rfl).symm.trans hf) |>.symm
      obtain rfl : fn = Tryd.f4 := (Option.some.inj (Tryd.func4.symm.trans hfn)).symm
      exact ⟨by kernel_rfl, fun j t ht => by
        rw [Tryd.params4] at ht
        have hm : t ∈ [9, 23, 23, 3, 3] := by simpa using Array.mem_of_getElem? ht
        have hall : ([9, 23, 23, 3, 3].all fun u => !Tryd.prog.wantsStandIn u) = true := by kernel_rfl
        exact (show Tryd.prog.wantsStandIn t = false by simpa using List.all_eq_true.1 hall t hm)⟩)
    (by kernel_rfl)
#print axioms proved
end Go.Proofs.YtnglancebcimaaaDoor.quadOnly
