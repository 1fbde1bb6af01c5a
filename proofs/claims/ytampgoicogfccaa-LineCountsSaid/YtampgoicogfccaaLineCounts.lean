/- Proved: for all bytes and every number the law LineCounts of layer 6 answers true. Conditions: none beyond the row's own (the library's variables start as the program's text lays them: the card ties them). -/
import Derived.Test.YtampgoicogfccaaLineAwake

namespace Go.Proofs.Ytampgoicogfccaa.lineCounts
open Go.Proofs.Ytampgoicogfccaa Go.Proofs.Ytampgoicogfccaa.Ln Go.Proofs.Ytampgoicogfccaa
open Go.ChangeShapes Go.WideShapes Go.ChangeAt Go.RowKit Go.Sort Go.ChangeMaps

set_option linter.unusedVariables false in
set_option maxHeartbeats 2000000 in
set_option maxRecDepth 100000 in
theorem walk (u0 : Value) (s0 : List UInt8) (n1 : Int) (l1 : -9223372036854775808 ≤ n1) (h1 : n1 ≤ 9223372036854775807) (w : World) (y0 : BytesIs w u0 s0) (E : Env w) :
    Calls Try.prog 7 #[u0, .int .i64 n1] w fun e w' => e = .returned (.bool true) ∧ Below w.heap.size w w' := by
  by_cases hlen : 500 < s0.length
  · obtain ⟨pb, cb, rfl⟩ := y0.form
    have hl' : (500 : Int) < (s0.length : Int) := by omega
    clear y0
    go_enter Try.func7, Try.ntmps7
    go_wp2_with (go_at_call 9; refine (awake_any _).mono ?_; rintro e w1 ⟨rfl, b1⟩)
    go_ret
    exact ⟨by first | rfl | simp, b1⟩
  have hl0 : ¬ (500 : Int) < (s0.length : Int) := by omega
  obtain ⟨pb, cb, rfl⟩ := y0.form
  have Y0 := Lib.hid y0
  clear y0
  go_enter Try.func7, Try.ntmps7
  go_wp2_with (go_at_call 9; refine (awake_any _).mono ?_; rintro e w1 ⟨rfl, b1⟩)
  have B1 := Lib.hid b1
  have Y1 := Lib.hid (Y0.out.call b1)
  clear b1 Y0
  go_loop [6, 7, 8] (fun x6 x7 x8 => ∃ (k : Nat), x6 = .int .i64 ((run n1 false none0 (s0.take k)).2.length : Nat) ∧ x7 = .int .i64 ((run n1 true none0 (s0.take k)).2.length : Nat) ∧ x8 = .int .i64 (k : Int) ∧ k ≤ s0.length) (fun _ _ i => s0.length - (intOf i).toNat)
  case atStart => exact ⟨0, rfl, rfl, rfl, Nat.zero_le _⟩
  case round =>
    obtain ⟨k, rfl, rfl, rfl, hk⟩ := hrel
    have L1 := (run_length n1 false none0 (s0.take k)).2
    have L2 := (run_length n1 true none0 (s0.take k)).2
    rw [List.length_take] at L1 L2
    by_cases hlt : k < s0.length
    · obtain ⟨bb, oo, rfl, hal, hcell⟩ := bytes_plain Y1.out (by intro e; have h0 : s0.length = 0 := List.length_eq_zero_iff.2 e; omega)
      have hc := hcell k hlt
      have HA : Hid ((run n1 false none0 (s0.take (k + 1))).2.length = (run n1 false none0 (s0.take k)).2.length + if s0[k] = 10 ∧ (run n1 false none0 (s0.take k)).1.cr = true then 1 else 0) := Lib.hid (by
        rw [run_next hlt]; simp only [List.length_append, step_count]; simp)
      have HB : Hid ((run n1 true none0 (s0.take (k + 1))).2.length = (run n1 true none0 (s0.take k)).2.length + if s0[k] = 10 then 1 else 0) := Lib.hid (by
        rw [run_next hlt]; simp only [List.length_append, step_count]; simp)
      by_cases h10 : s0[k] = 10
      · have q10 : ((s0[k].toNat : Int) == 10) = true := by rw [h10]; rfl
        cases k with
        | zero =>
          have hc : w1.cell? ⟨bb, oo, none⟩ = some (.int .u8 (s0[0].toNat : Int)) := hcell 0 hlt
          have e1 : (run n1 false none0 (s0.take (0 + 1))).2.length = (run n1 false none0 (s0.take 0)).2.length := by rw [HA.out, if_neg (by intro h; exact absurd h.2 (by simp [run, none0]))]; try rfl
          have e2 : (run n1 true none0 (s0.take (0 + 1))).2.length = (run n1 true none0 (s0.take 0)).2.length + 1 := by rw [HB.out, if_pos h10]
          have E1 := Lib.hid e1; have E2 := Lib.hid e2
          clear e1 e2 HA HB hcell h10
          generalize s0[0] = c at *
          generalize (run n1 false none0 (s0.take 0)).2.length = na at *
          generalize (run n1 true none0 (s0.take 0)).2.length = nb at *
          go_wp2_with fail
          go_round
          case rel => exact ⟨0 + 1, by rw [E1.out] <;> first | rfl | go_num | simp, by rw [E2.out] <;> first | rfl | go_num, by first | rfl | go_num, by omega⟩
          case measure => simp [intOf]; omega
        | succ j =>
          have hcr := run_cr (most := n1) (lf := false) (l := s0) (k := j) (by omega) none0
          have hd := hcell j (by omega)
          have hp : 0 < ((j + 1 : Nat) : Int) := by omega
          by_cases h13 : s0[j] = 13
          · have q13 : ((s0[j].toNat : Int) == 13) = true := by rw [h13]; rfl
            have e1 : (run n1 false none0 (s0.take (j + 1 + 1))).2.length = (run n1 false none0 (s0.take (j + 1))).2.length + 1 := by rw [HA.out, if_pos ⟨h10, by rw [hcr, h13]; rfl⟩]
            have e2 : (run n1 true none0 (s0.take (j + 1 + 1))).2.length = (run n1 true none0 (s0.take (j + 1))).2.length + 1 := by rw [HB.out, if_pos h10]
            have E1 := Lib.hid e1; have E2 := Lib.hid e2
            clear e1 e2 HA HB hcell h10 h13 hcr
            generalize s0[j] = d at *
            generalize s0[j + 1] = c at *
            go_wp2_with fail
            go_round
            case rel => exact ⟨j + 1 + 1, by rw [E1.out] <;> first | rfl | go_num | simp, by rw [E2.out] <;> first | rfl | go_num | simp, by go_num, by omega⟩
            case measure => simp [intOf]; omega
          · have q13 : ((s0[j].toNat : Int) == 13) = false := byte_ne h13
            have e1 : (run n1 false none0 (s0.take (j + 1 + 1))).2.length = (run n1 false none0 (s0.take (j + 1))).2.length := by rw [HA.out, if_neg (by intro h; have := h.2; rw [hcr] at this; simp [h13] at this)]; try rfl
            have e2 : (run n1 true none0 (s0.take (j + 1 + 1))).2.length = (run n1 true none0 (s0.take (j + 1))).2.length + 1 := by rw [HB.out, if_pos h10]
            have E1 := Lib.hid e1; have E2 := Lib.hid e2
            clear e1 e2 HA HB hcell h10 h13 hcr
            generalize s0[j] = d at *
            generalize s0[j + 1] = c at *
            go_wp2_with fail
            go_round
            case rel => exact ⟨j + 1 + 1, by rw [E1.out] <;> first | rfl | go_num | simp, by rw [E2.out] <;> first | rfl | go_num | simp, by go_num, by omega⟩
            case measure => simp [intOf]; omega
      · have q10 : ((s0[k].toNat : Int) == 10) = false := byte_ne h10
        have e1 : (run n1 false none0 (s0.take (k + 1))).2.length = (run n1 false none0 (s0.take k)).2.length := by rw [HA.out, if_neg (fun h => h10 h.1)]; try rfl
        have e2 : (run n1 true none0 (s0.take (k + 1))).2.length = (run n1 true none0 (s0.take k)).2.length := by rw [HB.out, if_neg h10]; try rfl
        have E1 := Lib.hid e1; have E2 := Lib.hid e2
        clear e1 e2 HA HB hcell h10
        generalize s0[k] = c at *
        go_wp2_with fail
        go_round
        case rel => exact ⟨k + 1, by rw [E1.out] <;> first | rfl | go_num | simp, by rw [E2.out] <;> first | rfl | go_num | simp, by go_num, by omega⟩
        case measure => simp [intOf]; omega
    · obtain rfl : k = s0.length := by omega
      rw [List.take_length] at L1 L2 ⊢
      have S1 := Lib.hid (fun W (h : BytesIs W (.slice pb s0.length cb) s0) => feed_any none0 (.slice none 0 0) (.slice pb s0.length cb) s0 n1 false (by decide) (by omega) W (.nil W) h)
      have S2 := Lib.hid (fun W (h : BytesIs W (.slice pb s0.length cb) s0) => feed_any none0 (.slice none 0 0) (.slice pb s0.length cb) s0 n1 true (by decide) (by omega) W (.nil W) h)
      unfold FeedPost at S1 S2
      generalize run n1 false none0 s0 = RA at *
      generalize run n1 true none0 s0 = RB at *
      go_wp2_with (first
        | (go_at_call 10; refine (S1.out _ Y1.out).mono ?_; rintro e w2 ⟨x2, y2, rfl, hx2, hy2, b2⟩; obtain ⟨p2, c2, rfl⟩ := hx2.form; obtain ⟨q2, d2, rfl⟩ := hy2.form; have B2 := Lib.hid (below_then B1.out b2); have Y2 := Lib.hid ((Y1.out.call b2).alloc (.cells #[.slice p2 RA.1.b.length c2, .bool RA.1.cr, .bool RA.1.skip] 24)); clear b2 S1 hx2 hy2 Y1)
        | (go_at_call 10; refine (S2.out _ Y2.out).mono ?_; rintro e w3 ⟨x3, y3, rfl, hx3, hy3, b3⟩; obtain ⟨p3, c3, rfl⟩ := hx3.form; obtain ⟨q3, d3, rfl⟩ := hy3.form; have B3 := Lib.hid (below_new B2.out b3); clear b3 S2 hx3 hy3 Y2))
      all_goals (go_ret; exact ⟨by first | rfl | simp, B3.out.alloc B3.out.size _⟩)

set_option maxRecDepth 100000 in
theorem lifted (os : Os) (started : os.Started) (H : Type) (enc : TypeId × Value → H) :
    ReturnsInHanded {} Try.checked os 7 .any (Rows.lineCountsSpec.pre6 enc Try.prog Try.f7 Rows.lineCountsRow.domain false) (Rows.lineCountsSpec.post enc Try.prog Try.f7 false true false false) := by
  refine returnsInHanded_of_change (C := Try.checked) ownKnobs started (by kernel_rfl) Try.func7
    (ChangeSpec.witness6 (enc := enc) (C := Try.checked) false ⟨#[], #[.slice none 0 0, .int .i64 0], []⟩ 8 (by kernel_rfl) (by kernel_rfl) (by kernel_rfl) (by kernel_rfl)) ?_
  intro W base args ds gs before hval0 hW _ _
  have E : Env W := trivial
  have hval : ∀ (j : Nat) t v, Try.f7.params[j]? = some t → args[j]? = some v → Value.okWide Try.prog W .any base t v := hval0
  have hW' := hW
  obtain ⟨p, q, hA0, hV, rfl, _, _⟩ := hW
  have hA : DataW.TrodAll enc Try.prog W 0 (fun _ => true) true Try.f7.params.toList args.toList ds p := hA0
  rw [Try.params7] at hA hval
  obtain ⟨v0, vs0, d0, ds0, p0, q0, hargs, rfl, rfl, r0, t0⟩ := trodAll_cons hA
  obtain ⟨v1, vs1, d1, ds1, p1, q1, rfl, rfl, rfl, r1, t1⟩ := trodAll_cons t0
  obtain ⟨rfl, rfl, rfl⟩ := trodAll_nil t1
  obtain rfl : args = #[v0, v1] := by cases args; simp_all
  obtain ⟨rfl, rfl⟩ := trodVars_none hV
  obtain ⟨s0, y0, k0⟩ := open_bytes (hval 0 22 v0 rfl rfl) r0
  obtain ⟨n1, rfl, rfl, rfl, w1⟩ := open_int Try.underlying3 (hval 1 3 v1 rfl rfl) r1
  clear hA0 hval0
  simp only [List.append_nil] at hW'
  refine (walk v0 s0 n1 (int_wf w1).1 (int_wf w1).2 W y0 E).mono fun e W' ⟨he, hb⟩ => ?_
  subst he
  obtain ⟨pa0, z0⟩ := k0 W' hb
  exact ⟨_, rfl, told hW' (fun _ _ _ => trodAll_cons_mk (shut_bool Try.underlying4 _) trodAll_mk0) (trodAll_cons_mk (z0) (trodAll_cons_mk (shut_int Try.underlying3 w1) trodAll_mk0)) (fun _ => rfl) hb⟩

theorem over : Rows.lineCountsRow.holds Try.pinned (OpenSpec.ofChange Rows.lineCountsSpec) :=
  OpenClaim.holds_of_wide 7 Try.f7 rfl rfl rfl rfl rfl rfl rfl ⟨rfl, rfl, rfl, rfl, rfl⟩ rfl rfl rfl rfl rfl (by kernel_rfl) Try.func7 (by kernel_rfl)
    (of_decide_eq_true (by kernel_rfl)) (by unfold Func.isWrapper; first | (rw [if_pos (by decide +kernel)]; kernel_rfl) | (rw [if_neg (by decide +kernel)]; exact ⟨rfl, rfl⟩))
    (fun os started H enc _ => lifted os started H enc)

theorem proved : Rows.LineCountsSaid :=
  over
#print axioms proved
end Go.Proofs.Ytampgoicogfccaa.lineCounts
