/- Proved: for every state and all bytes the law TelnetLess of layer 5 answers true. Conditions: none beyond the row's own (the library's variables start as the program's text lays them: the card ties them). -/
import Derived.Test.YtkbekabpbgdhfaaDoorTelAwake

namespace Go.Proofs.YtkbekabpbgdhfaaDoor.telnetLess
open Go.Proofs.YtkbekabpbgdhfaaDoor Go.Proofs.YtkbekabpbgdhfaaDoor.Tel Go.Proofs.YtkbekabpbgdhfaaDoor
open Go.ChangeShapes Go.WideShapes Go.ChangeAt Go.RowKit Go.Sort Go.ChangeMaps

set_option linter.unusedVariables false in
set_option maxHeartbeats 2000000 in
set_option maxRecDepth 100000 in
theorem walk (n0 : Int) (l0 : -9223372036854775808 ≤ n0) (h0 : n0 ≤ 9223372036854775807) (u1 : Value) (s1 : List UInt8) (w : World) (y1 : BytesIs w u1 s1) (E : Env w) :
    Calls Tryd.prog 5 #[.int .i64 n0, u1] w fun e w' => e = .returned (.bool true) ∧ Below w.heap.size w w' := by
  by_cases hlen : 500 < s1.length
  · obtain ⟨pb, cb, rfl⟩ := y1.form
    have hl' : (500 : Int) < (s1.length : Int) := by omega
    clear y1
    go_enter Tryd.func5, Tryd.ntmps5
    go_wp2_with (go_at_call 8; refine (awake_any _).mono ?_; rintro e w1 ⟨rfl, b1⟩)
    go_ret
    exact ⟨rfl, b1⟩
  have hl0 : ¬ (500 : Int) < (s1.length : Int) := by omega
  have S1 := Lib.hid (fun W (h : BytesIs W u1 s1) => strip_any n0 u1 s1 (by omega) W h)
  unfold StripPost at S1
  have hsub := run_sub (norm n0) s1
  have hsh := run_short (norm n0) s1
  generalize run (norm n0) s1 = R at *
  obtain ⟨t, z, m⟩ := R
  simp only at S1 hsub hsh
  have HS := Lib.hid hsub
  have Y1 := Lib.hid y1
  obtain ⟨pb, cb, rfl⟩ := y1.form
  clear y1 hsub
  go_enter Tryd.func5, Tryd.ntmps5
  go_wp2_with (first
    | (go_at_call 8; refine (awake_any _).mono ?_; rintro e w1 ⟨rfl, b1⟩; have B1 := Lib.hid b1; clear b1)
    | (go_at_call 9; refine (S1.out _ (Y1.out.call B1.out)).mono ?_; rintro e w2 ⟨x2, rfl, hx2, b2⟩; obtain ⟨p2, c2, rfl⟩ := hx2.form; have B2 := Lib.hid (below_then B1.out b2); have X2 := Lib.hid hx2; have Y2 := Lib.hid ((Y1.out.call B1.out).call b2); clear b2 S1 hx2))
  clear Y1 B1
  go_loopw [9, 10] (fun x9 x10 wr => ∃ (q k : Nat), x9 = .int .i64 (q : Int) ∧ x10 = .int .i64 (k : Int) ∧ k ≤ z.length ∧ q ≤ s1.length ∧ Hid ((z.drop k).Sublist (s1.drop q)) ∧ Hid (Below w2.heap.size w2 wr)) (fun _ i _ => z.length - (intOf i).toNat)
  case atStart => exact ⟨0, 0, rfl, rfl, Nat.zero_le _, Nat.zero_le _, Lib.hid (by simpa using HS.out), Lib.hid (Below.refl _ _)⟩
  case round =>
    obtain ⟨q, k, rfl, rfl, hk, hq, HZ, HB⟩ := hrel
    by_cases hlt : k < z.length
    · obtain ⟨ax, rfl, hax, hxc⟩ := bytes_some X2.out (by intro e; have h0 : z.length = 0 := List.length_eq_zero_iff.2 e; omega)
      have CX := Lib.hid (show w2.cell? (ax.add k) = some (.int .u8 (z[k].toNat : Int)) from hxc k hlt)
      have HZ' : Hid ((z[k] :: z.drop (k + 1)).Sublist (s1.drop q)) := Lib.hid (by have := HZ.out; rwa [List.drop_eq_getElem_cons hlt] at this)
      have hs1 : s1 ≠ [] := by intro e; have hd : s1.drop q = [] := (by rw [e]; simp); have hh := HZ'.out; rw [hd] at hh; exact greedy_some hh
      obtain ⟨ab, rfl, hab, hbc⟩ := bytes_some Y2.out hs1
      have CB := Lib.hid hbc
      clear HZ hxc hbc hs1
      generalize z[k] = c at *
      go_wp2_with fail
      go_loopw [9] (fun x9 wr => ∃ (q : Nat), x9 = .int .i64 (q : Int) ∧ q ≤ s1.length ∧ Hid ((c :: z.drop (k + 1)).Sublist (s1.drop q)) ∧ Hid (Below w2.heap.size w2 wr)) (fun i _ => s1.length - (intOf i).toNat)
      case atStart => exact ⟨q, rfl, hq, HZ', HB⟩
      case round =>
        clear HZ' HB hq
        obtain ⟨q', rfl, hq', HZ, HB⟩ := hrel
        have hlt' : q' < s1.length := by
          by_cases h : q' < s1.length
          · exact h
          · have hd : s1.drop q' = [] := List.drop_eq_nil_of_le (by omega)
            have := HZ.out
            rw [hd] at this
            exact (greedy_some this).elim
        have HD : Hid ((c :: z.drop (k + 1)).Sublist (s1[q'] :: s1.drop (q' + 1))) := Lib.hid (by have := HZ.out; rwa [List.drop_eq_getElem_cons hlt'] at this)
        have cx : wr.cell? (ax.add k) = some (.int .u8 (c.toNat : Int)) := by rw [HB.out.cell (by rw [add_block]; exact hax)]; exact CX.out
        have cb' : wr.cell? (ab.add q') = some (.int .u8 (s1[q'].toNat : Int)) := by rw [HB.out.cell (by rw [add_block]; exact hab)]; exact CB.out q' hlt'
        have HBd := Lib.hid HB.out.drew
        clear HZ HB
        generalize s1[q'] = y at *
        have hg : ((q' : Int) < (s1.length : Int)) := by omega
        by_cases hy : y = c
        · subst hy
          have q1 : ((y.toNat : Int) != (y.toNat : Int)) = false := by simp
          have HT := Lib.hid (greedy_take HD.out)
          clear HD
          go_wp2_with fail
          go_region
          go_wp2_with fail
          go_roundw
          case rel => exact ⟨q' + 1, k + 1, by go_num, by go_num, by omega, by omega, HT, HBd⟩
          case measure => simp [intOf]; omega
        · have q0 : ((y.toNat : Int) == (c.toNat : Int)) = false := byte_ne hy
          have q1 : ((y.toNat : Int) != (c.toNat : Int)) = true := by rw [bne, q0]; rfl
          have HT := Lib.hid (greedy_skip HD.out hy)
          clear HD
          go_wp2_with fail
          go_region
          go_wp2_with fail
          go_roundw
          case rel => exact ⟨q' + 1, by go_num, by omega, HT, HBd⟩
          case measure => simp [intOf]; omega
    · obtain rfl : k = z.length := by omega
      have g1 : (0 : Int) ≤ (m : Int) := by omega
      have g2 : (z.length : Int) + (m : Int) ≤ (s1.length : Int) := by omega
      have hwm : IntKind.i64.wrap ((z.length : Int) + (m : Int)) = (z.length : Int) + (m : Int) := IntWalk.i64_in _ (by omega)
      have BF := Lib.hid (below_then B2.out HB.out)
      clear HB HZ X2 Y2
      go_wp2_with fail
      all_goals (go_ret; exact ⟨by first | rfl | simp, BF.out⟩)

set_option maxRecDepth 100000 in
theorem lifted (os : Os) (started : os.Started) (H : Type) (enc : TypeId × Value → H) :
    ReturnsInHanded {} Tryd.checked os 5 .any (fun w args => (Rows.telnetLessSpec.pre enc Tryd.prog Tryd.f5 [] false w args ∧ laidMetH Tryd.prog laidHere w) ∧ sizedMet enc Tryd.prog Tryd.f5 (OpenSpec.ofChange Rows.telnetLessSpec) false w args)
      (Rows.telnetLessSpec.post enc Tryd.prog Tryd.f5 false true false false) := by
  refine handed started (by kernel_rfl) Tryd.func5 #[.int .i64 0, .slice none 0 0] (by kernel_rfl) (by kernel_rfl) (by kernel_rfl) (World.shaped_of_ZipB (by kernel_rfl) (by kernel_rfl))
    (by unfold laidHere; rw [MakeChecks.laidMetH_plain _ _ _ (by kernel_rfl)]; exact laidMet_laidAll _ (by kernel_rfl) (by kernel_rfl)) ?_
  intro W base args ds gs before hval0 hW E
  have hval : ∀ (j : Nat) t v, Tryd.f5.params[j]? = some t → args[j]? = some v → Value.okWide Tryd.prog W .any base t v := hval0
  have hW' := hW
  obtain ⟨p, q, hA0, hV, rfl, _, _⟩ := hW
  have hA : DataW.TrodAll enc Tryd.prog W 0 (fun _ => true) true Tryd.f5.params.toList args.toList ds p := hA0
  rw [Tryd.params5] at hA hval
  obtain ⟨v0, vs0, d0, ds0, p0, q0, hargs, rfl, rfl, r0, t0⟩ := trodAll_cons hA
  obtain ⟨v1, vs1, d1, ds1, p1, q1, rfl, rfl, rfl, r1, t1⟩ := trodAll_cons t0
  obtain ⟨rfl, rfl, rfl⟩ := trodAll_nil t1
  obtain rfl : args = #[v0, v1] := by cases args; simp_all
  obtain ⟨rfl, rfl⟩ := trodVars_none hV
  obtain ⟨n0, rfl, rfl, rfl, w0⟩ := open_int Tryd.underlying3 (hval 0 3 v0 rfl rfl) r0
  obtain ⟨s1, y1, k1⟩ := open_bytes (hval 1 22 v1 rfl rfl) r1
  clear hA0 hval0
  simp only [List.append_nil] at hW'
  refine (walk n0 (int_wf w0).1 (int_wf w0).2 v1 s1 W y1 E).mono fun e W' ⟨he, hb⟩ => ?_
  subst he
  obtain ⟨pa1, z1⟩ := k1 W' hb
  exact ⟨_, rfl, told hW' (fun _ _ _ => trodAll_cons_mk (shut_bool Tryd.underlying4 _) trodAll_mk0) (trodAll_cons_mk (shut_int Tryd.underlying3 w0) (trodAll_cons_mk (z1) trodAll_mk0)) (fun _ => rfl) hb⟩

theorem over : Rows.TelnetLessSaid :=
  OpenClaim.holds_of_wide 5 Tryd.f5 rfl rfl rfl rfl rfl rfl rfl ⟨rfl, rfl, rfl, rfl, rfl⟩ rfl rfl rfl rfl rfl (by kernel_rfl) Tryd.func5 (by kernel_rfl)
    (of_decide_eq_true (by kernel_rfl)) (by unfold Func.isWrapper; first | (rw [if_pos (by decide +kernel)]; kernel_rfl) | (rw [if_neg (by decide +kernel)]; exact ⟨rfl, rfl⟩))
    (fun os started H enc _ => lifted os started H enc)

theorem proved : Rows.TelnetLessCardSaid :=
  Claim7.holds_tied_plain_at .later [] Rows.telnetLessCard.laidKinds true Rows.telnetLessCard.stood.harness Rows.telnetLessCard.stood.looks
    over (fun _ h => by cases h) (by kernel_rfl) (fun _ h => by cases h) telnetLess_row_tie rfl ⟨rfl, rfl⟩ (by kernel_rfl) rfl
    (fun f fn hf hfn => by
      obtain rfl : f = 5 := Option.some.inj ((show Tryd.prog.funcNamed "wharfinger/wharfingerlaw05.TelnetLess" = some 5 by kernel_rfl).symm.trans hf) |>.symm
      obtain rfl : fn = Tryd.f5 := (Option.some.inj (Tryd.func5.symm.trans hfn)).symm
      exact ⟨by kernel_rfl, fun j t ht => by
        rw [Tryd.params5] at ht
        have hm : t ∈ [3, 22] := by simpa using Array.mem_of_getElem? ht
        have hall : ([3, 22].all fun u => !Tryd.prog.wantsStandIn u) = true := by kernel_rfl
        exact (show Tryd.prog.wantsStandIn t = false by simpa using List.all_eq_true.1 hall t hm)⟩)
    (by kernel_rfl)
#print axioms proved
end Go.Proofs.YtkbekabpbgdhfaaDoor.telnetLess
