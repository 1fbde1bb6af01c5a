/- Proved: for every pinholes (held against 40) and a time: each pinhole's port is told, in order; of those that are left by a sweep they are some of those. Conditions: none beyond the row's own (the library's variables start as the program's text lays them: the card ties them). -/
import Derived.Test.YtaahghjllfkmaaaHoleAwake
import Derived.BigQuiet
import Derived.Deep.QuietTactic
import Derived.Deep.RegionHeld

namespace Go.Proofs.Ytaahghjllfkmaaa.holePorts
open Go.Proofs.Ytaahghjllfkmaaa Go.Proofs.Ytaahghjllfkmaaa.Hl
open Go.ChangeShapes Go.WideShapes Go.ChangeAt Go.RowKit Go.Sort Go.ChangeMaps
set_option linter.unusedSimpArgs false
set_option linter.unusedVariables false
set_option linter.unusedVariables false in
set_option maxHeartbeats 16000000 in
set_option maxRecDepth 100000 in
theorem walk (u0 : Value) (s0 : List Ho) (n1 : Int) (l1 : -9223372036854775808 ≤ n1) (h1 : n1 ≤ 9223372036854775807) (w : World) (y0 : HolesIs w u0 s0) (E : Env w) :
    Calls Try.prog 8 #[u0, .int .i64 n1] w fun e w' => e = .returned (.bool true) ∧ Below w.heap.size w w' := by
  have AWK := Lib.hid (fun W EW => awake_any W EW)
  have B0 := Lib.hid (Below.refl w.heap.size w)
  obtain ⟨p, n, c, rfl, hn⟩ := y0.form
  have HN := Lib.hid hn
  have YL0 := Lib.hid y0
  have hmax := y0.max
  rw [← hn] at hmax
  clear hn y0
  by_cases g : 40 < n
  · have g' : (40 : Int) < (n : Int) := by omega
    go_enter Try.func8, Try.ntmps8
    go_wp2_with (first
        | (go_at_call 10; refine (AWK.out _ (E.below (B0.out))).mono ?_; rintro e w1 ⟨rfl, b1⟩; have B1 := Lib.hid (B0.out.trans (b1.mono B0.out.size)); have YL1 := Lib.hid (YL0.out.call b1); clear YL0))
    all_goals (go_ret; exact ⟨by first | rfl | (simp; done) | (simp; omega), B1.out⟩)
  have g' : ¬ (40 : Int) < (n : Int) := by omega
  have hl : Hid (s0.length ≤ 99999) := Lib.hid (by rw [← HN.out]; omega)
  have hl1 : Hid (s0.length ≤ 100000) := Lib.hid (by rw [← HN.out]; omega)
  obtain ⟨r, hr⟩ : ∃ r, sweep s0 n1 = r := ⟨_, rfl⟩
  obtain ⟨v, hv⟩ : ∃ v, ports s0 = v := ⟨_, rfl⟩
  obtain ⟨v2, hv2⟩ : ∃ v, ports r = v := ⟨_, rfl⟩
  have hrl : r.length ≤ 100000 := by rw [← hr]; exact Nat.le_trans (List.length_filter_le _ _) hl1.out
  obtain ⟨NR, hNR⟩ : ∃ N, r.length = N := ⟨_, rfl⟩
  obtain ⟨N2, hN2⟩ : ∃ N, v2.length = N := ⟨_, rfl⟩
  have hNv : v.length = n := by rw [← hv]; unfold ports; rw [List.length_map, HN.out]
  have hNN : N2 ≤ n := by rw [← hN2, ← hv2, ← hr]; unfold ports; rw [List.length_map, HN.out]; exact List.length_filter_le _ _
  have HP : Hid (∀ k (hk : k < s0.length) (hk' : k < v.length), v[k] = s0[k].port) := Lib.hid (fun k hk hk' => by
    have e : v[k]? = some s0[k].port := by rw [← hv]; unfold ports; rw [List.getElem?_map, List.getElem?_eq_getElem hk]; rfl
    rw [List.getElem?_eq_getElem hk'] at e
    injection e)
  have HF : Hid (v2 = (s0.filter (fun x => decide (n1 < x.dead))).map (fun x => x.port)) := Lib.hid (by rw [← hv2, ← hr]; rfl)
  have HAt : Hid (∀ k (hk : k < s0.length), n1 < s0[k].dead → ∃ (hq : ((s0.take k).filter (fun x => decide (n1 < x.dead))).length < v2.length), v2[((s0.take k).filter (fun x => decide (n1 < x.dead))).length] = s0[k].port) := Lib.hid (fun k hk h => by
    obtain ⟨hq, e⟩ := filter_at (f := fun x => decide (n1 < x.dead)) hk (decide_eq_true h)
    refine ⟨by rw [HF.out, List.length_map]; exact hq, ?_⟩
    have : v2[((s0.take k).filter (fun x => decide (n1 < x.dead))).length]? = some s0[k].port := by rw [HF.out, List.getElem?_map, List.getElem?_eq_getElem hq, e]; rfl
    rw [List.getElem?_eq_getElem (by rw [HF.out, List.length_map]; exact hq)] at this
    injection this)
  have HN2 := Lib.hid hN2
  have HNv := Lib.hid hNv
  have hN9 : n ≤ 40 := by omega
  have hgi : ¬ (n : Int) < (N2 : Int) := by omega
  have hgd : decide (n < N2) = false := decide_eq_false (by omega)
  have H1 := Lib.hid (fun W HR => hports_of (.slice p n c) s0 hl1.out v n hv hNv W HR)
  have H2 := Lib.hid (fun W HR => hsweep_of (.slice p n c) s0 n1 hl1.out r NR hr hNR W HR)
  have H3 := Lib.hid (fun u W HR => hports_of u r hrl v2 N2 hv2 hN2 W HR)
  clear hr hv hv2 hrl hNR hN2 hNv
  go_enter Try.func8, Try.ntmps8
  go_wp2_with (first
      | (go_at_call 10; refine (AWK.out _ (E.below (B0.out))).mono ?_; rintro e w1 ⟨rfl, b1⟩; have B1 := Lib.hid (B0.out.trans (b1.mono B0.out.size)); have YL1 := Lib.hid (YL0.out.call b1); clear YL0)
      | (go_at_call 21; refine (H1.out _ YL1.out).mono ?_; rintro e w2 ⟨⟨p1, c1, rfl, y1⟩, b2⟩; have B2 := Lib.hid (B1.out.trans (b2.mono B1.out.size)); have YL2 := Lib.hid (YL1.out.call b2); clear YL1; have YP2 := Lib.hid y1; clear y1; clear H1)
      | (go_at_call 17; refine (H2.out _ YL2.out).mono ?_; rintro e w3 ⟨⟨p2, c2, rfl, y2⟩, b3⟩; have B3 := Lib.hid (B2.out.trans (b3.mono B2.out.size)); have YL3 := Lib.hid (YL2.out.call b3); clear YL2; have YP3 := Lib.hid (YP2.out.call b3); clear YP2; have YS3 := Lib.hid y2; clear y2; clear H2)
      | (go_at_call 21; refine (H3.out _ _ YS3.out).mono ?_; rintro e w4 ⟨⟨p3, c3, rfl, y3⟩, b4⟩; have B4 := Lib.hid (B3.out.trans (b4.mono B3.out.size)); have YL4 := Lib.hid (YL3.out.call b4); clear YL3; have YP4 := Lib.hid (YP3.out.call b4); clear YP3; have YS4 := Lib.hid (YS3.out.call b4); clear YS3; have YQ4 := Lib.hid y3; clear y3; clear H3))
  go_loopw [8, 9] (fun x8 x9 wr => ∃ (k c0 : Nat), x8 = .int .i64 (c0 : Int) ∧ x9 = .int .i64 (k : Int) ∧ k ≤ n ∧ Hid (c0 = ((s0.take k).filter (fun x => decide (n1 < x.dead))).length) ∧ Hid (Below w4.heap.size w4 wr)) (fun _ i _ => n - (intOf i).toNat)
  case atStart => exact ⟨0, 0, rfl, rfl, Nat.zero_le _, Lib.hid rfl, Lib.hid (Below.refl _ _)⟩
  case round =>
    obtain ⟨k, c0, rfl, rfl, hk, HT, HB⟩ := hrel
    have hc9 : c0 ≤ 40 := by have := HT.out; have h2 := List.length_filter_le (fun x : Ho => decide (n1 < x.dead)) (s0.take k); rw [List.length_take] at h2; omega
    by_cases hlt : k < n
    · have hji : (k : Int) < (n : Int) := by omega
      have HKN : Hid (k + 1 ≤ n) := Lib.hid hlt
      have hkl : k < s0.length := by rw [← HN.out]; exact hlt
      have hkv : k < v.length := by rw [HNv.out]; exact hlt
      obtain ⟨b1, o1, rfl, hb1, hc1⟩ := (YL4.out.call HB.out).some (by omega)
      have a0 := (hc1 k hkl).c0
      have a12 := (hc1 k hkl).c12
      obtain ⟨b2, o2, rfl, hb2, hc2⟩ := (YP4.out.call HB.out).plain (by omega)
      have d0 := hc2 k hkv
      rw [HP.out k hkl hkv] at d0
      have HTN := Lib.hid (filter_next (f := fun x => decide (n1 < x.dead)) hkl)
      have HX : Hid (n1 < s0[k].dead → ∃ (hq : c0 < v2.length), v2[c0] = s0[k].port) := Lib.hid (fun h => by obtain ⟨hq, e⟩ := HAt.out k hkl h; have hT := HT.out; subst hT; exact ⟨hq, e⟩)
      clear hc1 hc2
      generalize s0[k] = x at *
      obtain ⟨zp, hzp⟩ : ∃ z, x.port = z := ⟨_, rfl⟩
      rw [hzp] at d0
      have hne : (zp != x.port) = false := by rw [hzp, bne_self_eq_false]
      have HZ := Lib.hid hzp
      clear hzp
      by_cases h1 : n1 < x.dead
      · have HT2 : Hid (c0 + 1 = ((s0.take (k + 1)).filter (fun x => decide (n1 < x.dead))).length) := Lib.hid (by rw [HTN.out, HT.out, decide_eq_true h1]; simp)
        obtain ⟨hq, hqe⟩ := HX.out h1
        obtain ⟨b3, o3, rfl, hb3, hc3⟩ := (YQ4.out.call HB.out).plain (by omega)
        have e0 := hc3 c0 hq
        rw [hqe] at e0
        obtain ⟨zq, hzq⟩ : ∃ z, x.port = z := ⟨_, rfl⟩
        rw [hzq] at e0
        have hnq : (zq != zp) = false := by rw [← hzq, HZ.out, bne_self_eq_false]
        clear hzq
        have hcN : c0 < N2 := by rw [← HN2.out]; exact hq
        have hcd : decide ((N2 : Int) ≤ (c0 : Int)) = false := decide_eq_false (by omega)
        have hci : (c0 : Int) < (N2 : Int) := by omega
        clear hc3 hqe hq HX HTN
        go_wp2_with fail
        go_quiet (fail)
        go_wp2_with fail
        go_quiet (fail)
        go_wp2_with fail
        go_roundw
        case rel => exact ⟨k + 1, c0 + 1, by go_num, by go_num, HKN.out, HT2, Lib.hid ((HB.out.trans ⟨rfl, rfl, rfl, Nat.le_refl _, fun _ _ => rfl⟩).trans ⟨rfl, rfl, rfl, Nat.le_refl _, fun _ _ => rfl⟩)⟩
        case measure => have := HKN.out; simp [intOf]; omega
      · have HT2 : Hid (c0 = ((s0.take (k + 1)).filter (fun x => decide (n1 < x.dead))).length) := Lib.hid (by rw [HTN.out, HT.out, decide_eq_false h1]; simp)
        clear HX HTN
        go_wp2_with fail
        go_quiet (fail)
        go_wp2_with fail
        go_roundw
        case rel => exact ⟨k + 1, c0, by go_num, by go_num, HKN.out, HT2, Lib.hid (HB.out.trans ⟨rfl, rfl, rfl, Nat.le_refl _, fun _ _ => rfl⟩)⟩
        case measure => have := HKN.out; simp [intOf]; omega
    · have hji : ¬ (k : Int) < (n : Int) := by omega
      have hE : s0.take k = s0 := List.take_of_length_le (by have := HN.out; omega)
      have hcE : c0 = N2 := by rw [← HN2.out, HF.out, List.length_map, HT.out, hE]
      subst hcE
      clear hE
      go_wp2_with fail
      go_ret
      exact ⟨by first | rfl | (simp; done) | (simp; omega), B4.out.trans (HB.out.mono B4.out.size)⟩

set_option maxRecDepth 100000 in
theorem lifted (os : Os) (started : os.Started) (H : Type) (enc : TypeId × Value → H) :
    ReturnsInHanded {} Try.checked os 8 .any (Rows.holePortsSpec.pre6 enc Try.prog Try.f8 Rows.holePortsRow.domain false) (Rows.holePortsSpec.post enc Try.prog Try.f8 false true false false) := by
  refine returnsInHanded_of_change (C := Try.checked) ownKnobs started (by kernel_rfl) Try.func8
    (ChangeSpec.witness6 (enc := enc) (C := Try.checked) false ⟨#[], #[.slice none 0 0, .int .i64 0], []⟩ 8 (by kernel_rfl) (by kernel_rfl) (by kernel_rfl) (by kernel_rfl)) ?_
  intro W base args ds gs before hval0 hW _ _
  have E : Env W := trivial
  have hval : ∀ (j : Nat) t v, Try.f8.params[j]? = some t → args[j]? = some v → Value.okWide Try.prog W .any base t v := hval0
  have hW' := hW
  obtain ⟨p, q, hA0, hV, rfl, _, _⟩ := hW
  have hA : DataW.TrodAll enc Try.prog W 0 (fun _ => true) true Try.f8.params.toList args.toList ds p := hA0
  rw [Try.params8] at hA hval
  obtain ⟨v0, vs0, d0, ds0, p0, q0, hargs, rfl, rfl, r0, t0⟩ := trodAll_cons hA
  obtain ⟨v1, vs1, d1, ds1, p1, q1, rfl, rfl, rfl, r1, t1⟩ := trodAll_cons t0
  obtain ⟨rfl, rfl, rfl⟩ := trodAll_nil t1
  obtain rfl : args = #[v0, v1] := by cases args; simp_all
  obtain ⟨rfl, rfl⟩ := trodVars_none hV
  obtain ⟨s0, y0⟩ := open_holes (hval 0 22 v0 rfl rfl) r0
  obtain ⟨n1, rfl, rfl, rfl, w1⟩ := open_int Try.underlying3 (hval 1 3 v1 rfl rfl) r1
  clear hA0 hval0
  simp only [List.append_nil] at hW'
  refine (walk v0 s0 n1 (int_wf w1).1 (int_wf w1).2 W y0 E).mono fun e W' ⟨he, hb⟩ => ?_
  subst he
  have t0' := Below.trod laid_out (by kernel_rfl) (of_decide_eq_true (by kernel_rfl)) r0 hb (fun x hx => hW'.lt x (by simp [hx]))
  exact ⟨_, rfl, told hW' (fun _ _ _ => trodAll_cons_mk (shut_bool Try.underlying4 _) trodAll_mk0) (trodAll_cons_mk (t0') (trodAll_cons_mk (shut_int Try.underlying3 w1) trodAll_mk0)) (fun _ => rfl) hb⟩

theorem over : Rows.holePortsRow.holds Try.pinned (OpenSpec.ofChange Rows.holePortsSpec) :=
  OpenClaim.holds_of_wide 8 Try.f8 rfl rfl rfl rfl rfl rfl rfl ⟨rfl, rfl, rfl, rfl, rfl⟩ rfl rfl rfl rfl rfl (by kernel_rfl) Try.func8 (by kernel_rfl)
    (of_decide_eq_true (by kernel_rfl)) (by unfold Func.isWrapper; first | (rw [if_pos (by decide +kernel)]; kernel_rfl) | (rw [if_neg (by decide +kernel)]; exact ⟨rfl, rfl⟩))
    (fun os started H enc _ => lifted os started H enc)

theorem proved : Rows.HolePortsSaid :=
  over
#print axioms proved
end Go.Proofs.Ytaahghjllfkmaaa.holePorts
