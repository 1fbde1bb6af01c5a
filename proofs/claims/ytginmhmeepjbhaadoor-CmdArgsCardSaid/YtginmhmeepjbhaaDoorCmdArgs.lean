/- Proved: for every number and every text the law CmdArgs of layer 8 answers true. Conditions: none beyond the row's own (the library's variables start as the program's text lays them: the card ties them). -/
import Derived.Test.YtginmhmeepjbhaaDoorCmdAwake
import Derived.BigQuiet

namespace Go.Proofs.YtginmhmeepjbhaaDoor.cmdArgs
open Go.Proofs.YtginmhmeepjbhaaDoor Go.Proofs.YtginmhmeepjbhaaDoor.Cm Go.Proofs.YtginmhmeepjbhaaDoor.Vb
open Go.ChangeShapes Go.WideShapes Go.ChangeAt Go.RowKit Go.Sort Go.ChangeMaps

set_option linter.unusedVariables false in
set_option maxHeartbeats 2000000 in
set_option maxRecDepth 100000 in
theorem walk (n0 : Int) (l0 : -9223372036854775808 ≤ n0) (h0 : n0 ≤ 9223372036854775807) (s1 : List UInt8) (z1 : s1.length ≤ 9223372036854775807) (w : World)  (E : Env w) :
    Calls Tryd.prog 5 #[.int .i64 n0, str s1] w fun e w' => e = .returned (.bool true) ∧ Below w.heap.size w w' := by
  have HA := Lib.hid (fun W => all_any W)
  by_cases hneg : n0 < 0
  · have B0 := Lib.hid (Below.refl w.heap.size w)
    go_enter Tryd.func5, Tryd.ntmps5
    go_wp2_with (first
          | (go_at_call 9; refine (awake_any _ (E.below (B0.out))).mono ?_; rintro e w1 ⟨rfl, b1⟩; have B1 := Lib.hid (B0.out.trans (b1.mono B0.out.size)))
          | (go_at_call 19; refine (HA.out _).mono ?_; rintro e w2 ⟨p2, c2, rfl, h2, b2⟩; have B2 := Lib.hid (B1.out.trans (b2.mono B1.out.size)); clear h2))
    all_goals (go_ret; exact ⟨by first | rfl | (simp; done) | (simp; omega), B2.out⟩)
  by_cases hover : 36 ≤ n0
  · have B0 := Lib.hid (Below.refl w.heap.size w)
    go_enter Tryd.func5, Tryd.ntmps5
    go_wp2_with (first
          | (go_at_call 9; refine (awake_any _ (E.below (B0.out))).mono ?_; rintro e w1 ⟨rfl, b1⟩; have B1 := Lib.hid (B0.out.trans (b1.mono B0.out.size)))
          | (go_at_call 19; refine (HA.out _).mono ?_; rintro e w2 ⟨p2, c2, rfl, h2, b2⟩; have B2 := Lib.hid (B1.out.trans (b2.mono B1.out.size)); clear h2))
    all_goals (go_ret; exact ⟨by first | rfl | (simp; done) | (simp; omega), B2.out⟩)
  by_cases hlen : 300 < s1.length
  · have hlen' : (300 : Int) < (s1.length : Int) := by omega
    have B0 := Lib.hid (Below.refl w.heap.size w)
    go_enter Tryd.func5, Tryd.ntmps5
    go_wp2_with (first
          | (go_at_call 9; refine (awake_any _ (E.below (B0.out))).mono ?_; rintro e w1 ⟨rfl, b1⟩; have B1 := Lib.hid (B0.out.trans (b1.mono B0.out.size)))
          | (go_at_call 19; refine (HA.out _).mono ?_; rintro e w2 ⟨p2, c2, rfl, h2, b2⟩; have B2 := Lib.hid (B1.out.trans (b2.mono B1.out.size)); clear h2))
    all_goals (go_ret; exact ⟨by first | rfl | (simp; done) | (simp; omega), B2.out⟩)
  have hlen' : ¬ (300 : Int) < (s1.length : Int) := by omega
  obtain ⟨k, rfl⟩ : ∃ k : Nat, n0 = (k : Int) := ⟨n0.toNat, by omega⟩
  have hk : k < verbs.length := by rw [verbs_len]; omega
  have hki : (k : Int) < 36 := by omega
  obtain ⟨vn, vk, va, vp, hv⟩ : ∃ vn vk va vp, verbs[k] = ⟨vn, vk, va, vp⟩ := ⟨_, _, _, _, rfl⟩
  have hmay := may_each (List.getElem_mem hk) s1
  have hle := len_each _ (List.getElem_mem hk)
  have hpe := path_each _ (List.getElem_mem hk)
  have HV := Lib.hid hv
  rw [hv] at hmay hle hpe
  simp only at hmay hle hpe
  have ha0 : 0 ≤ va := hpe.2.1
  have ha2 : va ≤ 2 := hpe.2.2.1
  have HM := Lib.hid (fun W => may_any vn s1 (by omega) (by omega) W)
  have HC := Lib.hid (fun W => clean_any s1 (by omega) W)
  generalize may vn s1 = m at HM hmay
  generalize clean s1 = cl at HC hmay
  clear hv hle hpe hlen hneg hover
  have hneg : ¬ (k : Int) < 0 := by omega
  have hover : ¬ 36 ≤ (k : Int) := by omega
  cases cl with
  | false =>
    have hm : m = false := by rw [hmay]; rfl
    clear hmay
    subst hm
    have B0 := Lib.hid (Below.refl w.heap.size w)
    go_enter Tryd.func5, Tryd.ntmps5
    go_wp2_with (first
          | (go_at_call 9; refine (awake_any _ (E.below (B0.out))).mono ?_; rintro e w1 ⟨rfl, b1⟩; have B1 := Lib.hid (B0.out.trans (b1.mono B0.out.size)))
          | (go_at_call 19; refine (HA.out _).mono ?_; rintro e w2 ⟨p2, c2, rfl, h2, b2⟩; have B2 := Lib.hid (B1.out.trans (b2.mono B1.out.size)); obtain ⟨b, o, rfl, hb, hx⟩ := verbs_open h2; have V2 := Lib.hid h2; clear hx; obtain ⟨q0, q1, q2, q3⟩ := verbs_at h2 k hk; rw [HV.out] at q0 q1 q2 q3; simp only at q0 q1 q2 q3; clear h2)
          | (go_at_call 16; refine (HM.out _).mono ?_; rintro e w3 ⟨rfl, b3⟩; have B3 := Lib.hid (B2.out.trans (b3.mono B2.out.size)))
          | (go_at_call 17; refine (HC.out _).mono ?_; rintro e w4 ⟨rfl, b4⟩; have B4 := Lib.hid (B3.out.trans (b4.mono B3.out.size))))
    all_goals (go_ret; exact ⟨by first | rfl | (simp; done) | (simp; omega), B4.out⟩)
  | true =>
    cases he : (s1 == []) with
    | true =>
      have he' : (s1 != []) = false := by rw [bne, he]; rfl
      rw [he, he'] at hmay
      by_cases h2 : va < 2
      · have hm : m = true := by rw [hmay, decide_eq_false (by omega : ¬ va = 2)]; simp
        clear hmay
        subst hm
        have B0 := Lib.hid (Below.refl w.heap.size w)
        go_enter Tryd.func5, Tryd.ntmps5
        go_wp2_with (first
              | (go_at_call 9; refine (awake_any _ (E.below (B0.out))).mono ?_; rintro e w1 ⟨rfl, b1⟩; have B1 := Lib.hid (B0.out.trans (b1.mono B0.out.size)))
              | (go_at_call 19; refine (HA.out _).mono ?_; rintro e w2 ⟨p2, c2, rfl, h2, b2⟩; have B2 := Lib.hid (B1.out.trans (b2.mono B1.out.size)); obtain ⟨b, o, rfl, hb, hx⟩ := verbs_open h2; have V2 := Lib.hid h2; clear hx; obtain ⟨q0, q1, q2, q3⟩ := verbs_at h2 k hk; rw [HV.out] at q0 q1 q2 q3; simp only at q0 q1 q2 q3; clear h2)
              | (go_at_call 16; refine (HM.out _).mono ?_; rintro e w3 ⟨rfl, b3⟩; have B3 := Lib.hid (B2.out.trans (b3.mono B2.out.size)))
              | (go_at_call 17; refine (HC.out _).mono ?_; rintro e w4 ⟨rfl, b4⟩; have B4 := Lib.hid (B3.out.trans (b4.mono B3.out.size)); have b24 := b3.trans (b4.mono b3.size); have r2 : w4.cell? ⟨b, o + k * 4 + 2, none⟩ = some (.int .i64 va) := (b24.cell (p := ⟨b, o + k * 4 + 2, none⟩) hb).trans q2; clear b24))
        all_goals (go_ret; exact ⟨by first | rfl | (simp; done) | (simp; omega), B4.out⟩)
      · have hm : m = false := by rw [hmay, decide_eq_true (by omega : va = 2)]; simp
        clear hmay
        subst hm
        have B0 := Lib.hid (Below.refl w.heap.size w)
        go_enter Tryd.func5, Tryd.ntmps5
        go_wp2_with (first
              | (go_at_call 9; refine (awake_any _ (E.below (B0.out))).mono ?_; rintro e w1 ⟨rfl, b1⟩; have B1 := Lib.hid (B0.out.trans (b1.mono B0.out.size)))
              | (go_at_call 19; refine (HA.out _).mono ?_; rintro e w2 ⟨p2, c2, rfl, h2, b2⟩; have B2 := Lib.hid (B1.out.trans (b2.mono B1.out.size)); obtain ⟨b, o, rfl, hb, hx⟩ := verbs_open h2; have V2 := Lib.hid h2; clear hx; obtain ⟨q0, q1, q2, q3⟩ := verbs_at h2 k hk; rw [HV.out] at q0 q1 q2 q3; simp only at q0 q1 q2 q3; clear h2)
              | (go_at_call 16; refine (HM.out _).mono ?_; rintro e w3 ⟨rfl, b3⟩; have B3 := Lib.hid (B2.out.trans (b3.mono B2.out.size)))
              | (go_at_call 17; refine (HC.out _).mono ?_; rintro e w4 ⟨rfl, b4⟩; have B4 := Lib.hid (B3.out.trans (b4.mono B3.out.size)); have b24 := b3.trans (b4.mono b3.size); have r2 : w4.cell? ⟨b, o + k * 4 + 2, none⟩ = some (.int .i64 va) := (b24.cell (p := ⟨b, o + k * 4 + 2, none⟩) hb).trans q2; clear b24))
        all_goals (go_ret; exact ⟨by first | rfl | (simp; done) | (simp; omega), B4.out⟩)
    | false =>
      have he' : (s1 != []) = true := by rw [bne, he]; rfl
      rw [he, he'] at hmay
      by_cases h0 : 0 < va
      · have hm : m = true := by rw [hmay, decide_eq_false (by omega : ¬ va = 0)]; simp
        clear hmay
        subst hm
        have B0 := Lib.hid (Below.refl w.heap.size w)
        go_enter Tryd.func5, Tryd.ntmps5
        go_wp2_with (first
              | (go_at_call 9; refine (awake_any _ (E.below (B0.out))).mono ?_; rintro e w1 ⟨rfl, b1⟩; have B1 := Lib.hid (B0.out.trans (b1.mono B0.out.size)))
              | (go_at_call 19; refine (HA.out _).mono ?_; rintro e w2 ⟨p2, c2, rfl, h2, b2⟩; have B2 := Lib.hid (B1.out.trans (b2.mono B1.out.size)); obtain ⟨b, o, rfl, hb, hx⟩ := verbs_open h2; have V2 := Lib.hid h2; clear hx; obtain ⟨q0, q1, q2, q3⟩ := verbs_at h2 k hk; rw [HV.out] at q0 q1 q2 q3; simp only at q0 q1 q2 q3; clear h2)
              | (go_at_call 16; refine (HM.out _).mono ?_; rintro e w3 ⟨rfl, b3⟩; have B3 := Lib.hid (B2.out.trans (b3.mono B2.out.size)))
              | (go_at_call 17; refine (HC.out _).mono ?_; rintro e w4 ⟨rfl, b4⟩; have B4 := Lib.hid (B3.out.trans (b4.mono B3.out.size)); have b24 := b3.trans (b4.mono b3.size); have r2 : w4.cell? ⟨b, o + k * 4 + 2, none⟩ = some (.int .i64 va) := (b24.cell (p := ⟨b, o + k * 4 + 2, none⟩) hb).trans q2; clear b24))
        all_goals (go_ret; exact ⟨by first | rfl | (simp; done) | (simp; omega), B4.out⟩)
      · have hm : m = false := by rw [hmay, decide_eq_true (by omega : va = 0)]; simp
        clear hmay
        subst hm
        have B0 := Lib.hid (Below.refl w.heap.size w)
        go_enter Tryd.func5, Tryd.ntmps5
        go_wp2_with (first
              | (go_at_call 9; refine (awake_any _ (E.below (B0.out))).mono ?_; rintro e w1 ⟨rfl, b1⟩; have B1 := Lib.hid (B0.out.trans (b1.mono B0.out.size)))
              | (go_at_call 19; refine (HA.out _).mono ?_; rintro e w2 ⟨p2, c2, rfl, h2, b2⟩; have B2 := Lib.hid (B1.out.trans (b2.mono B1.out.size)); obtain ⟨b, o, rfl, hb, hx⟩ := verbs_open h2; have V2 := Lib.hid h2; clear hx; obtain ⟨q0, q1, q2, q3⟩ := verbs_at h2 k hk; rw [HV.out] at q0 q1 q2 q3; simp only at q0 q1 q2 q3; clear h2)
              | (go_at_call 16; refine (HM.out _).mono ?_; rintro e w3 ⟨rfl, b3⟩; have B3 := Lib.hid (B2.out.trans (b3.mono B2.out.size)))
              | (go_at_call 17; refine (HC.out _).mono ?_; rintro e w4 ⟨rfl, b4⟩; have B4 := Lib.hid (B3.out.trans (b4.mono B3.out.size)); have b24 := b3.trans (b4.mono b3.size); have r2 : w4.cell? ⟨b, o + k * 4 + 2, none⟩ = some (.int .i64 va) := (b24.cell (p := ⟨b, o + k * 4 + 2, none⟩) hb).trans q2; clear b24))
        all_goals (go_ret; exact ⟨by first | rfl | (simp; done) | (simp; omega), B4.out⟩)

set_option maxRecDepth 100000 in
theorem lifted (os : Os) (started : os.Started) (H : Type) (enc : TypeId × Value → H) :
    ReturnsInHanded {} Tryd.checked os 5 .any (fun w args => (Rows.cmdArgsSpec.pre enc Tryd.prog Tryd.f5 [] false w args ∧ laidMetH Tryd.prog laidHere w) ∧ sizedMet enc Tryd.prog Tryd.f5 (OpenSpec.ofChange Rows.cmdArgsSpec) false w args)
      (Rows.cmdArgsSpec.post enc Tryd.prog Tryd.f5 false true false false) := by
  refine handed started (by kernel_rfl) Tryd.func5 #[.int .i64 0, .string ⟨#[]⟩] (by kernel_rfl) (by kernel_rfl) (by kernel_rfl) (World.shaped_of_ZipB (by kernel_rfl) (by kernel_rfl)) ?_
  intro W base args ds gs before hval0 hW E
  have hval : ∀ (j : Nat) t v, Tryd.f5.params[j]? = some t → args[j]? = some v → Value.okWide Tryd.prog W .any base t v := hval0
  have hW' := hW
  obtain ⟨p, q, hA0, hV, rfl, _, _⟩ := hW
  have hA : DataW.TrodAll enc Tryd.prog W 0 (fun _ => true) true Tryd.f5.params.toList args.toList ds p := hA0
  rw [Tryd.params5] at hA hval
  obtain ⟨v0, vs0, d0, ds0, p0, q0, hargs, rfl, rfl, r0, t0⟩ := trodAll_cons hA
  obtain ⟨v1, vs1, d1, ds1, p1, q1, rfl, rfl, rfl, r1, t1⟩ := trodAll_cons t0
  obtain ⟨rfl, rfl, rfl⟩ := trodAll_nil t1
  obtain rfl : args = #[v0, v1] := by cases args; simp_all
  obtain ⟨rfl, rfl⟩ := trodVars_none hV
  obtain ⟨n0, rfl, rfl, rfl, w0⟩ := open_int Tryd.underlying3 (hval 0 3 v0 rfl rfl) r0
  obtain ⟨x1, rfl, rfl, rfl, w1⟩ := open_string Tryd.underlying9 (hval 1 9 v1 rfl rfl) r1
  obtain ⟨s1, rfl⟩ : ∃ l : List UInt8, x1 = ⟨l.toArray⟩ := ⟨x1.data.toList, by simp⟩
  clear hA0 hval0
  simp only [List.append_nil] at hW'
  refine (walk n0 (int_wf w0).1 (int_wf w0).2 s1 (by have := w1; rw [size_mk] at this; unfold maxLen at this; exact this) W  E).mono fun e W' ⟨he, hb⟩ => ?_
  subst he
  exact ⟨_, rfl, told hW' (fun _ _ _ => trodAll_cons_mk (shut_bool Tryd.underlying4 _) trodAll_mk0) (trodAll_cons_mk (shut_int Tryd.underlying3 w0) (trodAll_cons_mk (shut_string Tryd.underlying9 w1) trodAll_mk0)) (fun _ => rfl) hb⟩

theorem over : Rows.CmdArgsSaid :=
  OpenClaim.holds_of_wide 5 Tryd.f5 rfl rfl rfl rfl rfl rfl rfl ⟨rfl, rfl, rfl, rfl, rfl⟩ rfl rfl rfl rfl rfl (by kernel_rfl) Tryd.func5 (by kernel_rfl)
    (of_decide_eq_true (by kernel_rfl)) (by unfold Func.isWrapper; first | (rw [if_pos (by decide +kernel)]; kernel_rfl) | (rw [if_neg (by decide +kernel)]; exact ⟨rfl, rfl⟩))
    (fun os started H enc _ => lifted os started H enc)

theorem proved : Rows.CmdArgsCardSaid :=
  Claim7.holds_tied_plain_at .later [] Rows.cmdArgsCard.laidKinds true Rows.cmdArgsCard.stood.harness Rows.cmdArgsCard.stood.looks
    over (fun _ h => by cases h) (by kernel_rfl) (fun _ h => by cases h) cmdArgs_row_tie rfl ⟨rfl, rfl⟩ (by kernel_rfl) rfl
    (fun f fn hf hfn => by
      obtain rfl : f = 5 := Option.some.inj ((show Tryd.prog.funcNamed "wharfinger/wharfingerlaw08.CmdArgs" = some 5 by kernel_rfl).symm.trans hf) |>.symm
      obtain rfl : fn = Tryd.f5 := (Option.some.inj (Tryd.func5.symm.trans hfn)).symm
      exact ⟨by kernel_rfl, fun j t ht => by
        rw [Tryd.params5] at ht
        have hm : t ∈ [3, 9] := by simpa using Array.mem_of_getElem? ht
        have hall : ([3, 9].all fun u => !Tryd.prog.wantsStandIn u) = true := by kernel_rfl
        exact (show Tryd.prog.wantsStandIn t = false by simpa using List.all_eq_true.1 hall t hm)⟩)
    (by kernel_rfl)
#print axioms proved
end Go.Proofs.YtginmhmeepjbhaaDoor.cmdArgs
