/- Proved: for every number of bytes (held against 1 and 250): a path of two hundred bytes may be, and one part more leads too far. Conditions: none beyond the row's own (the library's variables start as the program's text lays them: the card ties them). -/
import Derived.Test.YtajdlaijdgfhhaaDoorPathAwake
import Derived.BigQuiet
import Derived.Deep.QuietTactic

namespace Go.Proofs.YtajdlaijdgfhhaaDoor.pathLong
open Go.Proofs.YtajdlaijdgfhhaaDoor Go.Proofs.YtajdlaijdgfhhaaDoor.Pt Go.Proofs.YtajdlaijdgfhhaaDoor.Cm Go.Proofs.YtajdlaijdgfhhaaDoor.Quad
open Go.ChangeShapes Go.WideShapes Go.ChangeAt Go.RowKit Go.Sort Go.ChangeMaps

set_option linter.unusedVariables false in
set_option maxHeartbeats 2000000 in
set_option maxRecDepth 100000 in
theorem walk (n0 : Int) (l0 : -9223372036854775808 ≤ n0) (h0 : n0 ≤ 9223372036854775807) (w : World)  (E : Env w) :
    Calls Tryd.prog 8 #[.int .i64 n0] w fun e w' => e = .returned (.bool true) ∧ Below w.heap.size w w' := by
  have AWK := Lib.hid (fun W EW => awake_any W EW)
  have B0 := Lib.hid (Below.refl w.heap.size w)
  by_cases q0 : n0 < 1
  · go_enter Tryd.func8, Tryd.ntmps8
    go_wp2_with (first
        | (go_at_call 10; refine (AWK.out _ (E.below (B0.out))).mono ?_; rintro e w1 ⟨rfl, b1⟩; have B1 := Lib.hid (B0.out.trans (b1.mono B0.out.size)); clear AWK))
    all_goals (go_ret; exact ⟨by first | rfl | (simp; done) | (simp; omega), B1.out⟩)
  by_cases q1 : 250 < n0
  · go_enter Tryd.func8, Tryd.ntmps8
    go_wp2_with (first
        | (go_at_call 10; refine (AWK.out _ (E.below (B0.out))).mono ?_; rintro e w1 ⟨rfl, b1⟩; have B1 := Lib.hid (B0.out.trans (b1.mono B0.out.size)); clear AWK))
    all_goals (go_ret; exact ⟨by first | rfl | (simp; done) | (simp; omega), B1.out⟩)
  obtain ⟨N, rfl⟩ : ∃ N : Nat, n0 = (N : Int) := ⟨n0.toNat, by omega⟩
  have hN1 : 1 ≤ N := by omega
  have hN2 : N ≤ 250 := by omega
  obtain ⟨i0, hi, hz0, hz1, hz2⟩ := info_parts info_u8
  have HLN : Hid (∀ k, 1 ≤ k → longP (k + 1) = longP k ++ [(120 : UInt8)]) := Lib.hid (fun k hk => by
    unfold longP
    rw [show k + 1 - 1 = (k - 1) + 1 from by omega, List.replicate_succ']
    rfl)
  go_enter Tryd.func8, Tryd.ntmps8
  go_wp2_with (go_at_call 10; refine (AWK.out _ (E.below (B0.out))).mono ?_; rintro e w1 ⟨rfl, b1⟩; have B1 := Lib.hid b1; clear AWK b1)
  have HR1 : Hid ((w1.alloc (.cells #[.int .u8 47] 5)).ownsRow w.heap.size 5 1 (.slice (some ⟨w1.heap.size, 0, none⟩) 1 1) 1 ((longP 1).map byteV)) := Lib.hid (World.ownsRow_lit w1 #[.int .u8 47] 1 B1.out.size (by unfold maxLen; omega) rfl)
  have HB1 := Lib.hid (B1.out.alloc B1.out.size (.cells #[.int .u8 47] 5))
  go_loopw [4] (fun x4 wr => ∃ (k : Nat) (p : Option Addr) (c : Nat), x4 = .slice p k c ∧ 1 ≤ k ∧ k ≤ N ∧ Hid (wr.ownsRow w.heap.size 5 1 (.slice p k c) k ((longP k).map byteV)) ∧ Hid (Below w.heap.size w wr)) (fun x _ => N - (match x with | .slice _ k _ => k | _ => 0))
  case atStart => exact ⟨1, _, _, rfl, Nat.le_refl _, hN1, HR1, HB1⟩
  case round =>
    obtain ⟨k, p, c, rfl, hk1, hk, HO, HB⟩ := hrel
    by_cases hlt : k < N
    · have hji : (k : Int) < (N : Int) := by omega
      have HK : Hid (k + 1 ≤ N) := Lib.hid hlt
      go_wp2_with (at_builtin; refine wpList_append_own _ rfl _ _ 29 rfl w.heap.size 5 i0 (.int .u8 0) 1 1 Tryd.underlying29 hi hz0 hz1 hz2 rfl (by decide) _ _ _ rfl (HO.out.alloc _) ⟨_, 0, none⟩ 1 1 [.int .u8 120] rfl rfl ?c1 ?c2 ?c3 ?c4 ?c5 ?_)
      case c1 => exact one_new _ _ _
      case c2 => intro y hy; simp only [List.mem_singleton] at hy; subst hy; rfl
      case c3 => unfold maxLen; omega
      case c4 => omega
      case c5 => have := HB.out.size; simp; omega
      intro v' w4 hown' hgrow _
      have HB4 := Lib.hid ((HB.out.alloc HB.out.size (.cells #[.int .u8 120] 5)).grown hgrow (by have := HB.out.size; simp; omega) (own_ge HO.out))
      obtain ⟨p4, c4, rfl⟩ := own_form hown'
      have HO4 : Hid (w4.ownsRow w.heap.size 5 1 (.slice p4 (k + 1) c4) (k + 1) ((longP (k + 1)).map byteV)) := Lib.hid (by rw [HLN.out k hk1, List.map_append]; exact hown')
      clear hown' hgrow
      go_wp2_with fail
      go_roundw
      case rel => exact ⟨k + 1, p4, c4, rfl, by omega, HK.out, HO4, HB4⟩
      case measure => have := HK.out; simp; omega
    · obtain rfl : k = N := by omega
      have hji : ¬ (k : Int) < (k : Int) := by omega
      have hBI : BytesIs wr (.slice p k c) (longP k) := bytes_of_own (by have h := HO.out; rw [show (longP k).length = k from by unfold longP; rw [List.length_cons, List.length_replicate]; omega]; exact h)
      have hcv := str_of_bytes hBI
      have HM := may_long hN1
      have HJ := join_long hN1
      have hxl : (longP k).length ≤ 250 := by unfold longP; rw [List.length_cons, List.length_replicate]; omega
      obtain ⟨y, e, hJ⟩ : ∃ y e, join (longP k) [121] = (y, e) := ⟨_, _, rfl⟩
      rw [hJ] at HJ
      replace HJ : e = if k ≤ 200 then (if k = 1 ∨ k + 2 ≤ 200 then 0 else 5) else 1 := HJ
      have H1 := Lib.hid (fun W EW => join_at (longP k) [121] (by omega) (by decide) y e hJ W EW)
      have H2 := Lib.hid (fun W EW => may_at (longP k) (by omega) (decide (k ≤ 200)) HM W EW)
      have B3 := HB
      clear HO HB HM hJ hBI HB1 HR1 HLN
      generalize longP k = x at *
      clear hi hz0 hz1 hz2 hlt hk hk1 hxl
      by_cases h2 : 200 < k
      · have g2 : (200 : Int) < (k : Int) := by omega
        rw [if_neg (by omega)] at HJ
        rw [decide_eq_false (by omega)] at H2
        subst HJ
        clear h2
        go_wp2_with (first
            | (go_at_call 12; refine (H1.out _ (E.below (B3.out))).mono ?_; rintro e w4 ⟨rfl, b4⟩; have B4 := Lib.hid (B3.out.trans (b4.mono B3.out.size)); clear H1)
            | (go_at_call 15; refine (H2.out _ (E.below (B4.out))).mono ?_; rintro e w5 ⟨rfl, b5⟩; have B5 := Lib.hid (B4.out.trans (b5.mono B4.out.size)); clear H2))
        all_goals (go_ret; exact ⟨by first | rfl | (simp; done) | (simp; omega), B5.out⟩)
      have g2 : ¬ (200 : Int) < (k : Int) := by omega
      rw [if_pos (by omega)] at HJ
      rw [decide_eq_true (by omega)] at H2
      by_cases h3 : k = 1
      · have g3 : ((k : Int) == 1) = true := by rw [beq_iff_eq]; omega
        rw [if_pos (Or.inl h3)] at HJ
        subst HJ
        clear h2 h3
        go_wp2_with (first
            | (go_at_call 12; refine (H1.out _ (E.below (B3.out))).mono ?_; rintro e w4 ⟨rfl, b4⟩; have B4 := Lib.hid (B3.out.trans (b4.mono B3.out.size)); clear H1)
            | (go_at_call 15; refine (H2.out _ (E.below (B4.out))).mono ?_; rintro e w5 ⟨rfl, b5⟩; have B5 := Lib.hid (B4.out.trans (b5.mono B4.out.size)); clear H2))
        all_goals (go_ret; exact ⟨by first | rfl | (simp; done) | (simp; omega), B5.out⟩)
      have g3 : ((k : Int) == 1) = false := by rw [beq_eq_false_iff_ne]; omega
      by_cases h4 : k + 2 ≤ 200
      · have g4 : ¬ (200 : Int) < (k : Int) + 2 := by omega
        rw [if_pos (Or.inr h4)] at HJ
        subst HJ
        clear h2 h3 h4
        go_wp2_with (first
            | (go_at_call 12; refine (H1.out _ (E.below (B3.out))).mono ?_; rintro e w4 ⟨rfl, b4⟩; have B4 := Lib.hid (B3.out.trans (b4.mono B3.out.size)); clear H1)
            | (go_at_call 15; refine (H2.out _ (E.below (B4.out))).mono ?_; rintro e w5 ⟨rfl, b5⟩; have B5 := Lib.hid (B4.out.trans (b5.mono B4.out.size)); clear H2))
        all_goals (go_ret; exact ⟨by first | rfl | (simp; done) | (simp; omega), B5.out⟩)
      have g4 : (200 : Int) < (k : Int) + 2 := by omega
      rw [if_neg (by omega)] at HJ
      subst HJ
      clear h2 h3 h4
      go_wp2_with (first
          | (go_at_call 12; refine (H1.out _ (E.below (B3.out))).mono ?_; rintro e w4 ⟨rfl, b4⟩; have B4 := Lib.hid (B3.out.trans (b4.mono B3.out.size)); clear H1)
          | (go_at_call 15; refine (H2.out _ (E.below (B4.out))).mono ?_; rintro e w5 ⟨rfl, b5⟩; have B5 := Lib.hid (B4.out.trans (b5.mono B4.out.size)); clear H2))
      all_goals (go_ret; exact ⟨by first | rfl | (simp; done) | (simp; omega), B5.out⟩)

set_option maxRecDepth 100000 in
theorem lifted (os : Os) (started : os.Started) (H : Type) (enc : TypeId × Value → H) :
    ReturnsInHanded {} Tryd.checked os 8 .any (fun w args => (Rows.pathLongSpec.pre enc Tryd.prog Tryd.f8 [] false w args ∧ laidMetH Tryd.prog laidHere w) ∧ sizedMet enc Tryd.prog Tryd.f8 (OpenSpec.ofChange Rows.pathLongSpec) false w args)
      (Rows.pathLongSpec.post enc Tryd.prog Tryd.f8 false true false false) := by
  refine handed started (by kernel_rfl) Tryd.func8 #[.int .i64 0] (by kernel_rfl) (by kernel_rfl) (by kernel_rfl) (World.shaped_of_ZipB (by kernel_rfl) (by kernel_rfl))
    (by unfold laidHere; rw [MakeChecks.laidMetH_plain _ _ _ (by kernel_rfl)]; exact laidMet_laidAll _ (by kernel_rfl) (by kernel_rfl)) ?_
  intro W base args ds gs before hval0 hW E
  have hval : ∀ (j : Nat) t v, Tryd.f8.params[j]? = some t → args[j]? = some v → Value.okWide Tryd.prog W .any base t v := hval0
  have hW' := hW
  obtain ⟨p, q, hA0, hV, rfl, _, _⟩ := hW
  have hA : DataW.TrodAll enc Tryd.prog W 0 (fun _ => true) true Tryd.f8.params.toList args.toList ds p := hA0
  rw [Tryd.params8] at hA hval
  obtain ⟨v0, vs0, d0, ds0, p0, q0, hargs, rfl, rfl, r0, t0⟩ := trodAll_cons hA
  obtain ⟨rfl, rfl, rfl⟩ := trodAll_nil t0
  obtain rfl : args = #[v0] := by cases args; simp_all
  obtain ⟨rfl, rfl⟩ := trodVars_none hV
  obtain ⟨n0, rfl, rfl, rfl, w0⟩ := open_int Tryd.underlying3 (hval 0 3 v0 rfl rfl) r0
  clear hA0 hval0
  simp only [List.append_nil] at hW'
  refine (walk n0 (int_wf w0).1 (int_wf w0).2 W  E).mono fun e W' ⟨he, hb⟩ => ?_
  subst he
  exact ⟨_, rfl, told hW' (fun _ _ _ => trodAll_cons_mk (shut_bool Tryd.underlying4 _) trodAll_mk0) (trodAll_cons_mk (shut_int Tryd.underlying3 w0) trodAll_mk0) (fun _ => rfl) hb⟩

theorem over : Rows.PathLongSaid :=
  OpenClaim.holds_of_wide 8 Tryd.f8 rfl rfl rfl rfl rfl rfl rfl ⟨rfl, rfl, rfl, rfl, rfl⟩ rfl rfl rfl rfl rfl (by kernel_rfl) Tryd.func8 (by kernel_rfl)
    (of_decide_eq_true (by kernel_rfl)) (by unfold Func.isWrapper; first | (rw [if_pos (by decide +kernel)]; kernel_rfl) | (rw [if_neg (by decide +kernel)]; exact ⟨rfl, rfl⟩))
    (fun os started H enc _ => lifted os started H enc)

theorem proved : Rows.PathLongCardSaid :=
  Claim7.holds_tied_plain_at .later [] Rows.pathLongCard.laidKinds true Rows.pathLongCard.stood.harness Rows.pathLongCard.stood.looks
    over (fun _ h => by cases h) (by kernel_rfl) (fun _ h => by cases h) pathLong_row_tie rfl ⟨rfl, rfl⟩ (by kernel_rfl) rfl
    (fun f fn hf hfn => by
      obtain rfl : f = 8 := Option.some.inj ((show Tryd.prog.funcNamed "wharfinger/wharfingerlaw10.PathLong" = some 8 by kernel_rfl).symm.trans hf) |>.symm
      obtain rfl : fn = Tryd.f8 := (Option.some.inj (Tryd.func8.symm.trans hfn)).symm
      exact ⟨by kernel_rfl, fun j t ht => by
        rw [Tryd.params8] at ht
        have hm : t ∈ [3] := by simpa using Array.mem_of_getElem? ht
        have hall : ([3].all fun u => !Tryd.prog.wantsStandIn u) = true := by kernel_rfl
        exact (show Tryd.prog.wantsStandIn t = false by simpa using List.all_eq_true.1 hall t hm)⟩)
    (by kernel_rfl)
#print axioms proved
end Go.Proofs.YtajdlaijdgfhhaaDoor.pathLong
