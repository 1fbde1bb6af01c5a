/- Proved: for every end the law ExtShape answers true: an end as it is written has four marks, begins by its kind, and ends by a mark, and a port stands behind three. Conditions: none beyond the row's own (the library's variables start as the program's text lays them: the card ties them). -/
import Derived.Test.YtchemjppmncmdaaGreatDoorExtAwake
import Derived.Test.YtchemjppmncmdaaGreatDoorEndArg
import Derived.Test.YtchemjppmncmdaaGreatDoorCards
namespace Go.Proofs.YtchemjppmncmdaaGreatDoor.extShape
open Go.Proofs.YtchemjppmncmdaaGreatDoor Go.Proofs.YtchemjppmncmdaaGreatDoor.Quad Go.Proofs.YtchemjppmncmdaaGreatDoor.Six Go.Proofs.YtchemjppmncmdaaGreatDoor.Ext
open Go.ChangeShapes Go.WideShapes Go.ChangeAt Go.RowKit Go.Sort Go.ChangeMaps
theorem piece_at (l : List UInt8) (a b : Nat) : (ByteArray.mk l.toArray).extract a b = ⟨((l.drop a).take (b - a)).toArray⟩ := by
  apply ByteArray.ext
  simp
theorem shape_text (a b c d p : Int) : ∃ m, extL a b c d p = [124, 49, 124] ++ m ++ [124] := ⟨textL a b c d ++ [124] ++ Lib.itoa p, by unfold extL; simp⟩
theorem shape_port (n : Int) : ∃ m, portL n = [40, 124, 124, 124] ++ m ++ [124, 41] := ⟨_, rfl⟩
theorem extL_long {a b c d p : Int} (ha : 0 ≤ a ∧ a ≤ 255) (hb : 0 ≤ b ∧ b ≤ 255) (hc : 0 ≤ c ∧ c ≤ 255) (hd : 0 ≤ d ∧ d ≤ 255) (hp : 1 ≤ p ∧ p ≤ 65535) : (extL a b c d p).length ≤ 100 := by
  have h1 := itoa_short ha.1 ha.2; have h2 := itoa_short hb.1 hb.2; have h3 := itoa_short hc.1 hc.2; have h4 := itoa_short hd.1 hd.2
  have h5 := port_long (n := p) (by omega) hp.2
  unfold extL textL; simp; omega
theorem portL_long {p : Int} (hp : 1 ≤ p ∧ p ≤ 65535) : (portL p).length ≤ 100 := by
  have h5 := port_long (n := p) (by omega) hp.2
  unfold portL; simp; omega

set_option linter.unusedVariables false in
set_option maxHeartbeats 2000000 in
set_option maxRecDepth 100000 in
theorem walk (a0 b0 c0 d0 o0 : Int) (a0l : 0 ≤ a0) (a0h : a0 ≤ 255) (b0l : 0 ≤ b0) (b0h : b0 ≤ 255) (c0l : 0 ≤ c0) (c0h : c0 ≤ 255) (d0l : 0 ≤ d0) (d0h : d0 ≤ 255) (o0l : -9223372036854775808 ≤ o0) (o0h : o0 ≤ 9223372036854775807) (w : World) (E : Env w) :
    Calls Tryz.prog 6 #[endV a0 b0 c0 d0 o0] w fun e w' => e = .returned (.bool true) ∧ Below w.heap.size w w' := by
  go_enter Tryz.func6, Tryz.ntmps6
  go_wp2_with (go_at_call 8; refine (awake_any _ ?_).mono ?_)
  · exact E.alloc _
  rintro e w1 ⟨rfl, b1⟩
  have B1 : Below w.heap.size w w1 := ((Below.refl _ _).alloc (Nat.le_refl _) _).trans (b1.mono (by simp))
  have R1 : IsRow w1 w.heap.size 25 #[.int .u8 a0, .int .u8 b0, .int .u8 c0, .int .u8 d0, .int .i64 o0] := (IsRow.made w _ _).call b1
  have z1 := B1.size
  clear b1
  by_cases hp : 1 ≤ o0 ∧ o0 ≤ 65535
  · have CT := Lib.hid (fun W (EW : Env W) => text_yes a0 b0 c0 d0 o0 a0l a0h b0l b0h c0l c0h d0l d0h hp.1 hp.2 W EW)
    have CP := Lib.hid (fun W (EW : Env W) => port_yes o0 hp.1 hp.2 W EW)
    have hS := shape_text a0 b0 c0 d0 o0
    have hP := shape_port o0
    have hcnt := Lib.hid (extL_count a0l b0l c0l d0l (show 0 ≤ o0 by omega))
    have ll : (extL a0 b0 c0 d0 o0).length ≤ 100 := extL_long ⟨a0l, a0h⟩ ⟨b0l, b0h⟩ ⟨c0l, c0h⟩ ⟨d0l, d0h⟩ hp
    have lp : (portL o0).length ≤ 100 := portL_long hp
    generalize extL a0 b0 c0 d0 o0 = s at CT hS hcnt ll
    generalize portL o0 = t at CP hP lp
    have x0 : w1.cell? ⟨w.heap.size, 0, none⟩ = some (.int .u8 a0) := R1.cell 0
    have x1 : w1.cell? ⟨w.heap.size, 1, none⟩ = some (.int .u8 b0) := R1.cell 1
    have x2 : w1.cell? ⟨w.heap.size, 2, none⟩ = some (.int .u8 c0) := R1.cell 2
    have x3 : w1.cell? ⟨w.heap.size, 3, none⟩ = some (.int .u8 d0) := R1.cell 3
    have x4 : w1.cell? ⟨w.heap.size, 4, none⟩ = some (.int .i64 o0) := R1.cell 4
    go_wp2_with (go_at_call 9; refine (CT.out _ ?_).mono ?_)
    · exact E.below B1
    intro e w2 hh
    first | (have b2 := hh.2; obtain rfl := hh.1; clear hh) | (intro b2; subst hh)
    have B2 : Below w.heap.size w w2 := below_trans B1 b2
    have z2 := B2.size
    have R2 := R1.call b2
    clear b2 x0 x1 x2 x3 x4
    have x4 : w2.cell? ⟨w.heap.size, 4, none⟩ = some (.int .i64 o0) := R2.cell 4
    go_wp2_with (go_at_call 13; refine (CP.out _ ?_).mono ?_)
    · exact E.below B2
    intro e w3 hh
    first | (have b3 := hh.2; obtain rfl := hh.1; clear hh) | (intro b3; subst hh)
    have B3 : Below w.heap.size w w3 := below_trans B2 b3
    have z3 := B3.size
    obtain ⟨m1, hm1⟩ := hS
    obtain ⟨m2, hm2⟩ := hP
    have l1 : 4 ≤ s.length := by rw [hm1]; simp
    have l2 : 6 ≤ t.length := by rw [hm2]; simp
    have e1 : (ByteArray.mk s.toArray).extract 0 3 = ⟨#[124, 49, 124]⟩ := by rw [piece_at]; subst hm1; rfl
    have e2 : (ByteArray.mk t.toArray).extract 0 4 = ⟨#[40, 124, 124, 124]⟩ := by rw [piece_at]; subst hm2; rfl
    have e3 : (ByteArray.mk t.toArray).extract (t.length - 2) t.length = ⟨#[124, 41]⟩ := by
      rw [piece_at]; subst hm2
      simp
    have zs : s.length - 1 < (ByteArray.mk s.toArray).size := by rw [size_of]; omega
    have hlast : ((((ByteArray.mk s.toArray)[s.length - 1]'zs).toNat : Int) == 124) = true := by
      have : (ByteArray.mk s.toArray)[s.length - 1]'zs = s[s.length - 1]'(by omega) := rfl
      rw [this]
      subst hm1
      simp
    have hsl : ∀ W, (Instr.slice 9 (str t) (some (.int .i64 ((t.length : Int) - 2))) none none).run Tryz.prog W = .ok (.string ⟨#[124, 41]⟩) W := fun W => by
      rw [run_slice_string_l W _ _ Tryz.underlying9 .i64 _ (by omega) (by rw [size_of]; omega), size_of, show ((t.length : Int) - 2).toNat = t.length - 2 from by omega, e3]
    clear hm1 hm2
    go_wp2_with fail
    go_loop [8, 9] (fun m i => ∃ k c : Nat, k ≤ s.length ∧ i = .int .i64 k ∧ m = .int .i64 c ∧ Hid ((s.take k).count 124 = c)) (fun _ i => s.length - (intOf i).toNat)
    case atStart => exact ⟨0, 0, Nat.zero_le _, rfl, rfl, Lib.hid (by simp)⟩
    case round =>
      obtain ⟨k, c, hk, rfl, rfl, hcc⟩ := hrel
      by_cases hlt : k < s.length
      · have hsz : k < (ByteArray.mk s.toArray).size := by rw [size_of]; exact hlt
        have hx : (ByteArray.mk s.toArray)[k]'hsz = s[k] := rfl
        have hct : Hid (c ≤ k) := by
          show c ≤ k
          rw [← hcc.out]; exact Nat.le_trans List.count_le_length (by simp; omega)
        have hn : (s.take (k + 1)).count 124 = (s.take k).count 124 + (if s[k] = 124 then 1 else 0) := by
          rw [List.take_succ_eq_append_getElem hlt, List.count_append]
          by_cases h : s[k] = 124
          · rw [if_pos h, h]; rfl
          · rw [if_neg h, List.count_cons_of_ne h]; rfl
        rw [hcc.out] at hn
        have hct' := hct.out
        by_cases hc : s[k] = 124
        · have hq : ((((ByteArray.mk s.toArray)[k]'hsz).toNat : Int) == 124) = true := by rw [hx, hc]; rfl
          rw [if_pos hc] at hn
          have HN := Lib.hid hn
          clear hn hx hc
          go_wp2_with fail
          go_round
          case rel => exact ⟨k + 1, c + 1, by omega, by go_num, by go_num, HN⟩
          case measure => simp [intOf]; omega
        · have hq : ((((ByteArray.mk s.toArray)[k]'hsz).toNat : Int) == 124) = false := by
            rw [hx, beq_eq_false_iff_ne]; intro e; exact hc (UInt8.toNat.inj (by show s[k].toNat = 124; omega))
          rw [if_neg hc] at hn
          have HN := Lib.hid hn
          clear hn hx hc
          go_wp2_with fail
          go_round
          case rel => exact ⟨k + 1, c, by omega, by go_num, rfl, HN⟩
          case measure => simp [intOf]; omega
      · obtain rfl : k = s.length := by omega
        have h4 : c = 4 := by rw [← hcc.out, List.take_length]; exact hcnt.out
        subst h4
        go_wp2_with fail
        go_ret
        exact ⟨rfl, B3⟩
  · have CT := Lib.hid (fun W => text_no a0 b0 c0 d0 o0 (by omega) W)
    have CP := Lib.hid (fun W => port_no o0 (by omega) W)
    have x0 : w1.cell? ⟨w.heap.size, 0, none⟩ = some (.int .u8 a0) := R1.cell 0
    have x1 : w1.cell? ⟨w.heap.size, 1, none⟩ = some (.int .u8 b0) := R1.cell 1
    have x2 : w1.cell? ⟨w.heap.size, 2, none⟩ = some (.int .u8 c0) := R1.cell 2
    have x3 : w1.cell? ⟨w.heap.size, 3, none⟩ = some (.int .u8 d0) := R1.cell 3
    have x4 : w1.cell? ⟨w.heap.size, 4, none⟩ = some (.int .i64 o0) := R1.cell 4
    go_wp2_with (go_at_call 9; refine (CT.out _).mono ?_)
    intro e w2 hh
    first | (have b2 := hh.2; obtain rfl := hh.1; clear hh) | (intro b2; subst hh)
    have B2 : Below w.heap.size w w2 := below_trans B1 b2
    have z2 := B2.size
    have R2 := R1.call b2
    clear b2 x0 x1 x2 x3 x4
    have x4 : w2.cell? ⟨w.heap.size, 4, none⟩ = some (.int .i64 o0) := R2.cell 4
    go_wp2_with (go_at_call 13; refine (CP.out _).mono ?_)
    intro e w3 hh
    first | (have b3 := hh.2; obtain rfl := hh.1; clear hh) | (intro b3; subst hh)
    have B3 : Below w.heap.size w w3 := below_trans B2 b3
    have z3 := B3.size
    go_wp2_with fail
    go_ret
    exact ⟨rfl, B3⟩

set_option maxRecDepth 100000 in
theorem lifted (os : Os) (started : os.Started) (H : Type) (enc : TypeId × Value → H) :
    ReturnsInHanded {} Tryz.checked os 6 .any (fun w args => (Rows.extShapeSpec.pre enc Tryz.prog Tryz.f6 [] false w args ∧ laidMetH Tryz.prog laidHere w) ∧ sizedMet enc Tryz.prog Tryz.f6 (OpenSpec.ofChange Rows.extShapeSpec) false w args)
      (Rows.extShapeSpec.post enc Tryz.prog Tryz.f6 false true false false) := by
  refine handed started (by kernel_rfl) Tryz.func6 #[.agg #[.int .u8 0, .int .u8 0, .int .u8 0, .int .u8 0, .int .i64 0]] (by kernel_rfl) (by kernel_rfl) (by kernel_rfl) (World.shaped_of_ZipB (by kernel_rfl) (by kernel_rfl)) ?_
  intro W base args ds gs before hval0 hW E
  have hval : ∀ (j : Nat) t v, Tryz.f6.params[j]? = some t → args[j]? = some v → Value.okWide Tryz.prog W .any base t v := hval0
  have hW' := hW
  obtain ⟨p, q, hA0, hV, rfl, _, _⟩ := hW
  have hA : DataW.TrodAll enc Tryz.prog W 0 (fun _ => true) true Tryz.f6.params.toList args.toList ds p := hA0
  rw [Tryz.params6] at hA hval
  obtain ⟨v0, vs0, d0, ds0, p0, q0, hargs, rfl, rfl, r0, t0⟩ := trodAll_cons hA
  obtain ⟨rfl, rfl, rfl⟩ := trodAll_nil t0
  obtain rfl : args = #[v0] := by cases args; simp_all
  obtain ⟨rfl, rfl⟩ := trodVars_none hV
  obtain ⟨a0, b0, c0, d0, o0, rfl, rfl, rfl, wa0, wb0, wc0, wd0, wo0⟩ := open_end (hval 0 25 v0 rfl rfl) r0
  clear hA0 hval0
  simp only [List.append_nil] at hW'
  refine (walk a0 b0 c0 d0 o0 (byte_wf wa0).1 (byte_wf wa0).2 (byte_wf wb0).1 (byte_wf wb0).2 (byte_wf wc0).1 (byte_wf wc0).2 (byte_wf wd0).1 (byte_wf wd0).2 (int_wf wo0).1 (int_wf wo0).2 W E).mono fun e W' ⟨he, hb⟩ => ?_
  subst he
  exact ⟨_, rfl, told hW' (fun _ _ _ => trodAll_cons_mk (shut_bool Tryz.underlying4 _) trodAll_mk0) (fun _ => trodAll_cons_mk (shut_end wa0 wb0 wc0 wd0 wo0) trodAll_mk0) (fun _ => rfl) hb⟩

theorem over : Rows.ExtShapeSaid :=
  OpenClaim.holds_of_wide 6 Tryz.f6 rfl rfl rfl rfl rfl rfl rfl ⟨rfl, rfl, rfl, rfl, rfl⟩ rfl rfl rfl rfl rfl (by kernel_rfl) Tryz.func6 (by kernel_rfl)
    (of_decide_eq_true (by kernel_rfl)) (by unfold Func.isWrapper; first | (rw [if_pos (by decide +kernel)]; kernel_rfl) | (rw [if_neg (by decide +kernel)]; exact ⟨rfl, rfl⟩))
    (fun os started H enc _ => lifted os started H enc)

theorem proved : Rows.ExtShapeCardSaid :=
  Claim7.holds_tied_plain_at .later [] Rows.extShapeCard.laidKinds true Rows.extShapeCard.stood.harness true
    over (fun _ h => by cases h) (by kernel_rfl) (fun _ h => by cases h) extShape_row_tie rfl ⟨rfl, rfl⟩ (by kernel_rfl) rfl
    (fun f fn hf hfn => by
      obtain rfl : f = 6 := Option.some.inj ((show Tryz.prog.funcNamed "wharfinger/wharfingerlaw04.ExtShape" = some 6 by kernel_rfl).symm.trans hf) |>.symm
      obtain rfl : fn = Tryz.f6 := (Option.some.inj (Tryz.func6.symm.trans hfn)).symm
      exact ⟨by kernel_rfl, fun j t ht => by
        rw [Tryz.params6] at ht
        have hm : t ∈ [25] := by simpa using Array.mem_of_getElem? ht
        have hall : ([25].all fun u => !Tryz.prog.wantsStandIn u) = true := by kernel_rfl
        exact (show Tryz.prog.wantsStandIn t = false by simpa using List.all_eq_true.1 hall t hm)⟩)
    (by kernel_rfl)
#print axioms proved
end Go.Proofs.YtchemjppmncmdaaGreatDoor.extShape
