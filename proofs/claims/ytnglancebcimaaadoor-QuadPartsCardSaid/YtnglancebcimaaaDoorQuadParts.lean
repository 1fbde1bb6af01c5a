/- Proved: for every address and every int the law QuadParts answers true: an address as it is written has three dots and from seven to fifteen bytes; a number as it is written begins by no nought, but alone. Conditions: none beyond the row's own (the library's variables start as the program's text lays them: the card ties them). -/
import Derived.Test.YtnglancebcimaaaDoorQuadAwake
import Derived.Test.YtnglancebcimaaaDoorHostArg
import Derived.Test.YtnglancebcimaaaDoorCards
import Derived.Test.YtnglancebcimaaaDoorQuadFacts
namespace Go.Proofs.YtnglancebcimaaaDoor.quadParts
open Go.Proofs.YtnglancebcimaaaDoor Go.Proofs.YtnglancebcimaaaDoor.Quad
open Go.ChangeShapes Go.WideShapes Go.ChangeAt Go.RowKit Go.Sort Go.ChangeMaps

set_option linter.unusedVariables false in
set_option maxHeartbeats 2000000 in
set_option maxRecDepth 100000 in
theorem walk (a0 b0 c0 d0 : Int) (a0l : 0 ≤ a0) (a0h : a0 ≤ 255) (b0l : 0 ≤ b0) (b0h : b0 ≤ 255) (c0l : 0 ≤ c0) (c0h : c0 ≤ 255) (d0l : 0 ≤ d0) (d0h : d0 ≤ 255) (n1 : Int) (l1 : -9223372036854775808 ≤ n1) (h1 : n1 ≤ 9223372036854775807) (w : World) (E : Env w) :
    Calls Tryd.prog 5 #[hostV a0 b0 c0 d0, .int .i64 n1] w fun e w' => e = .returned (.bool true) ∧ Below w.heap.size w w' := by
  have tl := text_length (a := a0) (b := b0) (c := c0) (d := d0) ⟨a0l, a0h⟩ ⟨b0l, b0h⟩ ⟨c0l, c0h⟩ ⟨d0l, d0h⟩
  have tb := Lib.hid (fun (x : UInt8) hx => text_bytes (a := a0) (b := b0) (c := c0) (d := d0) a0l b0l c0l d0l (x := x) hx)
  have td := Lib.hid (text_dots a0 b0 c0 d0)
  have CT := Lib.hid (fun W (EW : Env W) => text_any a0 b0 c0 d0 a0l a0h b0l b0h c0l c0h d0l d0h W EW)
  generalize textL a0 b0 c0 d0 = l at tl tb td CT
  go_enter Tryd.func5, Tryd.ntmps5
  go_wp2_with (go_at_call 8; refine (awake_any _ ?_).mono ?_)
  · exact E.alloc _
  rintro e w1 ⟨rfl, b1⟩
  have B1 : Below w.heap.size w w1 := ((Below.refl _ _).alloc (Nat.le_refl _) _).trans (b1.mono (by simp))
  have R1 := (IsRow.made w 23 _).call b1
  clear b1
  have x0 : w1.cell? ⟨w.heap.size, 0, none⟩ = some (.int .u8 a0) := R1.cell 0
  have x1 : w1.cell? ⟨w.heap.size, 1, none⟩ = some (.int .u8 b0) := R1.cell 1
  have x2 : w1.cell? ⟨w.heap.size, 2, none⟩ = some (.int .u8 c0) := R1.cell 2
  have x3 : w1.cell? ⟨w.heap.size, 3, none⟩ = some (.int .u8 d0) := R1.cell 3
  go_wp2_with (go_at_call 15; refine (CT.out _ ?_).mono ?_)
  · exact E.below B1
  rintro e w2 ⟨rfl, b2⟩
  have B2 := below_trans B1 b2
  clear b2 x0 x1 x2 x3 R1 B1 CT
  go_wp2_with fail
  go_loop [7, 8] (fun a b => ∃ k : Nat, k ≤ l.length ∧ b = .int .i64 k ∧ a = .int .i64 ((l.take k).count 46 : Nat)) (fun _ b => l.length - (intOf b).toNat)
  case atStart => exact ⟨0, Nat.zero_le _, rfl, rfl⟩
  case round =>
    obtain ⟨k, hk, rfl, rfl⟩ := hrel
    have hcl : (l.take k).count 46 ≤ 15 := Nat.le_trans List.count_le_length (by simp; omega)
    by_cases hlt : k < l.length
    · have hsz : k < (ByteArray.mk l.toArray).size := by rw [size_mk]; exact hlt
      have hx : (ByteArray.mk l.toArray)[k]'hsz = l[k] := rfl
      have hs := count_snoc l k hlt
      rcases tb.out l[k] (List.getElem_mem hlt) with hb | ⟨hb1, hb2⟩
      · have hd : ((((ByteArray.mk l.toArray)[k]'hsz).toNat : Int) == 46) = true := by rw [hx, hb]; rfl
        rw [if_pos (by rw [hb]; rfl)] at hs
        have HS := Lib.hid hs
        clear hs hx
        go_wp2_with fail
        go_round
        case rel => exact ⟨k + 1, by omega, by go_num, by rw [HS.out]; go_num⟩
        case measure => simp [intOf]; omega
      · have hd : ((((ByteArray.mk l.toArray)[k]'hsz).toNat : Int) == 46) = false := by rw [hx, beq_eq_false_iff_ne]; omega
        have hd1 : 48 ≤ (((ByteArray.mk l.toArray)[k]'hsz).toNat : Int) := by rw [hx]; omega
        have hd2 : (((ByteArray.mk l.toArray)[k]'hsz).toNat : Int) ≤ 57 := by rw [hx]; omega
        rw [if_neg (by omega)] at hs
        have HS := Lib.hid hs
        clear hs hx
        go_wp2_with fail
        go_round
        case rel => exact ⟨k + 1, by omega, by go_num, by rw [HS.out]; go_num⟩
        case measure => simp [intOf]; omega
    · obtain rfl : k = l.length := by omega
      have hc3 : (l.take l.length).count 46 = 3 := by rw [List.take_length]; exact td.out
      have nl := itoa_most l1 h1
      have nn := itoa_long n1
      have bd : (((l.count 46 : Nat) : Int) != 3) = false := by rw [td.out]; rfl
      have bz : (((Lib.itoa n1).length : Int) == 0) = false := by rw [beq_eq_false_iff_ne]; omega
      have HC := Lib.hid hc3
      clear hc3
      rcases itoa_front n1 with ⟨rfl, hi⟩ | ⟨hne, b, r, hi, hb⟩
      · have HI := Lib.hid hi
        clear hi
        go_wp2_with (go_at_call 13; refine (num_any 0 l1 h1 _ (E.below B2)).mono ?_; rintro e w3 ⟨he, b3⟩; rw [HI.out] at he; subst he)
        go_ret
        exact ⟨rfl, below_trans B2 b3⟩
      · have HI := Lib.hid hi
        have hlen : (b :: r).length ≤ 20 := by rw [← hi]; exact nl
        have hbn : ((b.toNat : Int) != 48) = true := by rw [bne_iff_ne]; omega
        simp only [List.length_cons] at hlen
        have hr0 : (((r.length : Nat) : Int) + 1 == 0) = false := by rw [beq_eq_false_iff_ne]; omega
        have h0s : 0 < (ByteArray.mk (b :: r).toArray).size := by rw [size_mk]; simp
        have hbm : ((((ByteArray.mk (b :: r).toArray)[0]'h0s).toNat : Int) != 48) = true := hbn
        clear hi nl nn bz
        go_wp2_with (go_at_call 13; refine (num_any n1 l1 h1 _ (E.below B2)).mono ?_; rintro e w3 ⟨he, b3⟩; rw [HI.out] at he; subst he)
        go_ret
        exact ⟨rfl, below_trans B2 b3⟩

set_option maxRecDepth 100000 in
theorem lifted (os : Os) (started : os.Started) (H : Type) (enc : TypeId × Value → H) :
    ReturnsInHanded {} Tryd.checked os 5 .any (fun w args => (Rows.quadPartsSpec.pre enc Tryd.prog Tryd.f5 [] false w args ∧ laidMetH Tryd.prog laidHere w) ∧ sizedMet enc Tryd.prog Tryd.f5 (OpenSpec.ofChange Rows.quadPartsSpec) false w args)
      (Rows.quadPartsSpec.post enc Tryd.prog Tryd.f5 false true false false) := by
  refine handed started (by kernel_rfl) Tryd.func5 #[.agg #[.int .u8 0, .int .u8 0, .int .u8 0, .int .u8 0], .int .i64 0] (by kernel_rfl) (by kernel_rfl) (by kernel_rfl) (World.shaped_of_ZipB (by kernel_rfl) (by kernel_rfl))
    (by unfold laidHere; rw [MakeChecks.laidMetH_plain _ _ _ (by kernel_rfl)]; exact laidMet_laidAll _ (by kernel_rfl) (by kernel_rfl)) ?_
  intro W base args ds gs before hval0 hW E
  have hval : ∀ (j : Nat) t v, Tryd.f5.params[j]? = some t → args[j]? = some v → Value.okWide Tryd.prog W .any base t v := hval0
  have hW' := hW
  obtain ⟨p, q, hA0, hV, rfl, _, _⟩ := hW
  have hA : DataW.TrodAll enc Tryd.prog W 0 (fun _ => true) true Tryd.f5.params.toList args.toList ds p := hA0
  rw [Tryd.params5] at hA hval
  obtain ⟨v0, vs0, d0, ds0, p0, q0, hargs, rfl, rfl, r0, t0⟩ := trodAll_cons hA
  obtain ⟨v1, vs1, d1, ds1, p1, q1, rfl, rfl, rfl, r1, t1⟩ := trodAll_cons t0
  obtain ⟨rfl, rfl, rfl⟩ := trodAll_nil t1
  obtain rfl : args = #[v0, v1] := by cases args; simp_all
  obtain ⟨rfl, rfl⟩ := trodVars_none hV
  obtain ⟨a0, b0, c0, d0, rfl, rfl, rfl, wa0, wb0, wc0, wd0⟩ := open_host (hval 0 23 v0 rfl rfl) r0
  obtain ⟨n1, rfl, rfl, rfl, w1⟩ := open_int Tryd.underlying3 (hval 1 3 v1 rfl rfl) r1
  clear hA0 hval0
  simp only [List.append_nil] at hW'
  refine (walk a0 b0 c0 d0 (byte_wf wa0).1 (byte_wf wa0).2 (byte_wf wb0).1 (byte_wf wb0).2 (byte_wf wc0).1 (byte_wf wc0).2 (byte_wf wd0).1 (byte_wf wd0).2 n1 (int_wf w1).1 (int_wf w1).2 W E).mono fun e W' ⟨he, hb⟩ => ?_
  subst he
  exact ⟨_, rfl, told hW' (fun _ _ _ => trodAll_cons_mk (shut_bool Tryd.underlying4 _) trodAll_mk0) (fun _ => trodAll_cons_mk (shut_host wa0 wb0 wc0 wd0) (trodAll_cons_mk (shut_int Tryd.underlying3 w1) trodAll_mk0)) (fun _ => rfl) hb⟩

theorem over : Rows.QuadPartsSaid :=
  OpenClaim.holds_of_wide 5 Tryd.f5 rfl rfl rfl rfl rfl rfl rfl ⟨rfl, rfl, rfl, rfl, rfl⟩ rfl rfl rfl rfl rfl (by kernel_rfl) Tryd.func5 (by kernel_rfl)
    (of_decide_eq_true (by kernel_rfl)) (by unfold Func.isWrapper; first | (rw [if_pos (by decide +kernel)]; kernel_rfl) | (rw [if_neg (by decide +kernel)]; exact ⟨rfl, rfl⟩))
    (fun os started H enc _ => lifted os started H enc)

theorem proved : Rows.QuadPartsCardSaid :=
  Claim7.holds_tied_plain_at .later [] Rows.quadPartsCard.laidKinds true Rows.quadPartsCard.stood.harness true
    over (fun _ h => by cases h) (by kernel_rfl) (fun _ h => by cases h) quadParts_row_tie rfl ⟨rfl, rfl⟩ (by kernel_rfl) rfl
    (fun f fn hf hfn => by
      obtain rfl : f = 5 := Option.some.inj ((show Tryd.prog.funcNamed "wharfinger/wharfingerlaw02.QuadParts" = some 5 by kernel_rfl).symm.trans hf) |>.symm
      obtain rfl : fn = Tryd.f5 := (Option.some.inj (Tryd.func5.symm.trans hfn)).symm
      exact ⟨by kernel_rfl, fun j t ht => by
        rw [Tryd.params5] at ht
        have hm : t ∈ [23, 3] := by simpa using Array.mem_of_getElem? ht
        have hall : ([23, 3].all fun u => !Tryd.prog.wantsStandIn u) = true := by kernel_rfl
        exact (show Tryd.prog.wantsStandIn t = false by simpa using List.all_eq_true.1 hall t hm)⟩)
    (by kernel_rfl)
#print axioms proved
end Go.Proofs.YtnglancebcimaaaDoor.quadParts
