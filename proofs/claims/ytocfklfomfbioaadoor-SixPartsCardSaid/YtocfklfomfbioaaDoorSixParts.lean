/- Proved: for every end the law SixParts answers true: an end as it is written has five commas, and digits else, and the last two numbers are its port's. Conditions: none beyond the row's own (the library's variables start as the program's text lays them: the card ties them). -/
import Derived.Test.YtocfklfomfbioaaDoorSixAwake
import Derived.Test.YtocfklfomfbioaaDoorEndArg
import Derived.Test.YtocfklfomfbioaaDoorCards
import Derived.Test.YtocfklfomfbioaaDoorSixFacts
namespace Go.Proofs.YtocfklfomfbioaaDoor.sixParts
open Go.Proofs.YtocfklfomfbioaaDoor Go.Proofs.YtocfklfomfbioaaDoor.Quad Go.Proofs.YtocfklfomfbioaaDoor.Six
open Go.ChangeShapes Go.WideShapes Go.ChangeAt Go.RowKit Go.Sort Go.ChangeMaps

set_option linter.unusedVariables false in
set_option maxHeartbeats 2000000 in
set_option maxRecDepth 100000 in
theorem walk (a0 b0 c0 d0 o0 : Int) (a0l : 0 ≤ a0) (a0h : a0 ≤ 255) (b0l : 0 ≤ b0) (b0h : b0 ≤ 255) (c0l : 0 ≤ c0) (c0h : c0 ≤ 255) (d0l : 0 ≤ d0) (d0h : d0 ≤ 255) (o0l : -9223372036854775808 ≤ o0) (o0h : o0 ≤ 9223372036854775807) (w : World) (E : Env w) :
    Calls Tryd.prog 6 #[endV a0 b0 c0 d0 o0] w fun e w' => e = .returned (.bool true) ∧ Below w.heap.size w w' := by
  by_cases hp : 0 ≤ o0 ∧ o0 ≤ 65535
  · obtain ⟨hp0, hp1⟩ := hp
    have CT := Lib.hid (fun W (EW : Env W) => text_yes a0 b0 c0 d0 o0 a0l a0h b0l b0h c0l c0h d0l d0h hp0 hp1 W EW)
    have tl := six_length (a := a0) (b := b0) (c := c0) (d := d0) (p := o0) ⟨a0l, a0h⟩ ⟨b0l, b0h⟩ ⟨c0l, c0h⟩ ⟨d0l, d0h⟩ ⟨hp0, hp1⟩
    have tb := Lib.hid (fun (x : UInt8) hx => six_bytes (a := a0) (b := b0) (c := c0) (d := d0) (p := o0) a0l b0l c0l d0l hp0 (x := x) hx)
    have ts := Lib.hid (six_small (a := a0) (b := b0) (c := c0) (d := d0) (p := o0) ⟨a0l, a0h⟩ ⟨b0l, b0h⟩ ⟨c0l, c0h⟩ ⟨d0l, d0h⟩ ⟨hp0, hp1⟩)
    have te := Lib.hid (six_seen (a := a0) (b := b0) (c := c0) (d := d0) (p := o0) a0l b0l c0l d0l hp0)
    generalize sixL a0 b0 c0 d0 o0 = l at CT tl tb ts te
    go_enter Tryd.func6, Tryd.ntmps6
    go_wp2_with (go_at_call 8; refine (awake_any _ ?_).mono ?_)
    · exact E.alloc _
    rintro e w1 ⟨rfl, b1⟩
    have B1 : Below w.heap.size w w1 := ((Below.refl _ _).alloc (Nat.le_refl _) _).trans (b1.mono (by simp))
    have R1 : IsRow w1 w.heap.size 25 #[.int .u8 a0, .int .u8 b0, .int .u8 c0, .int .u8 d0, .int .i64 o0] := (IsRow.made w _ _).call b1
    clear b1
    have x0 : w1.cell? ⟨w.heap.size, 0, none⟩ = some (.int .u8 a0) := R1.cell 0
    have x1 : w1.cell? ⟨w.heap.size, 1, none⟩ = some (.int .u8 b0) := R1.cell 1
    have x2 : w1.cell? ⟨w.heap.size, 2, none⟩ = some (.int .u8 c0) := R1.cell 2
    have x3 : w1.cell? ⟨w.heap.size, 3, none⟩ = some (.int .u8 d0) := R1.cell 3
    have x4 : w1.cell? ⟨w.heap.size, 4, none⟩ = some (.int .i64 o0) := R1.cell 4
    go_wp2_with (go_at_call 9; refine (CT.out _ ?_).mono ?_)
    · exact E.below B1
    rintro e w2 ⟨rfl, b2⟩
    have B2 := below_trans B1 b2
    have R2 := R1.call b2
    clear b2 x0 x1 x2 x3 x4 R1 B1 CT
    go_wp2_with fail
    go_loop [6, 7, 8, 9] (fun cm po n i => ∃ k c p m : Nat, k ≤ l.length ∧ i = .int .i64 k ∧ cm = .int .i64 c ∧ po = .int .i64 p ∧ n = .int .i64 m ∧ Hid (see (l.take k) = ⟨c, p, m⟩)) (fun _ _ _ i => l.length - (intOf i).toNat)
    case atStart => exact ⟨0, 0, 0, 0, Nat.zero_le _, rfl, rfl, rfl, rfl, Lib.hid rfl⟩
    case round =>
      obtain ⟨k, c, p, m, hk, rfl, rfl, rfl, rfl, hs⟩ := hrel
      obtain ⟨hm, hpp, hc⟩ := ts.out k
      rw [hs.out] at hm hpp hc
      simp only at hm hpp hc
      by_cases hlt : k < l.length
      · have hsz : k < (ByteArray.mk l.toArray).size := by rw [size_of]; exact hlt
        have hx : (ByteArray.mk l.toArray)[k]'hsz = l[k] := rfl
        have hn := see_next hlt
        rw [hs.out] at hn
        rcases tb.out l[k] (List.getElem_mem hlt) with hb | ⟨hb1, hb2⟩
        · have hd : ((((ByteArray.mk l.toArray)[k]'hsz).toNat : Int) == 44) = true := by rw [hx, hb]; rfl
          rw [hb] at hn
          by_cases h5 : c + 1 = 5
          · obtain rfl : c = 4 := by omega
            have HN : Hid (see (l.take (k + 1)) = ⟨5, 256 * m, 0⟩) := Lib.hid hn
            clear hn hx hb
            go_wp2_with fail
            go_round
            case rel => exact ⟨k + 1, 5, 256 * m, 0, by omega, by go_num, by go_num, by go_num, by go_num, HN⟩
            case measure => simp [intOf]; omega
          · have HN : Hid (see (l.take (k + 1)) = ⟨c + 1, p, 0⟩) := Lib.hid (by rw [hn]; unfold seeOne; simp [h5])
            have h5' : (((c : Int) + 1) == 5) = false := by rw [beq_eq_false_iff_ne]; omega
            clear hn hx hb
            go_wp2_with fail
            go_round
            case rel => exact ⟨k + 1, c + 1, p, 0, by omega, by go_num, by go_num, by go_num, by go_num, HN⟩
            case measure => simp [intOf]; omega
        · have hne : l[k] ≠ 44 := by intro e; rw [e] at hb1; revert hb1; decide
          obtain ⟨x, hxx⟩ : ∃ x : Nat, l[k].toNat = x := ⟨_, rfl⟩
          have hx' : ((ByteArray.mk l.toArray)[k]'hsz).toNat = x := by rw [hx]; exact hxx
          have HN : Hid (see (l.take (k + 1)) = ⟨c, p, 10 * m + (x - 48)⟩) := Lib.hid (by rw [hn]; unfold seeOne; rw [if_neg hne, hxx])
          rw [hxx] at hb1 hb2
          have hd : ((x : Int) == 44) = false := by rw [beq_eq_false_iff_ne]; omega
          clear hn hx hne hxx
          go_wp2_with fail
          go_round
          case rel => exact ⟨k + 1, c, p, 10 * m + (x - 48), by omega, by go_num, by go_num, by go_num, by go_num, HN⟩
          case measure => simp [intOf]; omega
      · obtain rfl : k = l.length := by omega
        have h1 := te.out
        have h2 := hs.out
        rw [List.take_length] at h2
        rw [h2] at h1
        simp only at h1
        obtain ⟨rfl, h3⟩ := h1
        have h3' : (((p : Int) + (m : Int)) == o0) = true := by rw [beq_iff_eq]; omega
        have x4 : w2.cell? ⟨w.heap.size, 4, none⟩ = some (.int .i64 o0) := R2.cell 4
        clear h2 h3
        go_wp2_with fail
        go_ret
        exact ⟨congrArg (fun b => Ending.returned (.bool b)) (decide_eq_true (by omega)), B2⟩
  · have hq : o0 < 0 ∨ 65535 < o0 := by omega
    have CT := Lib.hid (fun W => text_no a0 b0 c0 d0 o0 o0l o0h hq W)
    clear hp hq
    go_enter Tryd.func6, Tryd.ntmps6
    go_wp2_with (go_at_call 8; refine (awake_any _ ?_).mono ?_)
    · exact E.alloc _
    rintro e w1 ⟨rfl, b1⟩
    have B1 : Below w.heap.size w w1 := ((Below.refl _ _).alloc (Nat.le_refl _) _).trans (b1.mono (by simp))
    have R1 : IsRow w1 w.heap.size 25 #[.int .u8 a0, .int .u8 b0, .int .u8 c0, .int .u8 d0, .int .i64 o0] := (IsRow.made w _ _).call b1
    clear b1
    have x0 : w1.cell? ⟨w.heap.size, 0, none⟩ = some (.int .u8 a0) := R1.cell 0
    have x1 : w1.cell? ⟨w.heap.size, 1, none⟩ = some (.int .u8 b0) := R1.cell 1
    have x2 : w1.cell? ⟨w.heap.size, 2, none⟩ = some (.int .u8 c0) := R1.cell 2
    have x3 : w1.cell? ⟨w.heap.size, 3, none⟩ = some (.int .u8 d0) := R1.cell 3
    have x4 : w1.cell? ⟨w.heap.size, 4, none⟩ = some (.int .i64 o0) := R1.cell 4
    go_wp2_with (go_at_call 9; refine (CT.out _).mono ?_; rintro e w2 ⟨rfl, b2⟩)
    go_ret
    exact ⟨rfl, below_trans B1 b2⟩

set_option maxRecDepth 100000 in
theorem lifted (os : Os) (started : os.Started) (H : Type) (enc : TypeId × Value → H) :
    ReturnsInHanded {} Tryd.checked os 6 .any (fun w args => (Rows.sixPartsSpec.pre enc Tryd.prog Tryd.f6 [] false w args ∧ laidMetH Tryd.prog laidHere w) ∧ sizedMet enc Tryd.prog Tryd.f6 (OpenSpec.ofChange Rows.sixPartsSpec) false w args)
      (Rows.sixPartsSpec.post enc Tryd.prog Tryd.f6 false true false false) := by
  refine handed started (by kernel_rfl) Tryd.func6 #[.agg #[.int .u8 0, .int .u8 0, .int .u8 0, .int .u8 0, .int .i64 0]] (by kernel_rfl) (by kernel_rfl) (by kernel_rfl) (World.shaped_of_ZipB (by kernel_rfl) (by kernel_rfl))
    (by unfold laidHere; rw [MakeChecks.laidMetH_plain _ _ _ (by kernel_rfl)]; exact laidMet_laidAll _ (by kernel_rfl) (by kernel_rfl)) ?_
  intro W base args ds gs before hval0 hW E
  have hval : ∀ (j : Nat) t v, Tryd.f6.params[j]? = some t → args[j]? = some v → Value.okWide Tryd.prog W .any base t v := hval0
  have hW' := hW
  obtain ⟨p, q, hA0, hV, rfl, _, _⟩ := hW
  have hA : DataW.TrodAll enc Tryd.prog W 0 (fun _ => true) true Tryd.f6.params.toList args.toList ds p := hA0
  rw [Tryd.params6] at hA hval
  obtain ⟨v0, vs0, d0, ds0, p0, q0, hargs, rfl, rfl, r0, t0⟩ := trodAll_cons hA
  obtain ⟨rfl, rfl, rfl⟩ := trodAll_nil t0
  obtain rfl : args = #[v0] := by cases args; simp_all
  obtain ⟨rfl, rfl⟩ := trodVars_none hV
  obtain ⟨a0, b0, c0, d0, o0, rfl, rfl, rfl, wa0, wb0, wc0, wd0, wo0⟩ := open_end (hval 0 25 v0 rfl rfl) r0
  clear hA0 hval0
  simp only [List.append_nil] at hW'
  refine (walk a0 b0 c0 d0 o0 (byte_wf wa0).1 (byte_wf wa0).2 (byte_wf wb0).1 (byte_wf wb0).2 (byte_wf wc0).1 (byte_wf wc0).2 (byte_wf wd0).1 (byte_wf wd0).2 (int_wf wo0).1 (int_wf wo0).2 W E).mono fun e W' ⟨he, hb⟩ => ?_
  subst he
  exact ⟨_, rfl, told hW' (fun _ _ _ => trodAll_cons_mk (shut_bool Tryd.underlying4 _) trodAll_mk0) (fun _ => trodAll_cons_mk (shut_end wa0 wb0 wc0 wd0 wo0) trodAll_mk0) (fun _ => rfl) hb⟩

theorem over : Rows.SixPartsSaid :=
  OpenClaim.holds_of_wide 6 Tryd.f6 rfl rfl rfl rfl rfl rfl rfl ⟨rfl, rfl, rfl, rfl, rfl⟩ rfl rfl rfl rfl rfl (by kernel_rfl) Tryd.func6 (by kernel_rfl)
    (of_decide_eq_true (by kernel_rfl)) (by unfold Func.isWrapper; first | (rw [if_pos (by decide +kernel)]; kernel_rfl) | (rw [if_neg (by decide +kernel)]; exact ⟨rfl, rfl⟩))
    (fun os started H enc _ => lifted os started H enc)

theorem proved : Rows.SixPartsCardSaid :=
  Claim7.holds_tied_plain_at .later [] Rows.sixPartsCard.laidKinds true Rows.sixPartsCard.stood.harness true
    over (fun _ h => by cases h) (by kernel_rfl) (fun _ h => by cases h) sixParts_row_tie rfl ⟨rfl, rfl⟩ (by kernel_rfl) rfl
    (fun f fn hf hfn => by
      obtain rfl : f = 6 := Option.some.inj ((show Tryd.prog.funcNamed "wharfinger/wharfingerlaw03.SixParts" = some 6 by kernel_rfl).symm.trans hf) |>.symm
      obtain rfl : fn = Tryd.f6 := (Option.some.inj (Tryd.func6.symm.trans hfn)).symm
      exact ⟨by kernel_rfl, fun j t ht => by
        rw [Tryd.params6] at ht
        have hm : t ∈ [25] := by simpa using Array.mem_of_getElem? ht
        have hall : ([25].all fun u => !Tryd.prog.wantsStandIn u) = true := by kernel_rfl
        exact (show Tryd.prog.wantsStandIn t = false by simpa using List.all_eq_true.1 hall t hm)⟩)
    (by kernel_rfl)
#print axioms proved
end Go.Proofs.YtocfklfomfbioaaDoor.sixParts
