/- Proved: for every end and every text the law SixTells answers true: six's Text, Read and Find answer as the document's own do. Conditions: none beyond the row's own (the library's variables start as the program's text lays them: the card ties them). -/
import Derived.Test.YtocfklfomfbioaaDoorSixAwake
import Derived.Test.YtocfklfomfbioaaDoorEndArg
import Derived.Test.YtocfklfomfbioaaDoorCards
import Derived.Test.YtocfklfomfbioaaDoorSixFacts
import Derived.Test.YtocfklfomfbioaaDoorSixRefText
import Derived.Test.YtocfklfomfbioaaDoorSixRefFind
namespace Go.Proofs.YtocfklfomfbioaaDoor.sixTells
open Go.Proofs.YtocfklfomfbioaaDoor Go.Proofs.YtocfklfomfbioaaDoor.Quad Go.Proofs.YtocfklfomfbioaaDoor.Six
open Go.ChangeShapes Go.WideShapes Go.ChangeAt Go.RowKit Go.Sort Go.ChangeMaps

set_option linter.unusedVariables false in
set_option maxHeartbeats 2000000 in
set_option maxRecDepth 100000 in
theorem walk (a0 b0 c0 d0 o0 : Int) (a0l : 0 ≤ a0) (a0h : a0 ≤ 255) (b0l : 0 ≤ b0) (b0h : b0 ≤ 255) (c0l : 0 ≤ c0) (c0h : c0 ≤ 255) (d0l : 0 ≤ d0) (d0h : d0 ≤ 255) (o0l : -9223372036854775808 ≤ o0) (o0h : o0 ≤ 9223372036854775807) (s1 : List UInt8) (z1 : s1.length ≤ 9223372036854775807) (w : World) (E : Env w) :
    Calls Tryd.prog 3 #[endV a0 b0 c0 d0 o0, str s1] w fun e w' => e = .returned (.bool true) ∧ Below w.heap.size w w' := by
  by_cases c100 : 100 < s1.length
  · go_enter Tryd.func3, Tryd.ntmps3
    go_wp2_with (go_at_call 8; refine (awake_any _ ?_).mono ?_)
    · exact E.alloc _
    rintro e w1 ⟨rfl, b1⟩
    go_wp2_with fail
    go_ret
    exact ⟨rfl, ((Below.refl _ _).alloc (Nat.le_refl _) _).trans (b1.mono (by simp))⟩
  obtain ⟨t1, tb, CT, CU⟩ : ∃ (t1 : List UInt8) (tb : Bool), Hid (∀ W, Env W → Calls Tryd.prog 9 #[endV a0 b0 c0 d0 o0] W fun e w' => e = .returned (.tuple #[str t1, .bool tb]) ∧ Below W.heap.size W w') ∧ Hid (∀ W, Calls Tryd.prog 10 #[endV a0 b0 c0 d0 o0] W fun e w' => e = .returned (.tuple #[str t1, .bool tb]) ∧ Below W.heap.size W w') := by
    by_cases hp : 0 ≤ o0 ∧ o0 ≤ 65535
    · exact ⟨_, _, Lib.hid fun W EW => text_yes a0 b0 c0 d0 o0 a0l a0h b0l b0h c0l c0h d0l d0h hp.1 hp.2 W EW, Lib.hid fun W => rtext_yes a0 b0 c0 d0 o0 a0l a0h b0l b0h c0l c0h d0l d0h hp.1 hp.2 W⟩
    · exact ⟨_, _, Lib.hid fun W _ => text_no a0 b0 c0 d0 o0 o0l o0h (by omega) W, Lib.hid fun W => rtext_no a0 b0 c0 d0 o0 o0l o0h (by omega) W⟩
  have CR := Lib.hid (fun W (EW : Env W) => read_any s1 (by omega) W EW)
  have CS := Lib.hid (fun W => rread_any s1 (by omega) W)
  have CF := Lib.hid (fun W (EW : Env W) => find_any s1 (by omega) W EW)
  have CG := Lib.hid (fun W => rfind_any s1 (by omega) W)
  unfold readV at CR CS CF CG
  generalize sixN s1 0 = r0 at CR CS
  generalize sixN s1 1 = r1 at CR CS
  generalize sixN s1 2 = r2 at CR CS
  generalize sixN s1 3 = r3 at CR CS
  generalize sixP s1 = r4 at CR CS
  generalize sixB s1 = rb at CR CS
  generalize sixN (insL s1) 0 = q0 at CF CG
  generalize sixN (insL s1) 1 = q1 at CF CG
  generalize sixN (insL s1) 2 = q2 at CF CG
  generalize sixN (insL s1) 3 = q3 at CF CG
  generalize sixP (insL s1) = q4 at CF CG
  generalize sixB (insL s1) = qb at CF CG
  have hz : ∀ W, (Op.equalIn 10000 25 (endV r0 r1 r2 r3 r4) (endV r0 r1 r2 r3 r4)).run Tryd.prog W = .ok true W := fun W => by rw [equal_ends]; simp
  have hy : ∀ W, (Op.equalIn 10000 25 (endV q0 q1 q2 q3 q4) (endV q0 q1 q2 q3 q4)).run Tryd.prog W = .ok true W := fun W => by rw [equal_ends]; simp
  go_enter Tryd.func3, Tryd.ntmps3
  go_wp2_with (go_at_call 8; refine (awake_any _ ?_).mono ?_)
  · exact E.alloc _
  rintro e w1 ⟨rfl, b1⟩
  have B1 : Below w.heap.size w w1 := ((Below.refl _ _).alloc (Nat.le_refl _) _).trans (b1.mono (by simp))
  have R1 : IsRow w1 w.heap.size 25 #[.int .u8 a0, .int .u8 b0, .int .u8 c0, .int .u8 d0, .int .i64 o0] := (IsRow.made w _ _).call b1
  clear b1
  have x0 : w1.cell? ⟨w.heap.size, 0, none⟩ = some (.int .u8 a0) := R1.cell 0
  have x1 : w1.cell? ⟨w.heap.size, 1, none⟩ = some (.int .u8 b0) := R1.cell 1
  have x2 : w1.cell? ⟨w.heap.size, 2, none⟩ = some (.int .u8 c0) := R1.cell 2
  have x3 : w1.cell? ⟨w.heap.size, 3, none⟩ = some (.int .u8 d0) := R1.cell 3
  have x4 : w1.cell? ⟨w.heap.size, 4, none⟩ = some (.int .i64 o0) := R1.cell 4
  go_wp2_with (go_at_call 9; refine (CT.out _ ?_).mono ?_)
  · exact E.below B1
  rintro e w2 ⟨rfl, b2⟩
  have B2 := below_trans B1 b2
  have R2 := R1.call b2
  clear b2 x0 x1 x2 x3 x4 R1 B1
  have x0 : w2.cell? ⟨w.heap.size, 0, none⟩ = some (.int .u8 a0) := R2.cell 0
  have x1 : w2.cell? ⟨w.heap.size, 1, none⟩ = some (.int .u8 b0) := R2.cell 1
  have x2 : w2.cell? ⟨w.heap.size, 2, none⟩ = some (.int .u8 c0) := R2.cell 2
  have x3 : w2.cell? ⟨w.heap.size, 3, none⟩ = some (.int .u8 d0) := R2.cell 3
  have x4 : w2.cell? ⟨w.heap.size, 4, none⟩ = some (.int .i64 o0) := R2.cell 4
  go_wp2_with (go_at_call 10; refine (CU.out _).mono ?_)
  rintro e w3 ⟨rfl, b3⟩
  have B3 := below_trans B2 b3
  clear b3 x0 x1 x2 x3 x4 R2 B2
  go_wp2_with (go_at_call 11; refine (CR.out _ ?_).mono ?_)
  · exact E.below B3
  rintro e w4 ⟨rfl, b4⟩
  have B4 := below_trans B3 b4
  clear b4 B3
  go_wp2_with (go_at_call 12; refine (CS.out _).mono ?_)
  rintro e w5 ⟨rfl, b5⟩
  have B5 : Below w.heap.size w w5 := (B4.alloc B4.size _).trans (b5.mono (by have := B4.size; simp; omega))
  have RA : IsRow w5 w4.heap.size 25 #[.int .u8 r0, .int .u8 r1, .int .u8 r2, .int .u8 r3, .int .i64 r4] := (IsRow.made w4 _ _).call b5
  clear b5 B4
  go_wp2_with (go_at_call 13; refine (CF.out _ ?_).mono ?_)
  · exact (E.below B5).alloc _
  rintro e w6 ⟨rfl, b6⟩
  have B6 : Below w.heap.size w w6 := (B5.alloc B5.size _).trans (b6.mono (by have := B5.size; simp; omega))
  have RA6 := (RA.alloc _).call b6
  have RB6 : IsRow w6 w5.heap.size 25 #[.int .u8 r0, .int .u8 r1, .int .u8 r2, .int .u8 r3, .int .i64 r4] := (IsRow.made w5 _ _).call b6
  clear b6 B5 RA
  go_wp2_with (go_at_call 14; refine (CG.out _).mono ?_)
  rintro e w7 ⟨rfl, b7⟩
  have B7 : Below w.heap.size w w7 := (B6.alloc B6.size _).trans (b7.mono (by have := B6.size; simp; omega))
  have RA7 := (RA6.alloc _).call b7
  have RB7 := (RB6.alloc _).call b7
  have RC7 : IsRow w7 w6.heap.size 25 #[.int .u8 q0, .int .u8 q1, .int .u8 q2, .int .u8 q3, .int .i64 q4] := (IsRow.made w6 _ _).call b7
  have hA := RA7.lt
  have hB := RB7.lt
  have hC := RC7.lt
  clear b7 B6 RA6 RB6
  have x0 : w7.cell? ⟨w4.heap.size, 0, none⟩ = some (.int .u8 r0) := RA7.cell 0
  have x1 : w7.cell? ⟨w4.heap.size, 1, none⟩ = some (.int .u8 r1) := RA7.cell 1
  have x2 : w7.cell? ⟨w4.heap.size, 2, none⟩ = some (.int .u8 r2) := RA7.cell 2
  have x3 : w7.cell? ⟨w4.heap.size, 3, none⟩ = some (.int .u8 r3) := RA7.cell 3
  have x4 : w7.cell? ⟨w4.heap.size, 4, none⟩ = some (.int .i64 r4) := RA7.cell 4
  have y0 : w7.cell? ⟨w5.heap.size, 0, none⟩ = some (.int .u8 r0) := RB7.cell 0
  have y1 : w7.cell? ⟨w5.heap.size, 1, none⟩ = some (.int .u8 r1) := RB7.cell 1
  have y2 : w7.cell? ⟨w5.heap.size, 2, none⟩ = some (.int .u8 r2) := RB7.cell 2
  have y3 : w7.cell? ⟨w5.heap.size, 3, none⟩ = some (.int .u8 r3) := RB7.cell 3
  have y4 : w7.cell? ⟨w5.heap.size, 4, none⟩ = some (.int .i64 r4) := RB7.cell 4
  have v0 : w7.cell? ⟨w6.heap.size, 0, none⟩ = some (.int .u8 q0) := RC7.cell 0
  have v1 : w7.cell? ⟨w6.heap.size, 1, none⟩ = some (.int .u8 q1) := RC7.cell 1
  have v2 : w7.cell? ⟨w6.heap.size, 2, none⟩ = some (.int .u8 q2) := RC7.cell 2
  have v3 : w7.cell? ⟨w6.heap.size, 3, none⟩ = some (.int .u8 q3) := RC7.cell 3
  have v4 : w7.cell? ⟨w6.heap.size, 4, none⟩ = some (.int .i64 q4) := RC7.cell 4
  go_wp2_with fail
  go_ret
  exact ⟨rfl, B7.alloc B7.size _⟩

set_option maxRecDepth 100000 in
theorem lifted (os : Os) (started : os.Started) (H : Type) (enc : TypeId × Value → H) :
    ReturnsInHanded {} Tryd.checked os 3 .any (fun w args => (Rows.sixTellsSpec.pre enc Tryd.prog Tryd.f3 [] false w args ∧ laidMetH Tryd.prog laidHere w) ∧ sizedMet enc Tryd.prog Tryd.f3 (OpenSpec.ofChange Rows.sixTellsSpec) false w args)
      (Rows.sixTellsSpec.post enc Tryd.prog Tryd.f3 false true false false) := by
  refine handed started (by kernel_rfl) Tryd.func3 #[.agg #[.int .u8 0, .int .u8 0, .int .u8 0, .int .u8 0, .int .i64 0], .string ⟨#[]⟩] (by kernel_rfl) (by kernel_rfl) (by kernel_rfl) (World.shaped_of_ZipB (by kernel_rfl) (by kernel_rfl))
    (by unfold laidHere; rw [MakeChecks.laidMetH_plain _ _ _ (by kernel_rfl)]; exact laidMet_laidAll _ (by kernel_rfl) (by kernel_rfl)) ?_
  intro W base args ds gs before hval0 hW E
  have hval : ∀ (j : Nat) t v, Tryd.f3.params[j]? = some t → args[j]? = some v → Value.okWide Tryd.prog W .any base t v := hval0
  have hW' := hW
  obtain ⟨p, q, hA0, hV, rfl, _, _⟩ := hW
  have hA : DataW.TrodAll enc Tryd.prog W 0 (fun _ => true) true Tryd.f3.params.toList args.toList ds p := hA0
  rw [Tryd.params3] at hA hval
  obtain ⟨v0, vs0, d0, ds0, p0, q0, hargs, rfl, rfl, r0, t0⟩ := trodAll_cons hA
  obtain ⟨v1, vs1, d1, ds1, p1, q1, rfl, rfl, rfl, r1, t1⟩ := trodAll_cons t0
  obtain ⟨rfl, rfl, rfl⟩ := trodAll_nil t1
  obtain rfl : args = #[v0, v1] := by cases args; simp_all
  obtain ⟨rfl, rfl⟩ := trodVars_none hV
  obtain ⟨a0, b0, c0, d0, o0, rfl, rfl, rfl, wa0, wb0, wc0, wd0, wo0⟩ := open_end (hval 0 25 v0 rfl rfl) r0
  obtain ⟨x1, rfl, rfl, rfl, w1⟩ := open_string Tryd.underlying9 (hval 1 9 v1 rfl rfl) r1
  obtain ⟨s1, rfl⟩ : ∃ l : List UInt8, x1 = ⟨l.toArray⟩ := ⟨x1.data.toList, by simp⟩
  clear hA0 hval0
  simp only [List.append_nil] at hW'
  refine (walk a0 b0 c0 d0 o0 (byte_wf wa0).1 (byte_wf wa0).2 (byte_wf wb0).1 (byte_wf wb0).2 (byte_wf wc0).1 (byte_wf wc0).2 (byte_wf wd0).1 (byte_wf wd0).2 (int_wf wo0).1 (int_wf wo0).2 s1 (by have := w1; rw [size_mk] at this; unfold maxLen at this; exact this) W E).mono fun e W' ⟨he, hb⟩ => ?_
  subst he
  exact ⟨_, rfl, told hW' (fun _ _ _ => trodAll_cons_mk (shut_bool Tryd.underlying4 _) trodAll_mk0) (fun _ => trodAll_cons_mk (shut_end wa0 wb0 wc0 wd0 wo0) (trodAll_cons_mk (shut_string Tryd.underlying9 w1) trodAll_mk0)) (fun _ => rfl) hb⟩

theorem over : Rows.SixTellsSaid :=
  OpenClaim.holds_of_wide 3 Tryd.f3 rfl rfl rfl rfl rfl rfl rfl ⟨rfl, rfl, rfl, rfl, rfl⟩ rfl rfl rfl rfl rfl (by kernel_rfl) Tryd.func3 (by kernel_rfl)
    (of_decide_eq_true (by kernel_rfl)) (by unfold Func.isWrapper; first | (rw [if_pos (by decide +kernel)]; kernel_rfl) | (rw [if_neg (by decide +kernel)]; exact ⟨rfl, rfl⟩))
    (fun os started H enc _ => lifted os started H enc)

theorem proved : Rows.SixTellsCardSaid :=
  Claim7.holds_tied_plain_at .later [] Rows.sixTellsCard.laidKinds true Rows.sixTellsCard.stood.harness true
    over (fun _ h => by cases h) (by kernel_rfl) (fun _ h => by cases h) sixTells_row_tie rfl ⟨rfl, rfl⟩ (by kernel_rfl) rfl
    (fun f fn hf hfn => by
      obtain rfl : f = 3 := Option.some.inj ((show Tryd.prog.funcNamed "wharfinger/wharfingerlaw03.SixTells" = some 3 by kernel_rfl).symm.trans hf) |>.symm
      obtain rfl : fn = Tryd.f3 := (Option.some.inj (Tryd.func3.symm.trans hfn)).symm
      exact ⟨by kernel_rfl, fun j t ht => by
        rw [Tryd.params3] at ht
        have hm : t ∈ [25, 9] := by simpa using Array.mem_of_getElem? ht
        have hall : ([25, 9].all fun u => !Tryd.prog.wantsStandIn u) = true := by kernel_rfl
        exact (show Tryd.prog.wantsStandIn t = false by simpa using List.all_eq_true.1 hall t hm)⟩)
    (by kernel_rfl)
#print axioms proved
end Go.Proofs.YtocfklfomfbioaaDoor.sixTells
