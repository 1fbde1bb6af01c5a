/- Proved: for every end, every number and every text the law ExtTells answers true: ext's Text, Read, Port and Find answer as the document's own do. Conditions: none beyond the row's own (the library's variables start as the program's text lays them: the card ties them). -/
import Derived.Test.YtchemjppmncmdaaGreatDoorExtAwake
import Derived.Test.YtchemjppmncmdaaGreatDoorEndArg
import Derived.Test.YtchemjppmncmdaaGreatDoorCards
import Derived.Test.YtchemjppmncmdaaGreatDoorExtRefRead
import Derived.Test.YtchemjppmncmdaaGreatDoorExtRefFind
namespace Go.Proofs.YtchemjppmncmdaaGreatDoor.extTells
open Go.Proofs.YtchemjppmncmdaaGreatDoor Go.Proofs.YtchemjppmncmdaaGreatDoor.Quad Go.Proofs.YtchemjppmncmdaaGreatDoor.Six Go.Proofs.YtchemjppmncmdaaGreatDoor.Ext
open Go.ChangeShapes Go.WideShapes Go.ChangeAt Go.RowKit Go.Sort Go.ChangeMaps

set_option linter.unusedVariables false in
set_option maxHeartbeats 2000000 in
set_option maxRecDepth 100000 in
theorem walk (a0 b0 c0 d0 o0 : Int) (a0l : 0 ≤ a0) (a0h : a0 ≤ 255) (b0l : 0 ≤ b0) (b0h : b0 ≤ 255) (c0l : 0 ≤ c0) (c0h : c0 ≤ 255) (d0l : 0 ≤ d0) (d0h : d0 ≤ 255) (o0l : -9223372036854775808 ≤ o0) (o0h : o0 ≤ 9223372036854775807) (n1 : Int) (l1 : -9223372036854775808 ≤ n1) (h1 : n1 ≤ 9223372036854775807) (s2 : List UInt8) (z2 : s2.length ≤ 9223372036854775807) (w : World) (E : Env w) :
    Calls Tryz.prog 3 #[endV a0 b0 c0 d0 o0, .int .i64 n1, str s2] w fun e w' => e = .returned (.bool true) ∧ Below w.heap.size w w' := by
  by_cases c100 : 100 < s2.length
  · go_enter Tryz.func3, Tryz.ntmps3
    go_wp2_with (go_at_call 8; refine (awake_any _ ?_).mono ?_)
    · exact E.alloc _
    rintro e w1 ⟨rfl, b1⟩
    go_wp2_with fail
    go_ret
    exact ⟨rfl, ((Below.refl _ _).alloc (Nat.le_refl _) _).trans (b1.mono (by simp))⟩
  obtain ⟨t1, tb, CT, CU⟩ : ∃ (t1 : List UInt8) (tb : Bool), Hid (∀ W, Env W → Calls Tryz.prog 9 #[endV a0 b0 c0 d0 o0] W fun e w' => e = .returned (.tuple #[str t1, .bool tb]) ∧ Below W.heap.size W w') ∧ Hid (∀ W, Calls Tryz.prog 10 #[endV a0 b0 c0 d0 o0] W fun e w' => e = .returned (.tuple #[str t1, .bool tb]) ∧ Below W.heap.size W w') := by
    by_cases hp : 1 ≤ o0 ∧ o0 ≤ 65535
    · exact ⟨_, _, Lib.hid fun W EW => text_yes a0 b0 c0 d0 o0 a0l a0h b0l b0h c0l c0h d0l d0h hp.1 hp.2 W EW, Lib.hid fun W => rtext_yes a0 b0 c0 d0 o0 a0l a0h b0l b0h c0l c0h d0l d0h hp.1 hp.2 W⟩
    · exact ⟨_, _, Lib.hid fun W _ => text_no a0 b0 c0 d0 o0 (by omega) W, Lib.hid fun W => rtext_no a0 b0 c0 d0 o0 (by omega) W⟩
  obtain ⟨t2, pb, CP, CO⟩ : ∃ (t2 : List UInt8) (pb : Bool), Hid (∀ W, Env W → Calls Tryz.prog 13 #[.int .i64 n1] W fun e w' => e = .returned (.tuple #[str t2, .bool pb]) ∧ Below W.heap.size W w') ∧ Hid (∀ W, Calls Tryz.prog 14 #[.int .i64 n1] W fun e w' => e = .returned (.tuple #[str t2, .bool pb]) ∧ W = w') := by
    by_cases hp : 1 ≤ n1 ∧ n1 ≤ 65535
    · exact ⟨_, _, Lib.hid fun W EW => port_yes n1 hp.1 hp.2 W EW, Lib.hid fun W => rport_yes n1 hp.1 hp.2 W⟩
    · exact ⟨_, _, Lib.hid fun W _ => port_no n1 (by omega) W, Lib.hid fun W => rport_no n1 (by omega) W⟩
  have CR := Lib.hid (fun W (EW : Env W) => Ext.read_any s2 (by omega) W EW)
  have CS := Lib.hid (fun W => rreadX_any s2 (by omega) W)
  have CF := Lib.hid (fun W (EW : Env W) => Ext.find_any s2 (by omega) W EW)
  have CG := Lib.hid (fun W => rfind_any s2 (by omega) W)
  unfold readX at CR CS
  unfold heldV at CG
  generalize extH s2 0 = r0 at CR CS
  generalize extH s2 1 = r1 at CR CS
  generalize extH s2 2 = r2 at CR CS
  generalize extH s2 3 = r3 at CR CS
  generalize extP s2 = r4 at CR CS
  generalize extC s2 = rc at CR CS
  generalize holdN (insL s2) = hn at CF CG
  generalize holdB (insL s2) = hb at CF CG
  have hz : ∀ W, (Op.equalIn 10000 25 (endV r0 r1 r2 r3 r4) (endV r0 r1 r2 r3 r4)).run Tryz.prog W = .ok true W := fun W => by rw [equal_ends]; simp
  go_enter Tryz.func3, Tryz.ntmps3
  go_wp2_with (go_at_call 8; refine (awake_any _ ?_).mono ?_)
  · exact E.alloc _
  rintro e w1 ⟨rfl, b1⟩
  have B1 : Below w.heap.size w w1 := ((Below.refl _ _).alloc (Nat.le_refl _) _).trans (b1.mono (by simp))
  have R1 : IsRow w1 w.heap.size 25 #[.int .u8 a0, .int .u8 b0, .int .u8 c0, .int .u8 d0, .int .i64 o0] := (IsRow.made w _ _).call b1
  have z1 := B1.size
  clear b1
  have x0 : w1.cell? ⟨w.heap.size, 0, none⟩ = some (.int .u8 a0) := R1.cell 0
  have x1 : w1.cell? ⟨w.heap.size, 1, none⟩ = some (.int .u8 b0) := R1.cell 1
  have x2 : w1.cell? ⟨w.heap.size, 2, none⟩ = some (.int .u8 c0) := R1.cell 2
  have x3 : w1.cell? ⟨w.heap.size, 3, none⟩ = some (.int .u8 d0) := R1.cell 3
  have x4 : w1.cell? ⟨w.heap.size, 4, none⟩ = some (.int .i64 o0) := R1.cell 4
  go_wp2_with (go_at_call 9; refine (CT.out _ ?_).mono ?_)
  · exact E.below B1
  rintro e w2 ⟨rfl, b2⟩
  have B2 : Below w.heap.size w w2 := below_trans B1 b2
  have z2 := B2.size
  have R2 := R1.call b2
  clear b2 x0 x1 x2 x3 x4 R1 B1
  have x0 : w2.cell? ⟨w.heap.size, 0, none⟩ = some (.int .u8 a0) := R2.cell 0
  have x1 : w2.cell? ⟨w.heap.size, 1, none⟩ = some (.int .u8 b0) := R2.cell 1
  have x2 : w2.cell? ⟨w.heap.size, 2, none⟩ = some (.int .u8 c0) := R2.cell 2
  have x3 : w2.cell? ⟨w.heap.size, 3, none⟩ = some (.int .u8 d0) := R2.cell 3
  have x4 : w2.cell? ⟨w.heap.size, 4, none⟩ = some (.int .i64 o0) := R2.cell 4
  go_wp2_with (go_at_call 10; refine (CU.out _).mono ?_)
  rintro e w3 ⟨rfl, b3⟩
  have B3 : Below w.heap.size w w3 := below_trans B2 b3
  have z3 := B3.size
  clear b3 x0 x1 x2 x3 x4 R2 B2
  go_wp2_with (go_at_call 11; refine (CR.out _ ?_).mono ?_)
  · exact E.below B3
  rintro e w4 ⟨rfl, b4⟩
  have B4 : Below w.heap.size w w4 := below_trans B3 b4
  have z4 := B4.size
  clear b4 B3
  go_wp2_with (go_at_call 12; refine (CS.out _).mono ?_)
  rintro e w5 ⟨rfl, b5⟩
  have B5 : Below w.heap.size w w5 := (B4.alloc z4 _).trans (b5.mono (by first | omega | (simp; omega)))
  have z5 := B5.size
  have RA : IsRow w5 w4.heap.size 25 #[.int .u8 r0, .int .u8 r1, .int .u8 r2, .int .u8 r3, .int .i64 r4] := (IsRow.made w4 _ _).call b5
  clear b5 B4
  go_wp2_with (go_at_call 13; refine (CP.out _ ?_).mono ?_)
  · exact (E.below B5).alloc _
  rintro e w6 ⟨rfl, b6⟩
  have B6 : Below w.heap.size w w6 := (B5.alloc z5 _).trans (b6.mono (by first | omega | (simp; omega)))
  have z6 := B6.size
  have RA6 := (RA.alloc _).call b6
  have RB6 : IsRow w6 w5.heap.size 25 #[.int .u8 r0, .int .u8 r1, .int .u8 r2, .int .u8 r3, .int .i64 r4] := (IsRow.made w5 _ _).call b6
  clear b6 B5 RA
  go_wp2_with (first | (go_at_call 14; refine (CO.out _).mono ?_; rintro e w9 ⟨rfl, rfl⟩) | (go_at_call 15; refine (CF.out _ ?_).mono ?_))
  · exact E.below B6
  rintro e w7 ⟨rfl, b7⟩
  have B7 : Below w.heap.size w w7 := below_trans B6 b7
  have z7 := B7.size
  have RA7 := RA6.call b7
  have RB7 := RB6.call b7
  have hA := RA7.lt
  have hB := RB7.lt
  clear b7 B6 RA6 RB6
  have x0 : w7.cell? ⟨w4.heap.size, 0, none⟩ = some (.int .u8 r0) := RA7.cell 0
  have x1 : w7.cell? ⟨w4.heap.size, 1, none⟩ = some (.int .u8 r1) := RA7.cell 1
  have x2 : w7.cell? ⟨w4.heap.size, 2, none⟩ = some (.int .u8 r2) := RA7.cell 2
  have x3 : w7.cell? ⟨w4.heap.size, 3, none⟩ = some (.int .u8 r3) := RA7.cell 3
  have x4 : w7.cell? ⟨w4.heap.size, 4, none⟩ = some (.int .i64 r4) := RA7.cell 4
  have y0 : w7.cell? ⟨w5.heap.size, 0, none⟩ = some (.int .u8 r0) := RB7.cell 0
  have y1 : w7.cell? ⟨w5.heap.size, 1, none⟩ = some (.int .u8 r1) := RB7.cell 1
  have y2 : w7.cell? ⟨w5.heap.size, 2, none⟩ = some (.int .u8 r2) := RB7.cell 2
  have y3 : w7.cell? ⟨w5.heap.size, 3, none⟩ = some (.int .u8 r3) := RB7.cell 3
  have y4 : w7.cell? ⟨w5.heap.size, 4, none⟩ = some (.int .i64 r4) := RB7.cell 4
  go_wp2_with (go_at_call 16; refine (CG.out _).mono ?_; rintro e w9 ⟨rfl, rfl⟩)
  go_ret
  exact ⟨rfl, B7⟩

set_option maxRecDepth 100000 in
theorem lifted (os : Os) (started : os.Started) (H : Type) (enc : TypeId × Value → H) :
    ReturnsInHanded {} Tryz.checked os 3 .any (fun w args => (Rows.extTellsSpec.pre enc Tryz.prog Tryz.f3 [] false w args ∧ laidMetH Tryz.prog laidHere w) ∧ sizedMet enc Tryz.prog Tryz.f3 (OpenSpec.ofChange Rows.extTellsSpec) false w args)
      (Rows.extTellsSpec.post enc Tryz.prog Tryz.f3 false true false false) := by
  refine handed started (by kernel_rfl) Tryz.func3 #[.agg #[.int .u8 0, .int .u8 0, .int .u8 0, .int .u8 0, .int .i64 0], .int .i64 0, .string ⟨#[]⟩] (by kernel_rfl) (by kernel_rfl) (by kernel_rfl) (World.shaped_of_ZipB (by kernel_rfl) (by kernel_rfl)) ?_
  intro W base args ds gs before hval0 hW E
  have hval : ∀ (j : Nat) t v, Tryz.f3.params[j]? = some t → args[j]? = some v → Value.okWide Tryz.prog W .any base t v := hval0
  have hW' := hW
  obtain ⟨p, q, hA0, hV, rfl, _, _⟩ := hW
  have hA : DataW.TrodAll enc Tryz.prog W 0 (fun _ => true) true Tryz.f3.params.toList args.toList ds p := hA0
  rw [Tryz.params3] at hA hval
  obtain ⟨v0, vs0, d0, ds0, p0, q0, hargs, rfl, rfl, r0, t0⟩ := trodAll_cons hA
  obtain ⟨v1, vs1, d1, ds1, p1, q1, rfl, rfl, rfl, r1, t1⟩ := trodAll_cons t0
  obtain ⟨v2, vs2, d2, ds2, p2, q2, rfl, rfl, rfl, r2, t2⟩ := trodAll_cons t1
  obtain ⟨rfl, rfl, rfl⟩ := trodAll_nil t2
  obtain rfl : args = #[v0, v1, v2] := by cases args; simp_all
  obtain ⟨rfl, rfl⟩ := trodVars_none hV
  obtain ⟨a0, b0, c0, d0, o0, rfl, rfl, rfl, wa0, wb0, wc0, wd0, wo0⟩ := open_end (hval 0 25 v0 rfl rfl) r0
  obtain ⟨n1, rfl, rfl, rfl, w1⟩ := open_int Tryz.underlying3 (hval 1 3 v1 rfl rfl) r1
  obtain ⟨x2, rfl, rfl, rfl, w2⟩ := open_string Tryz.underlying9 (hval 2 9 v2 rfl rfl) r2
  obtain ⟨s2, rfl⟩ : ∃ l : List UInt8, x2 = ⟨l.toArray⟩ := ⟨x2.data.toList, by simp⟩
  clear hA0 hval0
  simp only [List.append_nil] at hW'
  refine (walk a0 b0 c0 d0 o0 (byte_wf wa0).1 (byte_wf wa0).2 (byte_wf wb0).1 (byte_wf wb0).2 (byte_wf wc0).1 (byte_wf wc0).2 (byte_wf wd0).1 (byte_wf wd0).2 (int_wf wo0).1 (int_wf wo0).2 n1 (int_wf w1).1 (int_wf w1).2 s2 (by have := w2; rw [size_mk] at this; unfold maxLen at this; exact this) W E).mono fun e W' ⟨he, hb⟩ => ?_
  subst he
  exact ⟨_, rfl, told hW' (fun _ _ _ => trodAll_cons_mk (shut_bool Tryz.underlying4 _) trodAll_mk0) (fun _ => trodAll_cons_mk (shut_end wa0 wb0 wc0 wd0 wo0) (trodAll_cons_mk (shut_int Tryz.underlying3 w1) (trodAll_cons_mk (shut_string Tryz.underlying9 w2) trodAll_mk0))) (fun _ => rfl) hb⟩

theorem over : Rows.ExtTellsSaid :=
  OpenClaim.holds_of_wide 3 Tryz.f3 rfl rfl rfl rfl rfl rfl rfl ⟨rfl, rfl, rfl, rfl, rfl⟩ rfl rfl rfl rfl rfl (by kernel_rfl) Tryz.func3 (by kernel_rfl)
    (of_decide_eq_true (by kernel_rfl)) (by unfold Func.isWrapper; first | (rw [if_pos (by decide +kernel)]; kernel_rfl) | (rw [if_neg (by decide +kernel)]; exact ⟨rfl, rfl⟩))
    (fun os started H enc _ => lifted os started H enc)

theorem proved : Rows.ExtTellsCardSaid :=
  Claim7.holds_tied_plain_at .later [] Rows.extTellsCard.laidKinds true Rows.extTellsCard.stood.harness true
    over (fun _ h => by cases h) (by kernel_rfl) (fun _ h => by cases h) extTells_row_tie rfl ⟨rfl, rfl⟩ (by kernel_rfl) rfl
    (fun f fn hf hfn => by
      obtain rfl : f = 3 := Option.some.inj ((show Tryz.prog.funcNamed "wharfinger/wharfingerlaw04.ExtTells" = some 3 by kernel_rfl).symm.trans hf) |>.symm
      obtain rfl : fn = Tryz.f3 := (Option.some.inj (Tryz.func3.symm.trans hfn)).symm
      exact ⟨by kernel_rfl, fun j t ht => by
        rw [Tryz.params3] at ht
        have hm : t ∈ [25, 3, 9] := by simpa using Array.mem_of_getElem? ht
        have hall : ([25, 3, 9].all fun u => !Tryz.prog.wantsStandIn u) = true := by kernel_rfl
        exact (show Tryz.prog.wantsStandIn t = false by simpa using List.all_eq_true.1 hall t hm)⟩)
    (by kernel_rfl)
#print axioms proved
end Go.Proofs.YtchemjppmncmdaaGreatDoor.extTells
