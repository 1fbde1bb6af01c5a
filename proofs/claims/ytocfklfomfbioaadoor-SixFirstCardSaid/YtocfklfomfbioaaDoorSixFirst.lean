/- Proved: for every two texts the law SixFirst answers true: what is found is what stands between the first brackets, whatever stands behind. Conditions: none beyond the row's own (the library's variables start as the program's text lays them: the card ties them). -/
import Derived.Test.YtocfklfomfbioaaDoorSixAwake
import Derived.Test.YtocfklfomfbioaaDoorEndArg
import Derived.Test.YtocfklfomfbioaaDoorCards
import Derived.Test.YtocfklfomfbioaaDoorSixFacts
namespace Go.Proofs.YtocfklfomfbioaaDoor.sixFirst
open Go.Proofs.YtocfklfomfbioaaDoor Go.Proofs.YtocfklfomfbioaaDoor.Quad Go.Proofs.YtocfklfomfbioaaDoor.Six
open Go.ChangeShapes Go.WideShapes Go.ChangeAt Go.RowKit Go.Sort Go.ChangeMaps
theorem app_of (a b : List UInt8) : (ByteArray.mk a.toArray ++ ByteArray.mk b.toArray) = ⟨(a ++ b).toArray⟩ := by
  apply ByteArray.ext
  simp

set_option linter.unusedVariables false in
set_option maxHeartbeats 2000000 in
set_option maxRecDepth 100000 in
theorem walk (s0 : List UInt8) (z0 : s0.length ≤ 9223372036854775807) (s1 : List UInt8) (z1 : s1.length ≤ 9223372036854775807) (w : World) (E : Env w) :
    Calls Tryd.prog 7 #[str s0, str s1] w fun e w' => e = .returned (.bool true) ∧ Below w.heap.size w w' := by
  by_cases c0 : 100 < s0.length
  · go_enter Tryd.func7, Tryd.ntmps7
    go_wp2_with (go_at_call 8; refine (awake_any _ E).mono ?_; rintro e w1 ⟨rfl, B1⟩)
    go_ret
    exact ⟨rfl, B1⟩
  by_cases c1 : 100 < s1.length
  · go_enter Tryd.func7, Tryd.ntmps7
    go_wp2_with (go_at_call 8; refine (awake_any _ E).mono ?_; rintro e w1 ⟨rfl, B1⟩)
    go_ret
    exact ⟨rfl, B1⟩
  have CF := Lib.hid (fun W (EW : Env W) => find_any s0 (by omega) W EW)
  cases hB : sixB (insL s0) with
  | false =>
    have hz : ∀ W, (Op.equalIn 10000 25 (endV 0 0 0 0 0) (endV 0 0 0 0 0)).run Tryd.prog W = .ok true W := fun W => by rw [equal_ends]; rfl
    rw [read_none hB] at CF
    go_enter Tryd.func7, Tryd.ntmps7
    go_wp2_with (go_at_call 8; refine (awake_any _ E).mono ?_; rintro e w1 ⟨rfl, B1⟩)
    go_wp2_with (go_at_call 13; refine (CF.out _ ?_).mono ?_)
    · exact E.below B1
    rintro e w2 ⟨rfl, b2⟩
    have B2 := below_trans B1 b2
    clear b2
    go_wp2_with fail
    go_ret
    exact ⟨rfl, B2.alloc B2.size _⟩
  | true =>
    have CM := Lib.hid (fun W (EW : Env W) => show Calls Tryd.prog 13 #[.string (ByteArray.mk s0.toArray ++ ByteArray.mk s1.toArray)] W fun e w' => e = .returned (readV (insL s0)) ∧ Below W.heap.size W w' by
      rw [app_of]
      have c := find_any (s0 ++ s1) (by simp; omega) W EW
      rw [find_more hB] at c; exact c)
    unfold readV at CF CM
    rw [hB] at CF CM
    generalize sixN (insL s0) 0 = r0 at CF CM
    generalize sixN (insL s0) 1 = r1 at CF CM
    generalize sixN (insL s0) 2 = r2 at CF CM
    generalize sixN (insL s0) 3 = r3 at CF CM
    generalize sixP (insL s0) = r4 at CF CM
    have hz : ∀ W, (Op.equalIn 10000 25 (endV r0 r1 r2 r3 r4) (endV r0 r1 r2 r3 r4)).run Tryd.prog W = .ok true W := fun W => by rw [equal_ends]; simp
    clear hB
    go_enter Tryd.func7, Tryd.ntmps7
    go_wp2_with (go_at_call 8; refine (awake_any _ E).mono ?_; rintro e w1 ⟨rfl, B1⟩)
    go_wp2_with (go_at_call 13; refine (CF.out _ ?_).mono ?_)
    · exact E.below B1
    rintro e w2 ⟨rfl, b2⟩
    have B2 := below_trans B1 b2
    clear b2
    go_wp2_with (go_at_call 13; refine (CM.out _ ?_).mono ?_)
    · exact (E.below B2).alloc _
    rintro e w3 ⟨rfl, b3⟩
    have B3 : Below w.heap.size w w3 := (B2.alloc B2.size _).trans (b3.mono (by have := B2.size; simp; omega))
    have R3 : IsRow w3 w2.heap.size 25 #[.int .u8 r0, .int .u8 r1, .int .u8 r2, .int .u8 r3, .int .i64 r4] := (IsRow.made w2 _ _).call b3
    have hN := R3.lt
    clear b3
    have x0 : w3.cell? ⟨w2.heap.size, 0, none⟩ = some (.int .u8 r0) := R3.cell 0
    have x1 : w3.cell? ⟨w2.heap.size, 1, none⟩ = some (.int .u8 r1) := R3.cell 1
    have x2 : w3.cell? ⟨w2.heap.size, 2, none⟩ = some (.int .u8 r2) := R3.cell 2
    have x3 : w3.cell? ⟨w2.heap.size, 3, none⟩ = some (.int .u8 r3) := R3.cell 3
    have x4 : w3.cell? ⟨w2.heap.size, 4, none⟩ = some (.int .i64 r4) := R3.cell 4
    go_wp2_with fail
    go_ret
    exact ⟨rfl, B3.alloc B3.size _⟩

set_option maxRecDepth 100000 in
theorem lifted (os : Os) (started : os.Started) (H : Type) (enc : TypeId × Value → H) :
    ReturnsInHanded {} Tryd.checked os 7 .any (fun w args => (Rows.sixFirstSpec.pre enc Tryd.prog Tryd.f7 [] false w args ∧ laidMetH Tryd.prog laidHere w) ∧ sizedMet enc Tryd.prog Tryd.f7 (OpenSpec.ofChange Rows.sixFirstSpec) false w args)
      (Rows.sixFirstSpec.post enc Tryd.prog Tryd.f7 false true false false) := by
  refine handed started (by kernel_rfl) Tryd.func7 #[.string ⟨#[]⟩, .string ⟨#[]⟩] (by kernel_rfl) (by kernel_rfl) (by kernel_rfl) (World.shaped_of_ZipB (by kernel_rfl) (by kernel_rfl))
    (by unfold laidHere; rw [MakeChecks.laidMetH_plain _ _ _ (by kernel_rfl)]; exact laidMet_laidAll _ (by kernel_rfl) (by kernel_rfl)) ?_
  intro W base args ds gs before hval0 hW E
  have hval : ∀ (j : Nat) t v, Tryd.f7.params[j]? = some t → args[j]? = some v → Value.okWide Tryd.prog W .any base t v := hval0
  have hW' := hW
  obtain ⟨p, q, hA0, hV, rfl, _, _⟩ := hW
  have hA : DataW.TrodAll enc Tryd.prog W 0 (fun _ => true) true Tryd.f7.params.toList args.toList ds p := hA0
  rw [Tryd.params7] at hA hval
  obtain ⟨v0, vs0, d0, ds0, p0, q0, hargs, rfl, rfl, r0, t0⟩ := trodAll_cons hA
  obtain ⟨v1, vs1, d1, ds1, p1, q1, rfl, rfl, rfl, r1, t1⟩ := trodAll_cons t0
  obtain ⟨rfl, rfl, rfl⟩ := trodAll_nil t1
  obtain rfl : args = #[v0, v1] := by cases args; simp_all
  obtain ⟨rfl, rfl⟩ := trodVars_none hV
  obtain ⟨x0, rfl, rfl, rfl, w0⟩ := open_string Tryd.underlying9 (hval 0 9 v0 rfl rfl) r0
  obtain ⟨s0, rfl⟩ : ∃ l : List UInt8, x0 = ⟨l.toArray⟩ := ⟨x0.data.toList, by simp⟩
  obtain ⟨x1, rfl, rfl, rfl, w1⟩ := open_string Tryd.underlying9 (hval 1 9 v1 rfl rfl) r1
  obtain ⟨s1, rfl⟩ : ∃ l : List UInt8, x1 = ⟨l.toArray⟩ := ⟨x1.data.toList, by simp⟩
  clear hA0 hval0
  simp only [List.append_nil] at hW'
  refine (walk s0 (by have := w0; rw [size_mk] at this; unfold maxLen at this; exact this) s1 (by have := w1; rw [size_mk] at this; unfold maxLen at this; exact this) W E).mono fun e W' ⟨he, hb⟩ => ?_
  subst he
  exact ⟨_, rfl, told hW' (fun _ _ _ => trodAll_cons_mk (shut_bool Tryd.underlying4 _) trodAll_mk0) (fun _ => trodAll_cons_mk (shut_string Tryd.underlying9 w0) (trodAll_cons_mk (shut_string Tryd.underlying9 w1) trodAll_mk0)) (fun _ => rfl) hb⟩

theorem over : Rows.SixFirstSaid :=
  OpenClaim.holds_of_wide 7 Tryd.f7 rfl rfl rfl rfl rfl rfl rfl ⟨rfl, rfl, rfl, rfl, rfl⟩ rfl rfl rfl rfl rfl (by kernel_rfl) Tryd.func7 (by kernel_rfl)
    (of_decide_eq_true (by kernel_rfl)) (by unfold Func.isWrapper; first | (rw [if_pos (by decide +kernel)]; kernel_rfl) | (rw [if_neg (by decide +kernel)]; exact ⟨rfl, rfl⟩))
    (fun os started H enc _ => lifted os started H enc)

theorem proved : Rows.SixFirstCardSaid :=
  Claim7.holds_tied_plain_at .later [] Rows.sixFirstCard.laidKinds true Rows.sixFirstCard.stood.harness true
    over (fun _ h => by cases h) (by kernel_rfl) (fun _ h => by cases h) sixFirst_row_tie rfl ⟨rfl, rfl⟩ (by kernel_rfl) rfl
    (fun f fn hf hfn => by
      obtain rfl : f = 7 := Option.some.inj ((show Tryd.prog.funcNamed "wharfinger/wharfingerlaw03.SixFirst" = some 7 by kernel_rfl).symm.trans hf) |>.symm
      obtain rfl : fn = Tryd.f7 := (Option.some.inj (Tryd.func7.symm.trans hfn)).symm
      exact ⟨by kernel_rfl, fun j t ht => by
        rw [Tryd.params7] at ht
        have hm : t ∈ [9, 9] := by simpa using Array.mem_of_getElem? ht
        have hall : ([9, 9].all fun u => !Tryd.prog.wantsStandIn u) = true := by kernel_rfl
        exact (show Tryd.prog.wantsStandIn t = false by simpa using List.all_eq_true.1 hall t hm)⟩)
    (by kernel_rfl)
#print axioms proved
end Go.Proofs.YtocfklfomfbioaaDoor.sixFirst
