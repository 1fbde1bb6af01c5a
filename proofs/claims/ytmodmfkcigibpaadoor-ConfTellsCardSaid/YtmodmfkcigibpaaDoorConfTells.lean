/- Proved: for every conf (held against 6 tenants, 20 rules each, texts of 300 bytes): whether it may be, and why not, is what the document's answer says. Conditions: none beyond the row's own (the library's variables start as the program's text lays them: the card ties them). -/
import Derived.Test.YtmodmfkcigibpaaDoorConfAwake
import Derived.Test.YtmodmfkcigibpaaDoorTensSet
import Derived.BigQuiet
import Derived.Deep.QuietTactic
import Derived.Deep.RegionHeld
import Derived.Deep.RegionLaw

namespace Go.Proofs.YtmodmfkcigibpaaDoor.confTells
open Go.Proofs.YtmodmfkcigibpaaDoor Go.Proofs.YtmodmfkcigibpaaDoor.Co Go.Proofs.YtmodmfkcigibpaaDoor.Ac
open Go.ChangeShapes Go.WideShapes Go.ChangeAt Go.RowKit Go.Sort Go.ChangeMaps
set_option linter.unusedSimpArgs false
set_option linter.unusedVariables false
set_option linter.unusedVariables false in
set_option maxHeartbeats 16000000 in
set_option maxRecDepth 100000 in
theorem walk (xa0 xb0 xc0 xd0 : Int) (tv0 : Value) (s0 : List Tn) (pre0 life0 idle0 : Int) (lf0 : Bool) (w : World) (y0 : TensIs w tv0 s0) (E : Env w) :
    Calls Tryd.prog 3 #[confV xa0 xb0 xc0 xd0 tv0 pre0 life0 idle0 lf0] w fun e w' => e = .returned (.bool true) ∧ Below w.heap.size w w' := by
  have AWK := Lib.hid (fun W EW => awake_any W EW)
  have B0 := Lib.hid (Below.refl w.heap.size w)
  obtain ⟨p, n, c, rfl, hn⟩ := y0.form
  have HN := Lib.hid hn
  have hmax := y0.max
  have Y := Lib.hid y0
  rw [← hn] at hmax
  clear hn y0
  cases hfw : few s0 with
  | false =>
    have HFw := Lib.hid (fun W HR => few_of13 xa0 xb0 xc0 xd0 (.slice p n c) pre0 life0 idle0 lf0 s0 false hfw W HR)
    clear hfw
    go_enter Tryd.func3, Tryd.ntmps3
    go_wp2_with (first
        | (go_at_call 9; refine (AWK.out _ (E.below ((B0.out).alloc B0.out.size (.cells #[.int .u8 xa0, .int .u8 xb0, .int .u8 xc0, .int .u8 xd0, .slice p n c, .int .i64 pre0, .int .i64 life0, .int .i64 idle0, .bool lf0] 26)))).mono ?_; rintro e w1 ⟨rfl, b1⟩; have B1 := Lib.hid (((B0.out).alloc B0.out.size (.cells #[.int .u8 xa0, .int .u8 xb0, .int .u8 xc0, .int .u8 xd0, .slice p n c, .int .i64 pre0, .int .i64 life0, .int .i64 idle0, .bool lf0] 26)).trans (b1.mono (by have := B0.out.size; simp <;> omega))); have C1 := Lib.hid ((IsRow.made w 26 #[.int .u8 xa0, .int .u8 xb0, .int .u8 xc0, .int .u8 xd0, .slice p n c, .int .i64 pre0, .int .i64 life0, .int .i64 idle0, .bool lf0]).call b1); have Cc0 : w1.cell? ⟨w.heap.size, 0, none⟩ = some (.int .u8 xa0) := C1.out.cell 0; have Cc1 : w1.cell? ⟨w.heap.size, 1, none⟩ = some (.int .u8 xb0) := C1.out.cell 1; have Cc2 : w1.cell? ⟨w.heap.size, 2, none⟩ = some (.int .u8 xc0) := C1.out.cell 2; have Cc3 : w1.cell? ⟨w.heap.size, 3, none⟩ = some (.int .u8 xd0) := C1.out.cell 3; have Cc4 : w1.cell? ⟨w.heap.size, 4, none⟩ = some (.slice p n c) := C1.out.cell 4; have Cc5 : w1.cell? ⟨w.heap.size, 5, none⟩ = some (.int .i64 pre0) := C1.out.cell 5; have Cc6 : w1.cell? ⟨w.heap.size, 6, none⟩ = some (.int .i64 life0) := C1.out.cell 6; have Cc7 : w1.cell? ⟨w.heap.size, 7, none⟩ = some (.int .i64 idle0) := C1.out.cell 7; have Cc8 : w1.cell? ⟨w.heap.size, 8, none⟩ = some (.bool lf0) := C1.out.cell 8; have Clt : w.heap.size < w1.heap.size := C1.out.lt; clear AWK)
        | (go_at_call 10; refine (HFw.out _ (Y.out.call (B1.out))).mono ?_; rintro e w2 ⟨rfl, b2⟩; have B2 := Lib.hid (B1.out.trans (b2.mono B1.out.size)); have C2 := Lib.hid (C1.out.call b2); clear Cc0 Cc1 Cc2 Cc3 Cc4 Cc5 Cc6 Cc7 Cc8 Clt; have Cc0 : w2.cell? ⟨w.heap.size, 0, none⟩ = some (.int .u8 xa0) := C2.out.cell 0; have Cc1 : w2.cell? ⟨w.heap.size, 1, none⟩ = some (.int .u8 xb0) := C2.out.cell 1; have Cc2 : w2.cell? ⟨w.heap.size, 2, none⟩ = some (.int .u8 xc0) := C2.out.cell 2; have Cc3 : w2.cell? ⟨w.heap.size, 3, none⟩ = some (.int .u8 xd0) := C2.out.cell 3; have Cc4 : w2.cell? ⟨w.heap.size, 4, none⟩ = some (.slice p n c) := C2.out.cell 4; have Cc5 : w2.cell? ⟨w.heap.size, 5, none⟩ = some (.int .i64 pre0) := C2.out.cell 5; have Cc6 : w2.cell? ⟨w.heap.size, 6, none⟩ = some (.int .i64 life0) := C2.out.cell 6; have Cc7 : w2.cell? ⟨w.heap.size, 7, none⟩ = some (.int .i64 idle0) := C2.out.cell 7; have Cc8 : w2.cell? ⟨w.heap.size, 8, none⟩ = some (.bool lf0) := C2.out.cell 8; have Clt : w.heap.size < w2.heap.size := C2.out.lt; clear HFw; clear C1))
    all_goals (go_ret; exact ⟨by first | rfl | (simp; done) | (simp; omega), B2.out⟩)
  | true =>
    have HFw := Lib.hid (fun W HR => few_of13 xa0 xb0 xc0 xd0 (.slice p n c) pre0 life0 idle0 lf0 s0 true hfw W HR)
    have hF := few_iff.1 hfw
    clear hfw
    obtain ⟨x, y, hW⟩ : ∃ x y, why pre0 life0 idle0 s0 = (x, y) := ⟨_, _, rfl⟩
    obtain ⟨m, hM⟩ : ∃ m, mayC pre0 life0 idle0 s0 = m := ⟨_, rfl⟩
    have H1 := Lib.hid (fun W EW HR => why_of xa0 xb0 xc0 xd0 (.slice p n c) pre0 life0 idle0 lf0 s0 hF x y hW W EW HR)
    have H2 := Lib.hid (fun W HR => rwhy_of xa0 xb0 xc0 xd0 (.slice p n c) pre0 life0 idle0 lf0 s0 hF x y hW W HR)
    have H3 := Lib.hid (fun W HR => rmay_of xa0 xb0 xc0 xd0 (.slice p n c) pre0 life0 idle0 lf0 s0 hF m hM W HR)
    have H4 := Lib.hid (fun W EW HR => may_of xa0 xb0 xc0 xd0 (.slice p n c) pre0 life0 idle0 lf0 s0 hF m hM W EW HR)
    clear hW hM hF
    go_enter Tryd.func3, Tryd.ntmps3
    go_wp2_with (first
        | (go_at_call 9; refine (AWK.out _ (E.below ((B0.out).alloc B0.out.size (.cells #[.int .u8 xa0, .int .u8 xb0, .int .u8 xc0, .int .u8 xd0, .slice p n c, .int .i64 pre0, .int .i64 life0, .int .i64 idle0, .bool lf0] 26)))).mono ?_; rintro e w1 ⟨rfl, b1⟩; have B1 := Lib.hid (((B0.out).alloc B0.out.size (.cells #[.int .u8 xa0, .int .u8 xb0, .int .u8 xc0, .int .u8 xd0, .slice p n c, .int .i64 pre0, .int .i64 life0, .int .i64 idle0, .bool lf0] 26)).trans (b1.mono (by have := B0.out.size; simp <;> omega))); have C1 := Lib.hid ((IsRow.made w 26 #[.int .u8 xa0, .int .u8 xb0, .int .u8 xc0, .int .u8 xd0, .slice p n c, .int .i64 pre0, .int .i64 life0, .int .i64 idle0, .bool lf0]).call b1); have Cc0 : w1.cell? ⟨w.heap.size, 0, none⟩ = some (.int .u8 xa0) := C1.out.cell 0; have Cc1 : w1.cell? ⟨w.heap.size, 1, none⟩ = some (.int .u8 xb0) := C1.out.cell 1; have Cc2 : w1.cell? ⟨w.heap.size, 2, none⟩ = some (.int .u8 xc0) := C1.out.cell 2; have Cc3 : w1.cell? ⟨w.heap.size, 3, none⟩ = some (.int .u8 xd0) := C1.out.cell 3; have Cc4 : w1.cell? ⟨w.heap.size, 4, none⟩ = some (.slice p n c) := C1.out.cell 4; have Cc5 : w1.cell? ⟨w.heap.size, 5, none⟩ = some (.int .i64 pre0) := C1.out.cell 5; have Cc6 : w1.cell? ⟨w.heap.size, 6, none⟩ = some (.int .i64 life0) := C1.out.cell 6; have Cc7 : w1.cell? ⟨w.heap.size, 7, none⟩ = some (.int .i64 idle0) := C1.out.cell 7; have Cc8 : w1.cell? ⟨w.heap.size, 8, none⟩ = some (.bool lf0) := C1.out.cell 8; have Clt : w.heap.size < w1.heap.size := C1.out.lt; clear AWK)
        | (go_at_call 10; refine (HFw.out _ (Y.out.call (B1.out))).mono ?_; rintro e w2 ⟨rfl, b2⟩; have B2 := Lib.hid (B1.out.trans (b2.mono B1.out.size)); have C2 := Lib.hid (C1.out.call b2); clear Cc0 Cc1 Cc2 Cc3 Cc4 Cc5 Cc6 Cc7 Cc8 Clt; have Cc0 : w2.cell? ⟨w.heap.size, 0, none⟩ = some (.int .u8 xa0) := C2.out.cell 0; have Cc1 : w2.cell? ⟨w.heap.size, 1, none⟩ = some (.int .u8 xb0) := C2.out.cell 1; have Cc2 : w2.cell? ⟨w.heap.size, 2, none⟩ = some (.int .u8 xc0) := C2.out.cell 2; have Cc3 : w2.cell? ⟨w.heap.size, 3, none⟩ = some (.int .u8 xd0) := C2.out.cell 3; have Cc4 : w2.cell? ⟨w.heap.size, 4, none⟩ = some (.slice p n c) := C2.out.cell 4; have Cc5 : w2.cell? ⟨w.heap.size, 5, none⟩ = some (.int .i64 pre0) := C2.out.cell 5; have Cc6 : w2.cell? ⟨w.heap.size, 6, none⟩ = some (.int .i64 life0) := C2.out.cell 6; have Cc7 : w2.cell? ⟨w.heap.size, 7, none⟩ = some (.int .i64 idle0) := C2.out.cell 7; have Cc8 : w2.cell? ⟨w.heap.size, 8, none⟩ = some (.bool lf0) := C2.out.cell 8; have Clt : w.heap.size < w2.heap.size := C2.out.lt; clear HFw; clear C1)
        | (go_at_call 11; refine (H1.out _ (E.below (B2.out)) (Y.out.call (B2.out))).mono ?_; rintro e w3 ⟨rfl, b3⟩; have B3 := Lib.hid (B2.out.trans (b3.mono B2.out.size)); have C3 := Lib.hid (C2.out.call b3); clear Cc0 Cc1 Cc2 Cc3 Cc4 Cc5 Cc6 Cc7 Cc8 Clt; have Cc0 : w3.cell? ⟨w.heap.size, 0, none⟩ = some (.int .u8 xa0) := C3.out.cell 0; have Cc1 : w3.cell? ⟨w.heap.size, 1, none⟩ = some (.int .u8 xb0) := C3.out.cell 1; have Cc2 : w3.cell? ⟨w.heap.size, 2, none⟩ = some (.int .u8 xc0) := C3.out.cell 2; have Cc3 : w3.cell? ⟨w.heap.size, 3, none⟩ = some (.int .u8 xd0) := C3.out.cell 3; have Cc4 : w3.cell? ⟨w.heap.size, 4, none⟩ = some (.slice p n c) := C3.out.cell 4; have Cc5 : w3.cell? ⟨w.heap.size, 5, none⟩ = some (.int .i64 pre0) := C3.out.cell 5; have Cc6 : w3.cell? ⟨w.heap.size, 6, none⟩ = some (.int .i64 life0) := C3.out.cell 6; have Cc7 : w3.cell? ⟨w.heap.size, 7, none⟩ = some (.int .i64 idle0) := C3.out.cell 7; have Cc8 : w3.cell? ⟨w.heap.size, 8, none⟩ = some (.bool lf0) := C3.out.cell 8; have Clt : w.heap.size < w3.heap.size := C3.out.lt; clear H1; clear C2)
        | (go_at_call 12; refine (H2.out _ (Y.out.call (B3.out))).mono ?_; rintro e w4 ⟨rfl, b4⟩; have B4 := Lib.hid (B3.out.trans (b4.mono B3.out.size)); have C4 := Lib.hid (C3.out.call b4); clear Cc0 Cc1 Cc2 Cc3 Cc4 Cc5 Cc6 Cc7 Cc8 Clt; have Cc0 : w4.cell? ⟨w.heap.size, 0, none⟩ = some (.int .u8 xa0) := C4.out.cell 0; have Cc1 : w4.cell? ⟨w.heap.size, 1, none⟩ = some (.int .u8 xb0) := C4.out.cell 1; have Cc2 : w4.cell? ⟨w.heap.size, 2, none⟩ = some (.int .u8 xc0) := C4.out.cell 2; have Cc3 : w4.cell? ⟨w.heap.size, 3, none⟩ = some (.int .u8 xd0) := C4.out.cell 3; have Cc4 : w4.cell? ⟨w.heap.size, 4, none⟩ = some (.slice p n c) := C4.out.cell 4; have Cc5 : w4.cell? ⟨w.heap.size, 5, none⟩ = some (.int .i64 pre0) := C4.out.cell 5; have Cc6 : w4.cell? ⟨w.heap.size, 6, none⟩ = some (.int .i64 life0) := C4.out.cell 6; have Cc7 : w4.cell? ⟨w.heap.size, 7, none⟩ = some (.int .i64 idle0) := C4.out.cell 7; have Cc8 : w4.cell? ⟨w.heap.size, 8, none⟩ = some (.bool lf0) := C4.out.cell 8; have Clt : w.heap.size < w4.heap.size := C4.out.lt; clear H2; clear C3)
        | (go_at_call 13; refine (H3.out _ (Y.out.call (B4.out))).mono ?_; rintro e w5 ⟨rfl, b5⟩; have B5 := Lib.hid (B4.out.trans (b5.mono B4.out.size)); have C5 := Lib.hid (C4.out.call b5); clear Cc0 Cc1 Cc2 Cc3 Cc4 Cc5 Cc6 Cc7 Cc8 Clt; have Cc0 : w5.cell? ⟨w.heap.size, 0, none⟩ = some (.int .u8 xa0) := C5.out.cell 0; have Cc1 : w5.cell? ⟨w.heap.size, 1, none⟩ = some (.int .u8 xb0) := C5.out.cell 1; have Cc2 : w5.cell? ⟨w.heap.size, 2, none⟩ = some (.int .u8 xc0) := C5.out.cell 2; have Cc3 : w5.cell? ⟨w.heap.size, 3, none⟩ = some (.int .u8 xd0) := C5.out.cell 3; have Cc4 : w5.cell? ⟨w.heap.size, 4, none⟩ = some (.slice p n c) := C5.out.cell 4; have Cc5 : w5.cell? ⟨w.heap.size, 5, none⟩ = some (.int .i64 pre0) := C5.out.cell 5; have Cc6 : w5.cell? ⟨w.heap.size, 6, none⟩ = some (.int .i64 life0) := C5.out.cell 6; have Cc7 : w5.cell? ⟨w.heap.size, 7, none⟩ = some (.int .i64 idle0) := C5.out.cell 7; have Cc8 : w5.cell? ⟨w.heap.size, 8, none⟩ = some (.bool lf0) := C5.out.cell 8; have Clt : w.heap.size < w5.heap.size := C5.out.lt; clear H3; clear C4)
        | (go_at_call 14; refine (H4.out _ (E.below (B5.out)) (Y.out.call (B5.out))).mono ?_; rintro e w6 ⟨rfl, b6⟩; have B6 := Lib.hid (B5.out.trans (b6.mono B5.out.size)); have C6 := Lib.hid (C5.out.call b6); clear Cc0 Cc1 Cc2 Cc3 Cc4 Cc5 Cc6 Cc7 Cc8 Clt; have Cc0 : w6.cell? ⟨w.heap.size, 0, none⟩ = some (.int .u8 xa0) := C6.out.cell 0; have Cc1 : w6.cell? ⟨w.heap.size, 1, none⟩ = some (.int .u8 xb0) := C6.out.cell 1; have Cc2 : w6.cell? ⟨w.heap.size, 2, none⟩ = some (.int .u8 xc0) := C6.out.cell 2; have Cc3 : w6.cell? ⟨w.heap.size, 3, none⟩ = some (.int .u8 xd0) := C6.out.cell 3; have Cc4 : w6.cell? ⟨w.heap.size, 4, none⟩ = some (.slice p n c) := C6.out.cell 4; have Cc5 : w6.cell? ⟨w.heap.size, 5, none⟩ = some (.int .i64 pre0) := C6.out.cell 5; have Cc6 : w6.cell? ⟨w.heap.size, 6, none⟩ = some (.int .i64 life0) := C6.out.cell 6; have Cc7 : w6.cell? ⟨w.heap.size, 7, none⟩ = some (.int .i64 idle0) := C6.out.cell 7; have Cc8 : w6.cell? ⟨w.heap.size, 8, none⟩ = some (.bool lf0) := C6.out.cell 8; have Clt : w.heap.size < w6.heap.size := C6.out.lt; clear H4; clear C5))
    all_goals (go_ret; exact ⟨by first | rfl | (simp; done) | (simp; omega), B6.out⟩)

set_option maxRecDepth 100000 in
theorem lifted (os : Os) (started : os.Started) (H : Type) (enc : TypeId × Value → H) :
    ReturnsInHanded {} Tryd.checked os 3 .any (fun w args => (Rows.confTellsSpec.pre enc Tryd.prog Tryd.f3 [] false w args ∧ laidMetH Tryd.prog laidHere w) ∧ sizedMet enc Tryd.prog Tryd.f3 (OpenSpec.ofChange Rows.confTellsSpec) false w args)
      (Rows.confTellsSpec.post enc Tryd.prog Tryd.f3 false true false false) := by
  refine handed started (by kernel_rfl) Tryd.func3 #[.agg #[.int .u8 0, .int .u8 0, .int .u8 0, .int .u8 0, .slice none 0 0, .int .i64 0, .int .i64 0, .int .i64 0, .bool false]] (by kernel_rfl) (by kernel_rfl) (by kernel_rfl) (World.shaped_of_ZipB (by kernel_rfl) (by kernel_rfl)) ?_
  intro W base args ds gs before hval0 hW E
  have hval : ∀ (j : Nat) t v, Tryd.f3.params[j]? = some t → args[j]? = some v → Value.okWide Tryd.prog W .any base t v := hval0
  have hW' := hW
  obtain ⟨p, q, hA0, hV, rfl, _, _⟩ := hW
  have hA : DataW.TrodAll enc Tryd.prog W 0 (fun _ => true) true Tryd.f3.params.toList args.toList ds p := hA0
  rw [Tryd.params3] at hA hval
  obtain ⟨v0, vs0, d0, ds0, p0, q0, hargs, rfl, rfl, r0, t0⟩ := trodAll_cons hA
  obtain ⟨rfl, rfl, rfl⟩ := trodAll_nil t0
  obtain rfl : args = #[v0] := by cases args; simp_all
  obtain ⟨rfl, rfl⟩ := trodVars_none hV
  obtain ⟨xa0, xb0, xc0, xd0, tv0, s0, pre0, life0, idle0, lf0, rfl, y0⟩ := open_conf (hval 0 26 v0 rfl rfl) r0
  clear hA0 hval0
  simp only [List.append_nil] at hW'
  refine (walk xa0 xb0 xc0 xd0 tv0 s0 pre0 life0 idle0 lf0 W y0 E).mono fun e W' ⟨he, hb⟩ => ?_
  subst he
  have t0' := Below.trod laid_out (by kernel_rfl) (of_decide_eq_true (by kernel_rfl)) r0 hb (fun x hx => hW'.lt x (by simp [hx]))
  exact ⟨_, rfl, told hW' (fun _ _ _ => trodAll_cons_mk (shut_bool Tryd.underlying4 _) trodAll_mk0) (trodAll_cons_mk (t0') trodAll_mk0) (fun _ => rfl) hb⟩

theorem over : Rows.ConfTellsSaid :=
  OpenClaim.holds_of_wide 3 Tryd.f3 rfl rfl rfl rfl rfl rfl rfl ⟨rfl, rfl, rfl, rfl, rfl⟩ rfl rfl rfl rfl rfl (by kernel_rfl) Tryd.func3 (by kernel_rfl)
    (of_decide_eq_true (by kernel_rfl)) (by unfold Func.isWrapper; first | (rw [if_pos (by decide +kernel)]; kernel_rfl) | (rw [if_neg (by decide +kernel)]; exact ⟨rfl, rfl⟩))
    (fun os started H enc _ => lifted os started H enc)

theorem proved : Rows.ConfTellsCardSaid :=
  Claim7.holds_tied_plain_at .later [] Rows.confTellsCard.laidKinds true Rows.confTellsCard.stood.harness Rows.confTellsCard.stood.looks
    over (fun _ h => by cases h) (by kernel_rfl) (fun _ h => by cases h) confTells_row_tie rfl ⟨rfl, rfl⟩ (by kernel_rfl) rfl
    (fun f fn hf hfn => by
      obtain rfl : f = 3 := Option.some.inj ((show Tryd.prog.funcNamed "wharfinger/wharfingerlaw13.ConfTells" = some 3 by kernel_rfl).symm.trans hf) |>.symm
      obtain rfl : fn = Tryd.f3 := (Option.some.inj (Tryd.func3.symm.trans hfn)).symm
      exact ⟨by kernel_rfl, fun j t ht => by
        rw [Tryd.params3] at ht
        have hm : t ∈ [26] := by simpa using Array.mem_of_getElem? ht
        have hall : ([26].all fun u => !Tryd.prog.wantsStandIn u) = true := by kernel_rfl
        exact (show Tryd.prog.wantsStandIn t = false by simpa using List.all_eq_true.1 hall t hm)⟩)
    (by kernel_rfl)
#print axioms proved
end Go.Proofs.YtmodmfkcigibpaaDoor.confTells
