/- Proved: for every conf (held against 6 tenants, 20 rules each, texts of 300 bytes) that may be, one of its tenants, and ports: with these ports it may not be, for its ports, where they are none, or one of a tenant's ahead. Conditions: none beyond the row's own (the library's variables start as the program's text lays them: the card ties them). -/
import Derived.Test.YtmodmfkcigibpaaDoorConfAwake
import Derived.Test.YtmodmfkcigibpaaDoorTensSet
import Derived.BigQuiet
import Derived.Deep.QuietTactic
import Derived.Deep.RegionHeld
import Derived.Deep.RegionLaw

namespace Go.Proofs.YtmodmfkcigibpaaDoor.confPorts
open Go.Proofs.YtmodmfkcigibpaaDoor Go.Proofs.YtmodmfkcigibpaaDoor.Co Go.Proofs.YtmodmfkcigibpaaDoor.Ac
open Go.ChangeShapes Go.WideShapes Go.ChangeAt Go.RowKit Go.Sort Go.ChangeMaps
set_option linter.unusedSimpArgs false
set_option linter.unusedVariables false
set_option linter.unusedVariables false in
set_option maxHeartbeats 16000000 in
set_option maxRecDepth 100000 in
theorem walk (xa0 xb0 xc0 xd0 : Int) (tv0 : Value) (s0 : List Tn) (pre0 life0 idle0 : Int) (lf0 : Bool) (n1 : Int) (l1 : -9223372036854775808 ≤ n1) (h1 : n1 ≤ 9223372036854775807) (n2 : Int) (l2 : -9223372036854775808 ≤ n2) (h2 : n2 ≤ 9223372036854775807) (n3 : Int) (l3 : -9223372036854775808 ≤ n3) (h3 : n3 ≤ 9223372036854775807) (w : World) (y0 : TensIs w tv0 s0) (E : Env w) :
    Calls Tryd.prog 8 #[confV xa0 xb0 xc0 xd0 tv0 pre0 life0 idle0 lf0, .int .i64 n1, .int .i64 n2, .int .i64 n3] w fun e w' => e = .returned (.bool true) ∧ Below w.heap.size w w' := by
  have AWK := Lib.hid (fun W EW => awake_any W EW)
  have B0 := Lib.hid (Below.refl w.heap.size w)
  obtain ⟨p, n, c, rfl, hn⟩ := y0.form
  have HN := Lib.hid hn
  have hmax := y0.max
  have Y := Lib.hid y0
  rw [← hn] at hmax
  clear hn y0
  cases hfw : few s0 with
  | false =>
    have HFw := Lib.hid (fun W HR => few_of13 xa0 xb0 xc0 xd0 (.slice p n c) pre0 life0 idle0 lf0 s0 false hfw W HR)
    clear hfw
    go_enter Tryd.func8, Tryd.ntmps8
    go_wp2_with (first
        | (go_at_call 9; refine (AWK.out _ (E.below ((B0.out).alloc B0.out.size (.cells #[.int .u8 xa0, .int .u8 xb0, .int .u8 xc0, .int .u8 xd0, .slice p n c, .int .i64 pre0, .int .i64 life0, .int .i64 idle0, .bool lf0] 26)))).mono ?_; rintro e w1 ⟨rfl, b1⟩; have B1 := Lib.hid (((B0.out).alloc B0.out.size (.cells #[.int .u8 xa0, .int .u8 xb0, .int .u8 xc0, .int .u8 xd0, .slice p n c, .int .i64 pre0, .int .i64 life0, .int .i64 idle0, .bool lf0] 26)).trans (b1.mono (by have := B0.out.size; simp <;> omega))); have C1 := Lib.hid ((IsRow.made w 26 #[.int .u8 xa0, .int .u8 xb0, .int .u8 xc0, .int .u8 xd0, .slice p n c, .int .i64 pre0, .int .i64 life0, .int .i64 idle0, .bool lf0]).call b1); have Cc0 : w1.cell? ⟨w.heap.size, 0, none⟩ = some (.int .u8 xa0) := C1.out.cell 0; have Cc1 : w1.cell? ⟨w.heap.size, 1, none⟩ = some (.int .u8 xb0) := C1.out.cell 1; have Cc2 : w1.cell? ⟨w.heap.size, 2, none⟩ = some (.int .u8 xc0) := C1.out.cell 2; have Cc3 : w1.cell? ⟨w.heap.size, 3, none⟩ = some (.int .u8 xd0) := C1.out.cell 3; have Cc4 : w1.cell? ⟨w.heap.size, 4, none⟩ = some (.slice p n c) := C1.out.cell 4; have Cc5 : w1.cell? ⟨w.heap.size, 5, none⟩ = some (.int .i64 pre0) := C1.out.cell 5; have Cc6 : w1.cell? ⟨w.heap.size, 6, none⟩ = some (.int .i64 life0) := C1.out.cell 6; have Cc7 : w1.cell? ⟨w.heap.size, 7, none⟩ = some (.int .i64 idle0) := C1.out.cell 7; have Cc8 : w1.cell? ⟨w.heap.size, 8, none⟩ = some (.bool lf0) := C1.out.cell 8; have Clt : w.heap.size < w1.heap.size := C1.out.lt; clear AWK)
        | (go_at_call 10; refine (HFw.out _ (Y.out.call (B1.out))).mono ?_; rintro e w2 ⟨rfl, b2⟩; have B2 := Lib.hid (B1.out.trans (b2.mono B1.out.size)); have C2 := Lib.hid (C1.out.call b2); clear Cc0 Cc1 Cc2 Cc3 Cc4 Cc5 Cc6 Cc7 Cc8 Clt; have Cc0 : w2.cell? ⟨w.heap.size, 0, none⟩ = some (.int .u8 xa0) := C2.out.cell 0; have Cc1 : w2.cell? ⟨w.heap.size, 1, none⟩ = some (.int .u8 xb0) := C2.out.cell 1; have Cc2 : w2.cell? ⟨w.heap.size, 2, none⟩ = some (.int .u8 xc0) := C2.out.cell 2; have Cc3 : w2.cell? ⟨w.heap.size, 3, none⟩ = some (.int .u8 xd0) := C2.out.cell 3; have Cc4 : w2.cell? ⟨w.heap.size, 4, none⟩ = some (.slice p n c) := C2.out.cell 4; have Cc5 : w2.cell? ⟨w.heap.size, 5, none⟩ = some (.int .i64 pre0) := C2.out.cell 5; have Cc6 : w2.cell? ⟨w.heap.size, 6, none⟩ = some (.int .i64 life0) := C2.out.cell 6; have Cc7 : w2.cell? ⟨w.heap.size, 7, none⟩ = some (.int .i64 idle0) := C2.out.cell 7; have Cc8 : w2.cell? ⟨w.heap.size, 8, none⟩ = some (.bool lf0) := C2.out.cell 8; have Clt : w.heap.size < w2.heap.size := C2.out.lt; clear HFw; clear C1))
    all_goals (go_ret; exact ⟨by first | rfl | (simp; done) | (simp; omega), B2.out⟩)
  | true =>
    have HFw := Lib.hid (fun W HR => few_of13 xa0 xb0 xc0 xd0 (.slice p n c) pre0 life0 idle0 lf0 s0 true hfw W HR)
    have hF := few_iff.1 hfw
    clear hfw
    cases hM : mayC pre0 life0 idle0 s0 with
    | false =>
      have H1 := Lib.hid (fun W EW HR => may_of xa0 xb0 xc0 xd0 (.slice p n c) pre0 life0 idle0 lf0 s0 hF false hM W EW HR)
      clear hM hF
      go_enter Tryd.func8, Tryd.ntmps8
      go_wp2_with (first
          | (go_at_call 9; refine (AWK.out _ (E.below ((B0.out).alloc B0.out.size (.cells #[.int .u8 xa0, .int .u8 xb0, .int .u8 xc0, .int .u8 xd0, .slice p n c, .int .i64 pre0, .int .i64 life0, .int .i64 idle0, .bool lf0] 26)))).mono ?_; rintro e w1 ⟨rfl, b1⟩; have B1 := Lib.hid (((B0.out).alloc B0.out.size (.cells #[.int .u8 xa0, .int .u8 xb0, .int .u8 xc0, .int .u8 xd0, .slice p n c, .int .i64 pre0, .int .i64 life0, .int .i64 idle0, .bool lf0] 26)).trans (b1.mono (by have := B0.out.size; simp <;> omega))); have C1 := Lib.hid ((IsRow.made w 26 #[.int .u8 xa0, .int .u8 xb0, .int .u8 xc0, .int .u8 xd0, .slice p n c, .int .i64 pre0, .int .i64 life0, .int .i64 idle0, .bool lf0]).call b1); have Cc0 : w1.cell? ⟨w.heap.size, 0, none⟩ = some (.int .u8 xa0) := C1.out.cell 0; have Cc1 : w1.cell? ⟨w.heap.size, 1, none⟩ = some (.int .u8 xb0) := C1.out.cell 1; have Cc2 : w1.cell? ⟨w.heap.size, 2, none⟩ = some (.int .u8 xc0) := C1.out.cell 2; have Cc3 : w1.cell? ⟨w.heap.size, 3, none⟩ = some (.int .u8 xd0) := C1.out.cell 3; have Cc4 : w1.cell? ⟨w.heap.size, 4, none⟩ = some (.slice p n c) := C1.out.cell 4; have Cc5 : w1.cell? ⟨w.heap.size, 5, none⟩ = some (.int .i64 pre0) := C1.out.cell 5; have Cc6 : w1.cell? ⟨w.heap.size, 6, none⟩ = some (.int .i64 life0) := C1.out.cell 6; have Cc7 : w1.cell? ⟨w.heap.size, 7, none⟩ = some (.int .i64 idle0) := C1.out.cell 7; have Cc8 : w1.cell? ⟨w.heap.size, 8, none⟩ = some (.bool lf0) := C1.out.cell 8; have Clt : w.heap.size < w1.heap.size := C1.out.lt; clear AWK)
          | (go_at_call 10; refine (HFw.out _ (Y.out.call (B1.out))).mono ?_; rintro e w2 ⟨rfl, b2⟩; have B2 := Lib.hid (B1.out.trans (b2.mono B1.out.size)); have C2 := Lib.hid (C1.out.call b2); clear Cc0 Cc1 Cc2 Cc3 Cc4 Cc5 Cc6 Cc7 Cc8 Clt; have Cc0 : w2.cell? ⟨w.heap.size, 0, none⟩ = some (.int .u8 xa0) := C2.out.cell 0; have Cc1 : w2.cell? ⟨w.heap.size, 1, none⟩ = some (.int .u8 xb0) := C2.out.cell 1; have Cc2 : w2.cell? ⟨w.heap.size, 2, none⟩ = some (.int .u8 xc0) := C2.out.cell 2; have Cc3 : w2.cell? ⟨w.heap.size, 3, none⟩ = some (.int .u8 xd0) := C2.out.cell 3; have Cc4 : w2.cell? ⟨w.heap.size, 4, none⟩ = some (.slice p n c) := C2.out.cell 4; have Cc5 : w2.cell? ⟨w.heap.size, 5, none⟩ = some (.int .i64 pre0) := C2.out.cell 5; have Cc6 : w2.cell? ⟨w.heap.size, 6, none⟩ = some (.int .i64 life0) := C2.out.cell 6; have Cc7 : w2.cell? ⟨w.heap.size, 7, none⟩ = some (.int .i64 idle0) := C2.out.cell 7; have Cc8 : w2.cell? ⟨w.heap.size, 8, none⟩ = some (.bool lf0) := C2.out.cell 8; have Clt : w.heap.size < w2.heap.size := C2.out.lt; clear HFw; clear C1)
          | (go_at_call 14; refine (H1.out _ (E.below (B2.out)) (Y.out.call (B2.out))).mono ?_; rintro e w3 ⟨rfl, b3⟩; have B3 := Lib.hid (B2.out.trans (b3.mono B2.out.size)); have C3 := Lib.hid (C2.out.call b3); clear Cc0 Cc1 Cc2 Cc3 Cc4 Cc5 Cc6 Cc7 Cc8 Clt; have Cc0 : w3.cell? ⟨w.heap.size, 0, none⟩ = some (.int .u8 xa0) := C3.out.cell 0; have Cc1 : w3.cell? ⟨w.heap.size, 1, none⟩ = some (.int .u8 xb0) := C3.out.cell 1; have Cc2 : w3.cell? ⟨w.heap.size, 2, none⟩ = some (.int .u8 xc0) := C3.out.cell 2; have Cc3 : w3.cell? ⟨w.heap.size, 3, none⟩ = some (.int .u8 xd0) := C3.out.cell 3; have Cc4 : w3.cell? ⟨w.heap.size, 4, none⟩ = some (.slice p n c) := C3.out.cell 4; have Cc5 : w3.cell? ⟨w.heap.size, 5, none⟩ = some (.int .i64 pre0) := C3.out.cell 5; have Cc6 : w3.cell? ⟨w.heap.size, 6, none⟩ = some (.int .i64 life0) := C3.out.cell 6; have Cc7 : w3.cell? ⟨w.heap.size, 7, none⟩ = some (.int .i64 idle0) := C3.out.cell 7; have Cc8 : w3.cell? ⟨w.heap.size, 8, none⟩ = some (.bool lf0) := C3.out.cell 8; have Clt : w.heap.size < w3.heap.size := C3.out.lt; clear H1; clear C2))
      all_goals (go_ret; exact ⟨by first | rfl | (simp; done) | (simp; omega), B3.out⟩)
    | true =>
      have H1 := Lib.hid (fun W EW HR => may_of xa0 xb0 xc0 xd0 (.slice p n c) pre0 life0 idle0 lf0 s0 hF true hM W EW HR)
      have hFine := may_fine hM
      clear hM
      by_cases gb : n1 < 0
      · go_enter Tryd.func8, Tryd.ntmps8
        go_wp2_with (first
            | (go_at_call 9; refine (AWK.out _ (E.below ((B0.out).alloc B0.out.size (.cells #[.int .u8 xa0, .int .u8 xb0, .int .u8 xc0, .int .u8 xd0, .slice p n c, .int .i64 pre0, .int .i64 life0, .int .i64 idle0, .bool lf0] 26)))).mono ?_; rintro e w1 ⟨rfl, b1⟩; have B1 := Lib.hid (((B0.out).alloc B0.out.size (.cells #[.int .u8 xa0, .int .u8 xb0, .int .u8 xc0, .int .u8 xd0, .slice p n c, .int .i64 pre0, .int .i64 life0, .int .i64 idle0, .bool lf0] 26)).trans (b1.mono (by have := B0.out.size; simp <;> omega))); have C1 := Lib.hid ((IsRow.made w 26 #[.int .u8 xa0, .int .u8 xb0, .int .u8 xc0, .int .u8 xd0, .slice p n c, .int .i64 pre0, .int .i64 life0, .int .i64 idle0, .bool lf0]).call b1); have Cc0 : w1.cell? ⟨w.heap.size, 0, none⟩ = some (.int .u8 xa0) := C1.out.cell 0; have Cc1 : w1.cell? ⟨w.heap.size, 1, none⟩ = some (.int .u8 xb0) := C1.out.cell 1; have Cc2 : w1.cell? ⟨w.heap.size, 2, none⟩ = some (.int .u8 xc0) := C1.out.cell 2; have Cc3 : w1.cell? ⟨w.heap.size, 3, none⟩ = some (.int .u8 xd0) := C1.out.cell 3; have Cc4 : w1.cell? ⟨w.heap.size, 4, none⟩ = some (.slice p n c) := C1.out.cell 4; have Cc5 : w1.cell? ⟨w.heap.size, 5, none⟩ = some (.int .i64 pre0) := C1.out.cell 5; have Cc6 : w1.cell? ⟨w.heap.size, 6, none⟩ = some (.int .i64 life0) := C1.out.cell 6; have Cc7 : w1.cell? ⟨w.heap.size, 7, none⟩ = some (.int .i64 idle0) := C1.out.cell 7; have Cc8 : w1.cell? ⟨w.heap.size, 8, none⟩ = some (.bool lf0) := C1.out.cell 8; have Clt : w.heap.size < w1.heap.size := C1.out.lt; clear AWK)
            | (go_at_call 10; refine (HFw.out _ (Y.out.call (B1.out))).mono ?_; rintro e w2 ⟨rfl, b2⟩; have B2 := Lib.hid (B1.out.trans (b2.mono B1.out.size)); have C2 := Lib.hid (C1.out.call b2); clear Cc0 Cc1 Cc2 Cc3 Cc4 Cc5 Cc6 Cc7 Cc8 Clt; have Cc0 : w2.cell? ⟨w.heap.size, 0, none⟩ = some (.int .u8 xa0) := C2.out.cell 0; have Cc1 : w2.cell? ⟨w.heap.size, 1, none⟩ = some (.int .u8 xb0) := C2.out.cell 1; have Cc2 : w2.cell? ⟨w.heap.size, 2, none⟩ = some (.int .u8 xc0) := C2.out.cell 2; have Cc3 : w2.cell? ⟨w.heap.size, 3, none⟩ = some (.int .u8 xd0) := C2.out.cell 3; have Cc4 : w2.cell? ⟨w.heap.size, 4, none⟩ = some (.slice p n c) := C2.out.cell 4; have Cc5 : w2.cell? ⟨w.heap.size, 5, none⟩ = some (.int .i64 pre0) := C2.out.cell 5; have Cc6 : w2.cell? ⟨w.heap.size, 6, none⟩ = some (.int .i64 life0) := C2.out.cell 6; have Cc7 : w2.cell? ⟨w.heap.size, 7, none⟩ = some (.int .i64 idle0) := C2.out.cell 7; have Cc8 : w2.cell? ⟨w.heap.size, 8, none⟩ = some (.bool lf0) := C2.out.cell 8; have Clt : w.heap.size < w2.heap.size := C2.out.lt; clear HFw; clear C1)
            | (go_at_call 14; refine (H1.out _ (E.below (B2.out)) (Y.out.call (B2.out))).mono ?_; rintro e w3 ⟨rfl, b3⟩; have B3 := Lib.hid (B2.out.trans (b3.mono B2.out.size)); have C3 := Lib.hid (C2.out.call b3); clear Cc0 Cc1 Cc2 Cc3 Cc4 Cc5 Cc6 Cc7 Cc8 Clt; have Cc0 : w3.cell? ⟨w.heap.size, 0, none⟩ = some (.int .u8 xa0) := C3.out.cell 0; have Cc1 : w3.cell? ⟨w.heap.size, 1, none⟩ = some (.int .u8 xb0) := C3.out.cell 1; have Cc2 : w3.cell? ⟨w.heap.size, 2, none⟩ = some (.int .u8 xc0) := C3.out.cell 2; have Cc3 : w3.cell? ⟨w.heap.size, 3, none⟩ = some (.int .u8 xd0) := C3.out.cell 3; have Cc4 : w3.cell? ⟨w.heap.size, 4, none⟩ = some (.slice p n c) := C3.out.cell 4; have Cc5 : w3.cell? ⟨w.heap.size, 5, none⟩ = some (.int .i64 pre0) := C3.out.cell 5; have Cc6 : w3.cell? ⟨w.heap.size, 6, none⟩ = some (.int .i64 life0) := C3.out.cell 6; have Cc7 : w3.cell? ⟨w.heap.size, 7, none⟩ = some (.int .i64 idle0) := C3.out.cell 7; have Cc8 : w3.cell? ⟨w.heap.size, 8, none⟩ = some (.bool lf0) := C3.out.cell 8; have Clt : w.heap.size < w3.heap.size := C3.out.lt; clear H1; clear C2))
        all_goals (go_ret; exact ⟨by first | rfl | (simp; done) | (simp; omega), B3.out⟩)
      have gb' : ¬ n1 < 0 := by omega
      by_cases gc : (n : Int) ≤ n1
      · go_enter Tryd.func8, Tryd.ntmps8
        go_wp2_with (first
            | (go_at_call 9; refine (AWK.out _ (E.below ((B0.out).alloc B0.out.size (.cells #[.int .u8 xa0, .int .u8 xb0, .int .u8 xc0, .int .u8 xd0, .slice p n c, .int .i64 pre0, .int .i64 life0, .int .i64 idle0, .bool lf0] 26)))).mono ?_; rintro e w1 ⟨rfl, b1⟩; have B1 := Lib.hid (((B0.out).alloc B0.out.size (.cells #[.int .u8 xa0, .int .u8 xb0, .int .u8 xc0, .int .u8 xd0, .slice p n c, .int .i64 pre0, .int .i64 life0, .int .i64 idle0, .bool lf0] 26)).trans (b1.mono (by have := B0.out.size; simp <;> omega))); have C1 := Lib.hid ((IsRow.made w 26 #[.int .u8 xa0, .int .u8 xb0, .int .u8 xc0, .int .u8 xd0, .slice p n c, .int .i64 pre0, .int .i64 life0, .int .i64 idle0, .bool lf0]).call b1); have Cc0 : w1.cell? ⟨w.heap.size, 0, none⟩ = some (.int .u8 xa0) := C1.out.cell 0; have Cc1 : w1.cell? ⟨w.heap.size, 1, none⟩ = some (.int .u8 xb0) := C1.out.cell 1; have Cc2 : w1.cell? ⟨w.heap.size, 2, none⟩ = some (.int .u8 xc0) := C1.out.cell 2; have Cc3 : w1.cell? ⟨w.heap.size, 3, none⟩ = some (.int .u8 xd0) := C1.out.cell 3; have Cc4 : w1.cell? ⟨w.heap.size, 4, none⟩ = some (.slice p n c) := C1.out.cell 4; have Cc5 : w1.cell? ⟨w.heap.size, 5, none⟩ = some (.int .i64 pre0) := C1.out.cell 5; have Cc6 : w1.cell? ⟨w.heap.size, 6, none⟩ = some (.int .i64 life0) := C1.out.cell 6; have Cc7 : w1.cell? ⟨w.heap.size, 7, none⟩ = some (.int .i64 idle0) := C1.out.cell 7; have Cc8 : w1.cell? ⟨w.heap.size, 8, none⟩ = some (.bool lf0) := C1.out.cell 8; have Clt : w.heap.size < w1.heap.size := C1.out.lt; clear AWK)
            | (go_at_call 10; refine (HFw.out _ (Y.out.call (B1.out))).mono ?_; rintro e w2 ⟨rfl, b2⟩; have B2 := Lib.hid (B1.out.trans (b2.mono B1.out.size)); have C2 := Lib.hid (C1.out.call b2); clear Cc0 Cc1 Cc2 Cc3 Cc4 Cc5 Cc6 Cc7 Cc8 Clt; have Cc0 : w2.cell? ⟨w.heap.size, 0, none⟩ = some (.int .u8 xa0) := C2.out.cell 0; have Cc1 : w2.cell? ⟨w.heap.size, 1, none⟩ = some (.int .u8 xb0) := C2.out.cell 1; have Cc2 : w2.cell? ⟨w.heap.size, 2, none⟩ = some (.int .u8 xc0) := C2.out.cell 2; have Cc3 : w2.cell? ⟨w.heap.size, 3, none⟩ = some (.int .u8 xd0) := C2.out.cell 3; have Cc4 : w2.cell? ⟨w.heap.size, 4, none⟩ = some (.slice p n c) := C2.out.cell 4; have Cc5 : w2.cell? ⟨w.heap.size, 5, none⟩ = some (.int .i64 pre0) := C2.out.cell 5; have Cc6 : w2.cell? ⟨w.heap.size, 6, none⟩ = some (.int .i64 life0) := C2.out.cell 6; have Cc7 : w2.cell? ⟨w.heap.size, 7, none⟩ = some (.int .i64 idle0) := C2.out.cell 7; have Cc8 : w2.cell? ⟨w.heap.size, 8, none⟩ = some (.bool lf0) := C2.out.cell 8; have Clt : w.heap.size < w2.heap.size := C2.out.lt; clear HFw; clear C1)
            | (go_at_call 14; refine (H1.out _ (E.below (B2.out)) (Y.out.call (B2.out))).mono ?_; rintro e w3 ⟨rfl, b3⟩; have B3 := Lib.hid (B2.out.trans (b3.mono B2.out.size)); have C3 := Lib.hid (C2.out.call b3); clear Cc0 Cc1 Cc2 Cc3 Cc4 Cc5 Cc6 Cc7 Cc8 Clt; have Cc0 : w3.cell? ⟨w.heap.size, 0, none⟩ = some (.int .u8 xa0) := C3.out.cell 0; have Cc1 : w3.cell? ⟨w.heap.size, 1, none⟩ = some (.int .u8 xb0) := C3.out.cell 1; have Cc2 : w3.cell? ⟨w.heap.size, 2, none⟩ = some (.int .u8 xc0) := C3.out.cell 2; have Cc3 : w3.cell? ⟨w.heap.size, 3, none⟩ = some (.int .u8 xd0) := C3.out.cell 3; have Cc4 : w3.cell? ⟨w.heap.size, 4, none⟩ = some (.slice p n c) := C3.out.cell 4; have Cc5 : w3.cell? ⟨w.heap.size, 5, none⟩ = some (.int .i64 pre0) := C3.out.cell 5; have Cc6 : w3.cell? ⟨w.heap.size, 6, none⟩ = some (.int .i64 life0) := C3.out.cell 6; have Cc7 : w3.cell? ⟨w.heap.size, 7, none⟩ = some (.int .i64 idle0) := C3.out.cell 7; have Cc8 : w3.cell? ⟨w.heap.size, 8, none⟩ = some (.bool lf0) := C3.out.cell 8; have Clt : w.heap.size < w3.heap.size := C3.out.lt; clear H1; clear C2))
        all_goals (go_ret; exact ⟨by first | rfl | (simp; done) | (simp; omega), B3.out⟩)
      have gc' : ¬ (n : Int) ≤ n1 := by omega
      obtain ⟨i, rfl⟩ : ∃ i : Nat, n1 = (i : Int) := ⟨n1.toNat, by omega⟩
      have hil : i < s0.length := by have := HN.out; omega
      have gi : (i : Int) < (n : Int) := by omega
      have HL6 : Hid (s0.length ≤ 6) := Lib.hid hF.len
      have HIL := Lib.hid hil
      have hF2 : Few (s0.set i (ported s0[i] n2 n3)) := by
        have hm := List.getElem_mem hil
        refine ⟨by rw [List.length_set]; exact hF.len, ?_, ?_, ?_, ?_⟩
        all_goals (intro u hu; rcases List.mem_or_eq_of_mem_set hu with hu | hu)
        · exact hF.name u hu
        · rw [hu]; exact hF.name s0[i] hm
        · exact hF.host u hu
        · rw [hu]; exact hF.host s0[i] hm
        · exact hF.rs u hu
        · rw [hu]; exact hF.rs s0[i] hm
        · exact hF.texts u hu
        · rw [hu]; exact hF.texts s0[i] hm
      obtain ⟨k1, k2⟩ := why_ports hFine hil n2 n3
      obtain ⟨x, y, hW⟩ : ∃ x y, why pre0 life0 idle0 (s0.set i (ported s0[i] n2 n3)) = (x, y) := ⟨_, _, rfl⟩
      have K1 : Hid ((rangeN n2 n3 = false ∨ clash s0 i n2 n3 = true) → x = (i : Int) ∧ y = 3) := Lib.hid (fun h => by have := hW.symm.trans (k1 h); injection this with a b; exact ⟨a, b⟩)
      have K2 : Hid ((rangeN n2 n3 = true ∧ clash s0 i n2 n3 = false) → (x = -1 ∧ y = 0) ∨ ∃ k : Nat, i < k ∧ x = (k : Int) ∧ y = 3) := Lib.hid (fun h => by
        rcases k2 h with h | ⟨k, hk, h⟩
        · injection hW.symm.trans h with a b; exact Or.inl ⟨a, b⟩
        · injection hW.symm.trans h with a b; exact Or.inr ⟨k, hk, a, b⟩)
      have H2 := Lib.hid (fun v W EW HR => why_of xa0 xb0 xc0 xd0 v pre0 life0 idle0 lf0 (s0.set i (ported (s0[i]'hil) n2 n3)) hF2 x y hW W EW HR)
      have hbl0 := True.intro
      obtain ⟨bb, o, rfl, hbl, hcell⟩ := Y.out.some (by omega)
      clear hcell hW k1 k2 hF hFine hF2 hbl0
      have RGN : Hid (rangeN n2 n3 = (decide (1024 ≤ n2) && (decide (n2 ≤ n3) && decide (n3 ≤ 65535)))) := Lib.hid rfl
      by_cases r1 : n2 < 1024
      · obtain ⟨b0, hb0⟩ : ∃ b, b = true := ⟨_, rfl⟩
        have hrg : rangeN n2 n3 = false := by rw [RGN.out, decide_eq_false (show ¬ 1024 ≤ n2 by omega)]; rfl
        have HB0 : Hid (b0 = true → rangeN n2 n3 = false) := Lib.hid (fun h => by exact hrg)
        have HB1 : Hid (b0 = false → rangeN n2 n3 = true) := Lib.hid (fun h => by rw [hb0] at h; cases h)
        clear hrg
        go_enter Tryd.func8, Tryd.ntmps8
        go_wp2_with (first
            | (go_at_call 9; refine (AWK.out _ (E.below ((B0.out).alloc B0.out.size (.cells #[.int .u8 xa0, .int .u8 xb0, .int .u8 xc0, .int .u8 xd0, .slice (some ⟨bb, o, none⟩) n c, .int .i64 pre0, .int .i64 life0, .int .i64 idle0, .bool lf0] 26)))).mono ?_; rintro e w1 ⟨rfl, b1⟩; have B1 := Lib.hid (((B0.out).alloc B0.out.size (.cells #[.int .u8 xa0, .int .u8 xb0, .int .u8 xc0, .int .u8 xd0, .slice (some ⟨bb, o, none⟩) n c, .int .i64 pre0, .int .i64 life0, .int .i64 idle0, .bool lf0] 26)).trans (b1.mono (by have := B0.out.size; simp <;> omega))); have C1 := Lib.hid ((IsRow.made w 26 #[.int .u8 xa0, .int .u8 xb0, .int .u8 xc0, .int .u8 xd0, .slice (some ⟨bb, o, none⟩) n c, .int .i64 pre0, .int .i64 life0, .int .i64 idle0, .bool lf0]).call b1); have Cc0 : w1.cell? ⟨w.heap.size, 0, none⟩ = some (.int .u8 xa0) := C1.out.cell 0; have Cc1 : w1.cell? ⟨w.heap.size, 1, none⟩ = some (.int .u8 xb0) := C1.out.cell 1; have Cc2 : w1.cell? ⟨w.heap.size, 2, none⟩ = some (.int .u8 xc0) := C1.out.cell 2; have Cc3 : w1.cell? ⟨w.heap.size, 3, none⟩ = some (.int .u8 xd0) := C1.out.cell 3; have Cc4 : w1.cell? ⟨w.heap.size, 4, none⟩ = some (.slice (some ⟨bb, o, none⟩) n c) := C1.out.cell 4; have Cc5 : w1.cell? ⟨w.heap.size, 5, none⟩ = some (.int .i64 pre0) := C1.out.cell 5; have Cc6 : w1.cell? ⟨w.heap.size, 6, none⟩ = some (.int .i64 life0) := C1.out.cell 6; have Cc7 : w1.cell? ⟨w.heap.size, 7, none⟩ = some (.int .i64 idle0) := C1.out.cell 7; have Cc8 : w1.cell? ⟨w.heap.size, 8, none⟩ = some (.bool lf0) := C1.out.cell 8; have Clt : w.heap.size < w1.heap.size := C1.out.lt; clear AWK)
            | (go_at_call 10; refine (HFw.out _ (Y.out.call (B1.out))).mono ?_; rintro e w2 ⟨rfl, b2⟩; have B2 := Lib.hid (B1.out.trans (b2.mono B1.out.size)); have C2 := Lib.hid (C1.out.call b2); clear Cc0 Cc1 Cc2 Cc3 Cc4 Cc5 Cc6 Cc7 Cc8 Clt; have Cc0 : w2.cell? ⟨w.heap.size, 0, none⟩ = some (.int .u8 xa0) := C2.out.cell 0; have Cc1 : w2.cell? ⟨w.heap.size, 1, none⟩ = some (.int .u8 xb0) := C2.out.cell 1; have Cc2 : w2.cell? ⟨w.heap.size, 2, none⟩ = some (.int .u8 xc0) := C2.out.cell 2; have Cc3 : w2.cell? ⟨w.heap.size, 3, none⟩ = some (.int .u8 xd0) := C2.out.cell 3; have Cc4 : w2.cell? ⟨w.heap.size, 4, none⟩ = some (.slice (some ⟨bb, o, none⟩) n c) := C2.out.cell 4; have Cc5 : w2.cell? ⟨w.heap.size, 5, none⟩ = some (.int .i64 pre0) := C2.out.cell 5; have Cc6 : w2.cell? ⟨w.heap.size, 6, none⟩ = some (.int .i64 life0) := C2.out.cell 6; have Cc7 : w2.cell? ⟨w.heap.size, 7, none⟩ = some (.int .i64 idle0) := C2.out.cell 7; have Cc8 : w2.cell? ⟨w.heap.size, 8, none⟩ = some (.bool lf0) := C2.out.cell 8; have Clt : w.heap.size < w2.heap.size := C2.out.lt; clear HFw; clear C1)
            | (go_at_call 14; refine (H1.out _ (E.below (B2.out)) (Y.out.call (B2.out))).mono ?_; rintro e w3 ⟨rfl, b3⟩; have B3 := Lib.hid (B2.out.trans (b3.mono B2.out.size)); have C3 := Lib.hid (C2.out.call b3); clear Cc0 Cc1 Cc2 Cc3 Cc4 Cc5 Cc6 Cc7 Cc8 Clt; have Cc0 : w3.cell? ⟨w.heap.size, 0, none⟩ = some (.int .u8 xa0) := C3.out.cell 0; have Cc1 : w3.cell? ⟨w.heap.size, 1, none⟩ = some (.int .u8 xb0) := C3.out.cell 1; have Cc2 : w3.cell? ⟨w.heap.size, 2, none⟩ = some (.int .u8 xc0) := C3.out.cell 2; have Cc3 : w3.cell? ⟨w.heap.size, 3, none⟩ = some (.int .u8 xd0) := C3.out.cell 3; have Cc4 : w3.cell? ⟨w.heap.size, 4, none⟩ = some (.slice (some ⟨bb, o, none⟩) n c) := C3.out.cell 4; have Cc5 : w3.cell? ⟨w.heap.size, 5, none⟩ = some (.int .i64 pre0) := C3.out.cell 5; have Cc6 : w3.cell? ⟨w.heap.size, 6, none⟩ = some (.int .i64 life0) := C3.out.cell 6; have Cc7 : w3.cell? ⟨w.heap.size, 7, none⟩ = some (.int .i64 idle0) := C3.out.cell 7; have Cc8 : w3.cell? ⟨w.heap.size, 8, none⟩ = some (.bool lf0) := C3.out.cell 8; have Clt : w.heap.size < w3.heap.size := C3.out.lt; clear H1; clear C2)
            | (at_builtin; refine wpList_append_tens rfl _ _ rfl (w3.heap.size + 1) (.slice none 0 0) [] rfl (OwnTens.nil _ _) (.slice (some ⟨bb, o, none⟩) n c) s0 rfl (Y.out.call (B3.out.alloc B3.out.size (.cells #[.int .u8 xa0, .int .u8 xb0, .int .u8 xc0, .int .u8 xd0, .slice (some ⟨bb, o, none⟩) n c, .int .i64 pre0, .int .i64 life0, .int .i64 idle0, .bool lf0] 26))) (by have := HL6.out; first | (simp; done) | (simp; omega)) (by simp) ?_; intro v5 w5 o5 g5 e5; clear e5; have B5 := Lib.hid ((B3.out.alloc B3.out.size (.cells #[.int .u8 xa0, .int .u8 xb0, .int .u8 xc0, .int .u8 xd0, .slice (some ⟨bb, o, none⟩) n c, .int .i64 pre0, .int .i64 life0, .int .i64 idle0, .bool lf0] 26)).grown g5 (Nat.le_trans B3.out.size (by simp)) (OwnTens.nil w.heap.size w3).ge); have RD5 := Lib.hid (row_grown (IsRow.made w3 26 #[.int .u8 xa0, .int .u8 xb0, .int .u8 xc0, .int .u8 xd0, .slice (some ⟨bb, o, none⟩) n c, .int .i64 pre0, .int .i64 life0, .int .i64 idle0, .bool lf0]) g5 (fun e => by cases e)); have RC5 := Lib.hid (row_grown (C3.out.alloc (.cells #[.int .u8 xa0, .int .u8 xb0, .int .u8 xc0, .int .u8 xd0, .slice (some ⟨bb, o, none⟩) n c, .int .i64 pre0, .int .i64 life0, .int .i64 idle0, .bool lf0] 26)) g5 (fun e => by cases e)); clear g5; obtain ⟨g, cap, cur, rfl, hg, hr5, hc1, hc2, hcur⟩ := OwnTens.row (l := s0) (show OwnTens (w3.heap.size + 1) w5 v5 s0 from o5) HN.out (by omega); have HR5 := Lib.hid hr5; have HCUR := Lib.hid hcur; have HCAP := Lib.hid hc1; have HMAX := Lib.hid hc2; have HG := Lib.hid hg; have e7 : w5.cell? ⟨g, i * 14 + 7, none⟩ = some (.int .i64 s0[i].low) := (by rw [hr5.cell]; exact hcur _ _ (flatT_at HIL.out (by omega))); have e8 : w5.cell? ⟨g, i * 14 + 8, none⟩ = some (.int .i64 s0[i].high) := (by rw [hr5.cell]; exact hcur _ _ (flatT_at HIL.out (by omega))); have f7 := hr5.free (i * 14 + 7); have f8 := hr5.free (i * 14 + 8); have gl := hr5.lt; have gne : ¬ g = w3.heap.size := (by omega); have gne2 : ¬ w3.heap.size = g := (by omega); have d0 := RD5.out.cell 0; have d1 := RD5.out.cell 1; have d2 := RD5.out.cell 2; have d3 := RD5.out.cell 3; have d4 := RD5.out.cell 4; have d5 := RD5.out.cell 5; have d6 := RD5.out.cell 6; have d7 := RD5.out.cell 7; have d8 := RD5.out.cell 8; have dl := RD5.out.lt; have df := RD5.out.free 4; have z4 := RC5.out.cell 4; have zl := RC5.out.lt; clear hg hr5 hc1 hc2 hcur o5)
            | (go_at_call 11; have GGE : Hid (w.heap.size ≤ g) := Lib.hid (by have := HG.out; have := B3.out.size; omega); have GNE : Hid (g ≠ w3.heap.size) := Lib.hid (by have := HG.out; omega); have HCL : Hid (w.heap.size < w3.heap.size) := Lib.hid C3.out.lt; have CNE : Hid (w.heap.size ≠ g) := Lib.hid (by have := HG.out; have := HCL.out; omega); refine (H2.out (.slice (some ⟨g, 0, none⟩) n cap) _ (E.below (((B5.out.setCell (p := ⟨w3.heap.size, 4, none⟩) B3.out.size (.slice (some ⟨g, 0, none⟩) n cap)).setCell (p := ⟨g, i * 14 + 7, none⟩) GGE.out (.int .i64 n2)).setCell (p := ⟨g, i * 14 + 8, none⟩) GGE.out (.int .i64 n3))) (tens_cur (l := s0.set i (ported s0[i] n2 n3)) (by rw [List.length_set]; exact HN.out) (((HR5.out.other (a := ⟨w3.heap.size, 4, none⟩) GNE.out (.slice (some ⟨g, 0, none⟩) n cap)).set (i * 14 + 7) (.int .i64 n2)).set (i * 14 + 8) (.int .i64 n3)) HCAP.out HMAX.out (fun t ht => by
                rcases List.mem_or_eq_of_mem_set ht with ht | ht
                · exact (Y.out.1 t ht).call (((B5.out.setCell (p := ⟨w3.heap.size, 4, none⟩) B3.out.size (.slice (some ⟨g, 0, none⟩) n cap)).setCell (p := ⟨g, i * 14 + 7, none⟩) GGE.out (.int .i64 n2)).setCell (p := ⟨g, i * 14 + 8, none⟩) GGE.out (.int .i64 n3))
                · rw [ht]; exact (Y.out.1 s0[i] (List.getElem_mem _)).call (((B5.out.setCell (p := ⟨w3.heap.size, 4, none⟩) B3.out.size (.slice (some ⟨g, 0, none⟩) n cap)).setCell (p := ⟨g, i * 14 + 7, none⟩) GGE.out (.int .i64 n2)).setCell (p := ⟨g, i * 14 + 8, none⟩) GGE.out (.int .i64 n3))) (cur_ports HCUR.out HIL.out n2 n3))).mono ?_; rintro e w7 ⟨rfl, b7⟩; have B7 := Lib.hid ((((B5.out.setCell (p := ⟨w3.heap.size, 4, none⟩) B3.out.size (.slice (some ⟨g, 0, none⟩) n cap)).setCell (p := ⟨g, i * 14 + 7, none⟩) GGE.out (.int .i64 n2)).setCell (p := ⟨g, i * 14 + 8, none⟩) GGE.out (.int .i64 n3)).trans (b7.mono (((B5.out.setCell (p := ⟨w3.heap.size, 4, none⟩) B3.out.size (.slice (some ⟨g, 0, none⟩) n cap)).setCell (p := ⟨g, i * 14 + 7, none⟩) GGE.out (.int .i64 n2)).setCell (p := ⟨g, i * 14 + 8, none⟩) GGE.out (.int .i64 n3)).size)); have RC7 := Lib.hid ((((RC5.out.other (a := ⟨w3.heap.size, 4, none⟩) (Nat.ne_of_lt HCL.out) (.slice (some ⟨g, 0, none⟩) n cap)).other (a := ⟨g, i * 14 + 7, none⟩) CNE.out (.int .i64 n2)).other (a := ⟨g, i * 14 + 8, none⟩) CNE.out (.int .i64 n3)).call b7); clear H2 b7 e7 e8 f7 f8 gl gne gne2 d0 d1 d2 d3 d4 d5 d6 d7 d8 dl df z4 zl))
        go_loopw [14, 15] (fun x14 x15 wr => ∃ (k : Nat), x14 = .bool (b0 || clash s0 k n2 n3) ∧ x15 = .int .i64 (k : Int) ∧ k ≤ i ∧ Hid (IsRow wr w.heap.size 26 #[.int .u8 xa0, .int .u8 xb0, .int .u8 xc0, .int .u8 xd0, .slice (some ⟨bb, o, none⟩) n c, .int .i64 pre0, .int .i64 life0, .int .i64 idle0, .bool lf0]) ∧ Hid (Below w.heap.size w wr)) (fun _ x _ => i - (intOf x).toNat)
        case atStart => exact ⟨0, by first | (rw [hb0]; rfl) | (rw [hb0, decide_eq_false (show ¬ n2 < 1024 by omega), decide_eq_false (show ¬ 65535 < n3 by omega), decide_eq_false (show ¬ n3 < n2 by omega)]; rfl), rfl, Nat.zero_le _, RC7, B7⟩
        case round =>
          obtain ⟨k, rfl, rfl, hk, CR, HB⟩ := hrel
          by_cases hlt : k < i
          · have hji : (k : Int) < (i : Int) := by omega
            have hkn : (k : Int) < (n : Int) := by omega
            have HK : Hid (k + 1 ≤ i) := Lib.hid hlt
            have hkl : k < s0.length := by have := HIL.out; omega
            obtain ⟨bb2, o2, e9, hbl9, hcell9⟩ := (Y.out.call HB.out).some (by omega)
            injection e9 with e9
            injection e9 with e9a e9b e9c
            subst e9a; subst e9b
            have e7 := (hcell9 k hkl).c7
            have e8 := (hcell9 k hkl).c8
            have m4 := CR.out.cell 4
            have ml := CR.out.lt
            have HCN := Lib.hid (clash_next (low := n2) (high := n3) hkl)
            clear hcell9 hbl
            generalize s0[k] = ut at *
            obtain ⟨cb, hcb⟩ : ∃ x, (b0 || clash s0 k n2 n3) = x := ⟨_, rfl⟩
            have HCB := Lib.hid hcb
            rw [hcb]
            clear hcb
            cases cb with
            | true =>
              have HV : Hid ((b0 || clash s0 (k + 1) n2 n3) = true) := Lib.hid (by rw [HCN.out, ← Bool.or_assoc, HCB.out]; rfl)
              clear HCN HCB
              go_wp2_with fail
              go_roundw
              case rel => exact ⟨k + 1, by rw [HV.out], by go_num, HK.out, CR, HB⟩
              case measure => have := HK.out; simp [intOf]; omega
            | false =>
              by_cases q1 : n2 ≤ ut.high
              · by_cases q2 : ut.low ≤ n3
                · have HV : Hid ((b0 || clash s0 (k + 1) n2 n3) = true) := Lib.hid (by rw [HCN.out, ← Bool.or_assoc, HCB.out, decide_eq_true q1, decide_eq_true q2]; rfl)
                  clear HCN HCB
                  go_wp2_with fail
                  go_roundw
                  case rel => exact ⟨k + 1, by rw [HV.out], by go_num, HK.out, CR, HB⟩
                  case measure => have := HK.out; simp [intOf]; omega
                · have HV : Hid ((b0 || clash s0 (k + 1) n2 n3) = false) := Lib.hid (by rw [HCN.out, ← Bool.or_assoc, HCB.out, decide_eq_true q1, decide_eq_false q2]; rfl)
                  have q2d : decide (ut.low ≤ n3) = false := decide_eq_false q2
                  clear HCN HCB
                  go_wp2_with fail
                  go_roundw
                  case rel => exact ⟨k + 1, by rw [HV.out], by go_num, HK.out, CR, HB⟩
                  case measure => have := HK.out; simp [intOf]; omega
              · have HV : Hid ((b0 || clash s0 (k + 1) n2 n3) = false) := Lib.hid (by rw [HCN.out, ← Bool.or_assoc, HCB.out, decide_eq_false q1]; rfl)
                have q1d : decide (n2 ≤ ut.high) = false := decide_eq_false q1
                clear HCN HCB
                go_wp2_with fail
                go_roundw
                case rel => exact ⟨k + 1, by rw [HV.out], by go_num, HK.out, CR, HB⟩
                case measure => have := HK.out; simp [intOf]; omega
          · have hji : ¬ (k : Int) < (i : Int) := by omega
            obtain rfl : k = i := by omega
            obtain ⟨cb, hcb⟩ : ∃ x, (b0 || clash s0 k n2 n3) = x := ⟨_, rfl⟩
            rw [hcb]
            cases cb with
            | true =>
              obtain ⟨rfl, rfl⟩ := K1.out (by
                rw [Bool.or_eq_true] at hcb
                rcases hcb with h | h
                · exact Or.inl (HB0.out h)
                · exact Or.inr h)
              clear hcb
              go_wp2_with fail
              go_ret
              exact ⟨by first | rfl | (simp; done) | (simp; omega), HB.out⟩
            | false =>
              rw [Bool.or_eq_false_iff] at hcb
              rcases K2.out ⟨HB1.out hcb.1, hcb.2⟩ with ⟨rfl, rfl⟩ | ⟨k9, hk9, rfl, rfl⟩
              · clear hcb
                go_wp2_with fail
                go_ret
                exact ⟨by first | rfl | (simp; done) | (simp; omega), HB.out⟩
              · clear hcb
                have gk9 : (k : Int) < (k9 : Int) := by omega
                go_wp2_with fail
                go_ret
                exact ⟨by first | rfl | (simp; done) | (simp; omega), HB.out⟩
      by_cases r2 : 65535 < n3
      · obtain ⟨b0, hb0⟩ : ∃ b, b = true := ⟨_, rfl⟩
        have hrg : rangeN n2 n3 = false := by rw [RGN.out, decide_eq_false (show ¬ n3 ≤ 65535 by omega), Bool.and_false, Bool.and_false]
        have HB0 : Hid (b0 = true → rangeN n2 n3 = false) := Lib.hid (fun h => by exact hrg)
        have HB1 : Hid (b0 = false → rangeN n2 n3 = true) := Lib.hid (fun h => by rw [hb0] at h; cases h)
        clear hrg
        go_enter Tryd.func8, Tryd.ntmps8
        go_wp2_with (first
            | (go_at_call 9; refine (AWK.out _ (E.below ((B0.out).alloc B0.out.size (.cells #[.int .u8 xa0, .int .u8 xb0, .int .u8 xc0, .int .u8 xd0, .slice (some ⟨bb, o, none⟩) n c, .int .i64 pre0, .int .i64 life0, .int .i64 idle0, .bool lf0] 26)))).mono ?_; rintro e w1 ⟨rfl, b1⟩; have B1 := Lib.hid (((B0.out).alloc B0.out.size (.cells #[.int .u8 xa0, .int .u8 xb0, .int .u8 xc0, .int .u8 xd0, .slice (some ⟨bb, o, none⟩) n c, .int .i64 pre0, .int .i64 life0, .int .i64 idle0, .bool lf0] 26)).trans (b1.mono (by have := B0.out.size; simp <;> omega))); have C1 := Lib.hid ((IsRow.made w 26 #[.int .u8 xa0, .int .u8 xb0, .int .u8 xc0, .int .u8 xd0, .slice (some ⟨bb, o, none⟩) n c, .int .i64 pre0, .int .i64 life0, .int .i64 idle0, .bool lf0]).call b1); have Cc0 : w1.cell? ⟨w.heap.size, 0, none⟩ = some (.int .u8 xa0) := C1.out.cell 0; have Cc1 : w1.cell? ⟨w.heap.size, 1, none⟩ = some (.int .u8 xb0) := C1.out.cell 1; have Cc2 : w1.cell? ⟨w.heap.size, 2, none⟩ = some (.int .u8 xc0) := C1.out.cell 2; have Cc3 : w1.cell? ⟨w.heap.size, 3, none⟩ = some (.int .u8 xd0) := C1.out.cell 3; have Cc4 : w1.cell? ⟨w.heap.size, 4, none⟩ = some (.slice (some ⟨bb, o, none⟩) n c) := C1.out.cell 4; have Cc5 : w1.cell? ⟨w.heap.size, 5, none⟩ = some (.int .i64 pre0) := C1.out.cell 5; have Cc6 : w1.cell? ⟨w.heap.size, 6, none⟩ = some (.int .i64 life0) := C1.out.cell 6; have Cc7 : w1.cell? ⟨w.heap.size, 7, none⟩ = some (.int .i64 idle0) := C1.out.cell 7; have Cc8 : w1.cell? ⟨w.heap.size, 8, none⟩ = some (.bool lf0) := C1.out.cell 8; have Clt : w.heap.size < w1.heap.size := C1.out.lt; clear AWK)
            | (go_at_call 10; refine (HFw.out _ (Y.out.call (B1.out))).mono ?_; rintro e w2 ⟨rfl, b2⟩; have B2 := Lib.hid (B1.out.trans (b2.mono B1.out.size)); have C2 := Lib.hid (C1.out.call b2); clear Cc0 Cc1 Cc2 Cc3 Cc4 Cc5 Cc6 Cc7 Cc8 Clt; have Cc0 : w2.cell? ⟨w.heap.size, 0, none⟩ = some (.int .u8 xa0) := C2.out.cell 0; have Cc1 : w2.cell? ⟨w.heap.size, 1, none⟩ = some (.int .u8 xb0) := C2.out.cell 1; have Cc2 : w2.cell? ⟨w.heap.size, 2, none⟩ = some (.int .u8 xc0) := C2.out.cell 2; have Cc3 : w2.cell? ⟨w.heap.size, 3, none⟩ = some (.int .u8 xd0) := C2.out.cell 3; have Cc4 : w2.cell? ⟨w.heap.size, 4, none⟩ = some (.slice (some ⟨bb, o, none⟩) n c) := C2.out.cell 4; have Cc5 : w2.cell? ⟨w.heap.size, 5, none⟩ = some (.int .i64 pre0) := C2.out.cell 5; have Cc6 : w2.cell? ⟨w.heap.size, 6, none⟩ = some (.int .i64 life0) := C2.out.cell 6; have Cc7 : w2.cell? ⟨w.heap.size, 7, none⟩ = some (.int .i64 idle0) := C2.out.cell 7; have Cc8 : w2.cell? ⟨w.heap.size, 8, none⟩ = some (.bool lf0) := C2.out.cell 8; have Clt : w.heap.size < w2.heap.size := C2.out.lt; clear HFw; clear C1)
            | (go_at_call 14; refine (H1.out _ (E.below (B2.out)) (Y.out.call (B2.out))).mono ?_; rintro e w3 ⟨rfl, b3⟩; have B3 := Lib.hid (B2.out.trans (b3.mono B2.out.size)); have C3 := Lib.hid (C2.out.call b3); clear Cc0 Cc1 Cc2 Cc3 Cc4 Cc5 Cc6 Cc7 Cc8 Clt; have Cc0 : w3.cell? ⟨w.heap.size, 0, none⟩ = some (.int .u8 xa0) := C3.out.cell 0; have Cc1 : w3.cell? ⟨w.heap.size, 1, none⟩ = some (.int .u8 xb0) := C3.out.cell 1; have Cc2 : w3.cell? ⟨w.heap.size, 2, none⟩ = some (.int .u8 xc0) := C3.out.cell 2; have Cc3 : w3.cell? ⟨w.heap.size, 3, none⟩ = some (.int .u8 xd0) := C3.out.cell 3; have Cc4 : w3.cell? ⟨w.heap.size, 4, none⟩ = some (.slice (some ⟨bb, o, none⟩) n c) := C3.out.cell 4; have Cc5 : w3.cell? ⟨w.heap.size, 5, none⟩ = some (.int .i64 pre0) := C3.out.cell 5; have Cc6 : w3.cell? ⟨w.heap.size, 6, none⟩ = some (.int .i64 life0) := C3.out.cell 6; have Cc7 : w3.cell? ⟨w.heap.size, 7, none⟩ = some (.int .i64 idle0) := C3.out.cell 7; have Cc8 : w3.cell? ⟨w.heap.size, 8, none⟩ = some (.bool lf0) := C3.out.cell 8; have Clt : w.heap.size < w3.heap.size := C3.out.lt; clear H1; clear C2)
            | (at_builtin; refine wpList_append_tens rfl _ _ rfl (w3.heap.size + 1) (.slice none 0 0) [] rfl (OwnTens.nil _ _) (.slice (some ⟨bb, o, none⟩) n c) s0 rfl (Y.out.call (B3.out.alloc B3.out.size (.cells #[.int .u8 xa0, .int .u8 xb0, .int .u8 xc0, .int .u8 xd0, .slice (some ⟨bb, o, none⟩) n c, .int .i64 pre0, .int .i64 life0, .int .i64 idle0, .bool lf0] 26))) (by have := HL6.out; first | (simp; done) | (simp; omega)) (by simp) ?_; intro v5 w5 o5 g5 e5; clear e5; have B5 := Lib.hid ((B3.out.alloc B3.out.size (.cells #[.int .u8 xa0, .int .u8 xb0, .int .u8 xc0, .int .u8 xd0, .slice (some ⟨bb, o, none⟩) n c, .int .i64 pre0, .int .i64 life0, .int .i64 idle0, .bool lf0] 26)).grown g5 (Nat.le_trans B3.out.size (by simp)) (OwnTens.nil w.heap.size w3).ge); have RD5 := Lib.hid (row_grown (IsRow.made w3 26 #[.int .u8 xa0, .int .u8 xb0, .int .u8 xc0, .int .u8 xd0, .slice (some ⟨bb, o, none⟩) n c, .int .i64 pre0, .int .i64 life0, .int .i64 idle0, .bool lf0]) g5 (fun e => by cases e)); have RC5 := Lib.hid (row_grown (C3.out.alloc (.cells #[.int .u8 xa0, .int .u8 xb0, .int .u8 xc0, .int .u8 xd0, .slice (some ⟨bb, o, none⟩) n c, .int .i64 pre0, .int .i64 life0, .int .i64 idle0, .bool lf0] 26)) g5 (fun e => by cases e)); clear g5; obtain ⟨g, cap, cur, rfl, hg, hr5, hc1, hc2, hcur⟩ := OwnTens.row (l := s0) (show OwnTens (w3.heap.size + 1) w5 v5 s0 from o5) HN.out (by omega); have HR5 := Lib.hid hr5; have HCUR := Lib.hid hcur; have HCAP := Lib.hid hc1; have HMAX := Lib.hid hc2; have HG := Lib.hid hg; have e7 : w5.cell? ⟨g, i * 14 + 7, none⟩ = some (.int .i64 s0[i].low) := (by rw [hr5.cell]; exact hcur _ _ (flatT_at HIL.out (by omega))); have e8 : w5.cell? ⟨g, i * 14 + 8, none⟩ = some (.int .i64 s0[i].high) := (by rw [hr5.cell]; exact hcur _ _ (flatT_at HIL.out (by omega))); have f7 := hr5.free (i * 14 + 7); have f8 := hr5.free (i * 14 + 8); have gl := hr5.lt; have gne : ¬ g = w3.heap.size := (by omega); have gne2 : ¬ w3.heap.size = g := (by omega); have d0 := RD5.out.cell 0; have d1 := RD5.out.cell 1; have d2 := RD5.out.cell 2; have d3 := RD5.out.cell 3; have d4 := RD5.out.cell 4; have d5 := RD5.out.cell 5; have d6 := RD5.out.cell 6; have d7 := RD5.out.cell 7; have d8 := RD5.out.cell 8; have dl := RD5.out.lt; have df := RD5.out.free 4; have z4 := RC5.out.cell 4; have zl := RC5.out.lt; clear hg hr5 hc1 hc2 hcur o5)
            | (go_at_call 11; have GGE : Hid (w.heap.size ≤ g) := Lib.hid (by have := HG.out; have := B3.out.size; omega); have GNE : Hid (g ≠ w3.heap.size) := Lib.hid (by have := HG.out; omega); have HCL : Hid (w.heap.size < w3.heap.size) := Lib.hid C3.out.lt; have CNE : Hid (w.heap.size ≠ g) := Lib.hid (by have := HG.out; have := HCL.out; omega); refine (H2.out (.slice (some ⟨g, 0, none⟩) n cap) _ (E.below (((B5.out.setCell (p := ⟨w3.heap.size, 4, none⟩) B3.out.size (.slice (some ⟨g, 0, none⟩) n cap)).setCell (p := ⟨g, i * 14 + 7, none⟩) GGE.out (.int .i64 n2)).setCell (p := ⟨g, i * 14 + 8, none⟩) GGE.out (.int .i64 n3))) (tens_cur (l := s0.set i (ported s0[i] n2 n3)) (by rw [List.length_set]; exact HN.out) (((HR5.out.other (a := ⟨w3.heap.size, 4, none⟩) GNE.out (.slice (some ⟨g, 0, none⟩) n cap)).set (i * 14 + 7) (.int .i64 n2)).set (i * 14 + 8) (.int .i64 n3)) HCAP.out HMAX.out (fun t ht => by
                rcases List.mem_or_eq_of_mem_set ht with ht | ht
                · exact (Y.out.1 t ht).call (((B5.out.setCell (p := ⟨w3.heap.size, 4, none⟩) B3.out.size (.slice (some ⟨g, 0, none⟩) n cap)).setCell (p := ⟨g, i * 14 + 7, none⟩) GGE.out (.int .i64 n2)).setCell (p := ⟨g, i * 14 + 8, none⟩) GGE.out (.int .i64 n3))
                · rw [ht]; exact (Y.out.1 s0[i] (List.getElem_mem _)).call (((B5.out.setCell (p := ⟨w3.heap.size, 4, none⟩) B3.out.size (.slice (some ⟨g, 0, none⟩) n cap)).setCell (p := ⟨g, i * 14 + 7, none⟩) GGE.out (.int .i64 n2)).setCell (p := ⟨g, i * 14 + 8, none⟩) GGE.out (.int .i64 n3))) (cur_ports HCUR.out HIL.out n2 n3))).mono ?_; rintro e w7 ⟨rfl, b7⟩; have B7 := Lib.hid ((((B5.out.setCell (p := ⟨w3.heap.size, 4, none⟩) B3.out.size (.slice (some ⟨g, 0, none⟩) n cap)).setCell (p := ⟨g, i * 14 + 7, none⟩) GGE.out (.int .i64 n2)).setCell (p := ⟨g, i * 14 + 8, none⟩) GGE.out (.int .i64 n3)).trans (b7.mono (((B5.out.setCell (p := ⟨w3.heap.size, 4, none⟩) B3.out.size (.slice (some ⟨g, 0, none⟩) n cap)).setCell (p := ⟨g, i * 14 + 7, none⟩) GGE.out (.int .i64 n2)).setCell (p := ⟨g, i * 14 + 8, none⟩) GGE.out (.int .i64 n3)).size)); have RC7 := Lib.hid ((((RC5.out.other (a := ⟨w3.heap.size, 4, none⟩) (Nat.ne_of_lt HCL.out) (.slice (some ⟨g, 0, none⟩) n cap)).other (a := ⟨g, i * 14 + 7, none⟩) CNE.out (.int .i64 n2)).other (a := ⟨g, i * 14 + 8, none⟩) CNE.out (.int .i64 n3)).call b7); clear H2 b7 e7 e8 f7 f8 gl gne gne2 d0 d1 d2 d3 d4 d5 d6 d7 d8 dl df z4 zl))
        go_loopw [14, 15] (fun x14 x15 wr => ∃ (k : Nat), x14 = .bool (b0 || clash s0 k n2 n3) ∧ x15 = .int .i64 (k : Int) ∧ k ≤ i ∧ Hid (IsRow wr w.heap.size 26 #[.int .u8 xa0, .int .u8 xb0, .int .u8 xc0, .int .u8 xd0, .slice (some ⟨bb, o, none⟩) n c, .int .i64 pre0, .int .i64 life0, .int .i64 idle0, .bool lf0]) ∧ Hid (Below w.heap.size w wr)) (fun _ x _ => i - (intOf x).toNat)
        case atStart => exact ⟨0, by first | (rw [hb0]; rfl) | (rw [hb0, decide_eq_false (show ¬ n2 < 1024 by omega), decide_eq_false (show ¬ 65535 < n3 by omega), decide_eq_false (show ¬ n3 < n2 by omega)]; rfl), rfl, Nat.zero_le _, RC7, B7⟩
        case round =>
          obtain ⟨k, rfl, rfl, hk, CR, HB⟩ := hrel
          by_cases hlt : k < i
          · have hji : (k : Int) < (i : Int) := by omega
            have hkn : (k : Int) < (n : Int) := by omega
            have HK : Hid (k + 1 ≤ i) := Lib.hid hlt
            have hkl : k < s0.length := by have := HIL.out; omega
            obtain ⟨bb2, o2, e9, hbl9, hcell9⟩ := (Y.out.call HB.out).some (by omega)
            injection e9 with e9
            injection e9 with e9a e9b e9c
            subst e9a; subst e9b
            have e7 := (hcell9 k hkl).c7
            have e8 := (hcell9 k hkl).c8
            have m4 := CR.out.cell 4
            have ml := CR.out.lt
            have HCN := Lib.hid (clash_next (low := n2) (high := n3) hkl)
            clear hcell9 hbl
            generalize s0[k] = ut at *
            obtain ⟨cb, hcb⟩ : ∃ x, (b0 || clash s0 k n2 n3) = x := ⟨_, rfl⟩
            have HCB := Lib.hid hcb
            rw [hcb]
            clear hcb
            cases cb with
            | true =>
              have HV : Hid ((b0 || clash s0 (k + 1) n2 n3) = true) := Lib.hid (by rw [HCN.out, ← Bool.or_assoc, HCB.out]; rfl)
              clear HCN HCB
              go_wp2_with fail
              go_roundw
              case rel => exact ⟨k + 1, by rw [HV.out], by go_num, HK.out, CR, HB⟩
              case measure => have := HK.out; simp [intOf]; omega
            | false =>
              by_cases q1 : n2 ≤ ut.high
              · by_cases q2 : ut.low ≤ n3
                · have HV : Hid ((b0 || clash s0 (k + 1) n2 n3) = true) := Lib.hid (by rw [HCN.out, ← Bool.or_assoc, HCB.out, decide_eq_true q1, decide_eq_true q2]; rfl)
                  clear HCN HCB
                  go_wp2_with fail
                  go_roundw
                  case rel => exact ⟨k + 1, by rw [HV.out], by go_num, HK.out, CR, HB⟩
                  case measure => have := HK.out; simp [intOf]; omega
                · have HV : Hid ((b0 || clash s0 (k + 1) n2 n3) = false) := Lib.hid (by rw [HCN.out, ← Bool.or_assoc, HCB.out, decide_eq_true q1, decide_eq_false q2]; rfl)
                  have q2d : decide (ut.low ≤ n3) = false := decide_eq_false q2
                  clear HCN HCB
                  go_wp2_with fail
                  go_roundw
                  case rel => exact ⟨k + 1, by rw [HV.out], by go_num, HK.out, CR, HB⟩
                  case measure => have := HK.out; simp [intOf]; omega
              · have HV : Hid ((b0 || clash s0 (k + 1) n2 n3) = false) := Lib.hid (by rw [HCN.out, ← Bool.or_assoc, HCB.out, decide_eq_false q1]; rfl)
                have q1d : decide (n2 ≤ ut.high) = false := decide_eq_false q1
                clear HCN HCB
                go_wp2_with fail
                go_roundw
                case rel => exact ⟨k + 1, by rw [HV.out], by go_num, HK.out, CR, HB⟩
                case measure => have := HK.out; simp [intOf]; omega
          · have hji : ¬ (k : Int) < (i : Int) := by omega
            obtain rfl : k = i := by omega
            obtain ⟨cb, hcb⟩ : ∃ x, (b0 || clash s0 k n2 n3) = x := ⟨_, rfl⟩
            rw [hcb]
            cases cb with
            | true =>
              obtain ⟨rfl, rfl⟩ := K1.out (by
                rw [Bool.or_eq_true] at hcb
                rcases hcb with h | h
                · exact Or.inl (HB0.out h)
                · exact Or.inr h)
              clear hcb
              go_wp2_with fail
              go_ret
              exact ⟨by first | rfl | (simp; done) | (simp; omega), HB.out⟩
            | false =>
              rw [Bool.or_eq_false_iff] at hcb
              rcases K2.out ⟨HB1.out hcb.1, hcb.2⟩ with ⟨rfl, rfl⟩ | ⟨k9, hk9, rfl, rfl⟩
              · clear hcb
                go_wp2_with fail
                go_ret
                exact ⟨by first | rfl | (simp; done) | (simp; omega), HB.out⟩
              · clear hcb
                have gk9 : (k : Int) < (k9 : Int) := by omega
                go_wp2_with fail
                go_ret
                exact ⟨by first | rfl | (simp; done) | (simp; omega), HB.out⟩
      by_cases r3 : n3 < n2
      · obtain ⟨b0, hb0⟩ : ∃ b, b = true := ⟨_, rfl⟩
        have hrg : rangeN n2 n3 = false := by rw [RGN.out, decide_eq_false (show ¬ n2 ≤ n3 by omega), Bool.false_and, Bool.and_false]
        have HB0 : Hid (b0 = true → rangeN n2 n3 = false) := Lib.hid (fun h => by exact hrg)
        have HB1 : Hid (b0 = false → rangeN n2 n3 = true) := Lib.hid (fun h => by rw [hb0] at h; cases h)
        clear hrg
        go_enter Tryd.func8, Tryd.ntmps8
        go_wp2_with (first
            | (go_at_call 9; refine (AWK.out _ (E.below ((B0.out).alloc B0.out.size (.cells #[.int .u8 xa0, .int .u8 xb0, .int .u8 xc0, .int .u8 xd0, .slice (some ⟨bb, o, none⟩) n c, .int .i64 pre0, .int .i64 life0, .int .i64 idle0, .bool lf0] 26)))).mono ?_; rintro e w1 ⟨rfl, b1⟩; have B1 := Lib.hid (((B0.out).alloc B0.out.size (.cells #[.int .u8 xa0, .int .u8 xb0, .int .u8 xc0, .int .u8 xd0, .slice (some ⟨bb, o, none⟩) n c, .int .i64 pre0, .int .i64 life0, .int .i64 idle0, .bool lf0] 26)).trans (b1.mono (by have := B0.out.size; simp <;> omega))); have C1 := Lib.hid ((IsRow.made w 26 #[.int .u8 xa0, .int .u8 xb0, .int .u8 xc0, .int .u8 xd0, .slice (some ⟨bb, o, none⟩) n c, .int .i64 pre0, .int .i64 life0, .int .i64 idle0, .bool lf0]).call b1); have Cc0 : w1.cell? ⟨w.heap.size, 0, none⟩ = some (.int .u8 xa0) := C1.out.cell 0; have Cc1 : w1.cell? ⟨w.heap.size, 1, none⟩ = some (.int .u8 xb0) := C1.out.cell 1; have Cc2 : w1.cell? ⟨w.heap.size, 2, none⟩ = some (.int .u8 xc0) := C1.out.cell 2; have Cc3 : w1.cell? ⟨w.heap.size, 3, none⟩ = some (.int .u8 xd0) := C1.out.cell 3; have Cc4 : w1.cell? ⟨w.heap.size, 4, none⟩ = some (.slice (some ⟨bb, o, none⟩) n c) := C1.out.cell 4; have Cc5 : w1.cell? ⟨w.heap.size, 5, none⟩ = some (.int .i64 pre0) := C1.out.cell 5; have Cc6 : w1.cell? ⟨w.heap.size, 6, none⟩ = some (.int .i64 life0) := C1.out.cell 6; have Cc7 : w1.cell? ⟨w.heap.size, 7, none⟩ = some (.int .i64 idle0) := C1.out.cell 7; have Cc8 : w1.cell? ⟨w.heap.size, 8, none⟩ = some (.bool lf0) := C1.out.cell 8; have Clt : w.heap.size < w1.heap.size := C1.out.lt; clear AWK)
            | (go_at_call 10; refine (HFw.out _ (Y.out.call (B1.out))).mono ?_; rintro e w2 ⟨rfl, b2⟩; have B2 := Lib.hid (B1.out.trans (b2.mono B1.out.size)); have C2 := Lib.hid (C1.out.call b2); clear Cc0 Cc1 Cc2 Cc3 Cc4 Cc5 Cc6 Cc7 Cc8 Clt; have Cc0 : w2.cell? ⟨w.heap.size, 0, none⟩ = some (.int .u8 xa0) := C2.out.cell 0; have Cc1 : w2.cell? ⟨w.heap.size, 1, none⟩ = some (.int .u8 xb0) := C2.out.cell 1; have Cc2 : w2.cell? ⟨w.heap.size, 2, none⟩ = some (.int .u8 xc0) := C2.out.cell 2; have Cc3 : w2.cell? ⟨w.heap.size, 3, none⟩ = some (.int .u8 xd0) := C2.out.cell 3; have Cc4 : w2.cell? ⟨w.heap.size, 4, none⟩ = some (.slice (some ⟨bb, o, none⟩) n c) := C2.out.cell 4; have Cc5 : w2.cell? ⟨w.heap.size, 5, none⟩ = some (.int .i64 pre0) := C2.out.cell 5; have Cc6 : w2.cell? ⟨w.heap.size, 6, none⟩ = some (.int .i64 life0) := C2.out.cell 6; have Cc7 : w2.cell? ⟨w.heap.size, 7, none⟩ = some (.int .i64 idle0) := C2.out.cell 7; have Cc8 : w2.cell? ⟨w.heap.size, 8, none⟩ = some (.bool lf0) := C2.out.cell 8; have Clt : w.heap.size < w2.heap.size := C2.out.lt; clear HFw; clear C1)
            | (go_at_call 14; refine (H1.out _ (E.below (B2.out)) (Y.out.call (B2.out))).mono ?_; rintro e w3 ⟨rfl, b3⟩; have B3 := Lib.hid (B2.out.trans (b3.mono B2.out.size)); have C3 := Lib.hid (C2.out.call b3); clear Cc0 Cc1 Cc2 Cc3 Cc4 Cc5 Cc6 Cc7 Cc8 Clt; have Cc0 : w3.cell? ⟨w.heap.size, 0, none⟩ = some (.int .u8 xa0) := C3.out.cell 0; have Cc1 : w3.cell? ⟨w.heap.size, 1, none⟩ = some (.int .u8 xb0) := C3.out.cell 1; have Cc2 : w3.cell? ⟨w.heap.size, 2, none⟩ = some (.int .u8 xc0) := C3.out.cell 2; have Cc3 : w3.cell? ⟨w.heap.size, 3, none⟩ = some (.int .u8 xd0) := C3.out.cell 3; have Cc4 : w3.cell? ⟨w.heap.size, 4, none⟩ = some (.slice (some ⟨bb, o, none⟩) n c) := C3.out.cell 4; have Cc5 : w3.cell? ⟨w.heap.size, 5, none⟩ = some (.int .i64 pre0) := C3.out.cell 5; have Cc6 : w3.cell? ⟨w.heap.size, 6, none⟩ = some (.int .i64 life0) := C3.out.cell 6; have Cc7 : w3.cell? ⟨w.heap.size, 7, none⟩ = some (.int .i64 idle0) := C3.out.cell 7; have Cc8 : w3.cell? ⟨w.heap.size, 8, none⟩ = some (.bool lf0) := C3.out.cell 8; have Clt : w.heap.size < w3.heap.size := C3.out.lt; clear H1; clear C2)
            | (at_builtin; refine wpList_append_tens rfl _ _ rfl (w3.heap.size + 1) (.slice none 0 0) [] rfl (OwnTens.nil _ _) (.slice (some ⟨bb, o, none⟩) n c) s0 rfl (Y.out.call (B3.out.alloc B3.out.size (.cells #[.int .u8 xa0, .int .u8 xb0, .int .u8 xc0, .int .u8 xd0, .slice (some ⟨bb, o, none⟩) n c, .int .i64 pre0, .int .i64 life0, .int .i64 idle0, .bool lf0] 26))) (by have := HL6.out; first | (simp; done) | (simp; omega)) (by simp) ?_; intro v5 w5 o5 g5 e5; clear e5; have B5 := Lib.hid ((B3.out.alloc B3.out.size (.cells #[.int .u8 xa0, .int .u8 xb0, .int .u8 xc0, .int .u8 xd0, .slice (some ⟨bb, o, none⟩) n c, .int .i64 pre0, .int .i64 life0, .int .i64 idle0, .bool lf0] 26)).grown g5 (Nat.le_trans B3.out.size (by simp)) (OwnTens.nil w.heap.size w3).ge); have RD5 := Lib.hid (row_grown (IsRow.made w3 26 #[.int .u8 xa0, .int .u8 xb0, .int .u8 xc0, .int .u8 xd0, .slice (some ⟨bb, o, none⟩) n c, .int .i64 pre0, .int .i64 life0, .int .i64 idle0, .bool lf0]) g5 (fun e => by cases e)); have RC5 := Lib.hid (row_grown (C3.out.alloc (.cells #[.int .u8 xa0, .int .u8 xb0, .int .u8 xc0, .int .u8 xd0, .slice (some ⟨bb, o, none⟩) n c, .int .i64 pre0, .int .i64 life0, .int .i64 idle0, .bool lf0] 26)) g5 (fun e => by cases e)); clear g5; obtain ⟨g, cap, cur, rfl, hg, hr5, hc1, hc2, hcur⟩ := OwnTens.row (l := s0) (show OwnTens (w3.heap.size + 1) w5 v5 s0 from o5) HN.out (by omega); have HR5 := Lib.hid hr5; have HCUR := Lib.hid hcur; have HCAP := Lib.hid hc1; have HMAX := Lib.hid hc2; have HG := Lib.hid hg; have e7 : w5.cell? ⟨g, i * 14 + 7, none⟩ = some (.int .i64 s0[i].low) := (by rw [hr5.cell]; exact hcur _ _ (flatT_at HIL.out (by omega))); have e8 : w5.cell? ⟨g, i * 14 + 8, none⟩ = some (.int .i64 s0[i].high) := (by rw [hr5.cell]; exact hcur _ _ (flatT_at HIL.out (by omega))); have f7 := hr5.free (i * 14 + 7); have f8 := hr5.free (i * 14 + 8); have gl := hr5.lt; have gne : ¬ g = w3.heap.size := (by omega); have gne2 : ¬ w3.heap.size = g := (by omega); have d0 := RD5.out.cell 0; have d1 := RD5.out.cell 1; have d2 := RD5.out.cell 2; have d3 := RD5.out.cell 3; have d4 := RD5.out.cell 4; have d5 := RD5.out.cell 5; have d6 := RD5.out.cell 6; have d7 := RD5.out.cell 7; have d8 := RD5.out.cell 8; have dl := RD5.out.lt; have df := RD5.out.free 4; have z4 := RC5.out.cell 4; have zl := RC5.out.lt; clear hg hr5 hc1 hc2 hcur o5)
            | (go_at_call 11; have GGE : Hid (w.heap.size ≤ g) := Lib.hid (by have := HG.out; have := B3.out.size; omega); have GNE : Hid (g ≠ w3.heap.size) := Lib.hid (by have := HG.out; omega); have HCL : Hid (w.heap.size < w3.heap.size) := Lib.hid C3.out.lt; have CNE : Hid (w.heap.size ≠ g) := Lib.hid (by have := HG.out; have := HCL.out; omega); refine (H2.out (.slice (some ⟨g, 0, none⟩) n cap) _ (E.below (((B5.out.setCell (p := ⟨w3.heap.size, 4, none⟩) B3.out.size (.slice (some ⟨g, 0, none⟩) n cap)).setCell (p := ⟨g, i * 14 + 7, none⟩) GGE.out (.int .i64 n2)).setCell (p := ⟨g, i * 14 + 8, none⟩) GGE.out (.int .i64 n3))) (tens_cur (l := s0.set i (ported s0[i] n2 n3)) (by rw [List.length_set]; exact HN.out) (((HR5.out.other (a := ⟨w3.heap.size, 4, none⟩) GNE.out (.slice (some ⟨g, 0, none⟩) n cap)).set (i * 14 + 7) (.int .i64 n2)).set (i * 14 + 8) (.int .i64 n3)) HCAP.out HMAX.out (fun t ht => by
                rcases List.mem_or_eq_of_mem_set ht with ht | ht
                · exact (Y.out.1 t ht).call (((B5.out.setCell (p := ⟨w3.heap.size, 4, none⟩) B3.out.size (.slice (some ⟨g, 0, none⟩) n cap)).setCell (p := ⟨g, i * 14 + 7, none⟩) GGE.out (.int .i64 n2)).setCell (p := ⟨g, i * 14 + 8, none⟩) GGE.out (.int .i64 n3))
                · rw [ht]; exact (Y.out.1 s0[i] (List.getElem_mem _)).call (((B5.out.setCell (p := ⟨w3.heap.size, 4, none⟩) B3.out.size (.slice (some ⟨g, 0, none⟩) n cap)).setCell (p := ⟨g, i * 14 + 7, none⟩) GGE.out (.int .i64 n2)).setCell (p := ⟨g, i * 14 + 8, none⟩) GGE.out (.int .i64 n3))) (cur_ports HCUR.out HIL.out n2 n3))).mono ?_; rintro e w7 ⟨rfl, b7⟩; have B7 := Lib.hid ((((B5.out.setCell (p := ⟨w3.heap.size, 4, none⟩) B3.out.size (.slice (some ⟨g, 0, none⟩) n cap)).setCell (p := ⟨g, i * 14 + 7, none⟩) GGE.out (.int .i64 n2)).setCell (p := ⟨g, i * 14 + 8, none⟩) GGE.out (.int .i64 n3)).trans (b7.mono (((B5.out.setCell (p := ⟨w3.heap.size, 4, none⟩) B3.out.size (.slice (some ⟨g, 0, none⟩) n cap)).setCell (p := ⟨g, i * 14 + 7, none⟩) GGE.out (.int .i64 n2)).setCell (p := ⟨g, i * 14 + 8, none⟩) GGE.out (.int .i64 n3)).size)); have RC7 := Lib.hid ((((RC5.out.other (a := ⟨w3.heap.size, 4, none⟩) (Nat.ne_of_lt HCL.out) (.slice (some ⟨g, 0, none⟩) n cap)).other (a := ⟨g, i * 14 + 7, none⟩) CNE.out (.int .i64 n2)).other (a := ⟨g, i * 14 + 8, none⟩) CNE.out (.int .i64 n3)).call b7); clear H2 b7 e7 e8 f7 f8 gl gne gne2 d0 d1 d2 d3 d4 d5 d6 d7 d8 dl df z4 zl))
        go_loopw [14, 15] (fun x14 x15 wr => ∃ (k : Nat), x14 = .bool (b0 || clash s0 k n2 n3) ∧ x15 = .int .i64 (k : Int) ∧ k ≤ i ∧ Hid (IsRow wr w.heap.size 26 #[.int .u8 xa0, .int .u8 xb0, .int .u8 xc0, .int .u8 xd0, .slice (some ⟨bb, o, none⟩) n c, .int .i64 pre0, .int .i64 life0, .int .i64 idle0, .bool lf0]) ∧ Hid (Below w.heap.size w wr)) (fun _ x _ => i - (intOf x).toNat)
        case atStart => exact ⟨0, by first | (rw [hb0]; rfl) | (rw [hb0, decide_eq_false (show ¬ n2 < 1024 by omega), decide_eq_false (show ¬ 65535 < n3 by omega), decide_eq_false (show ¬ n3 < n2 by omega)]; rfl), rfl, Nat.zero_le _, RC7, B7⟩
        case round =>
          obtain ⟨k, rfl, rfl, hk, CR, HB⟩ := hrel
          by_cases hlt : k < i
          · have hji : (k : Int) < (i : Int) := by omega
            have hkn : (k : Int) < (n : Int) := by omega
            have HK : Hid (k + 1 ≤ i) := Lib.hid hlt
            have hkl : k < s0.length := by have := HIL.out; omega
            obtain ⟨bb2, o2, e9, hbl9, hcell9⟩ := (Y.out.call HB.out).some (by omega)
            injection e9 with e9
            injection e9 with e9a e9b e9c
            subst e9a; subst e9b
            have e7 := (hcell9 k hkl).c7
            have e8 := (hcell9 k hkl).c8
            have m4 := CR.out.cell 4
            have ml := CR.out.lt
            have HCN := Lib.hid (clash_next (low := n2) (high := n3) hkl)
            clear hcell9 hbl
            generalize s0[k] = ut at *
            obtain ⟨cb, hcb⟩ : ∃ x, (b0 || clash s0 k n2 n3) = x := ⟨_, rfl⟩
            have HCB := Lib.hid hcb
            rw [hcb]
            clear hcb
            cases cb with
            | true =>
              have HV : Hid ((b0 || clash s0 (k + 1) n2 n3) = true) := Lib.hid (by rw [HCN.out, ← Bool.or_assoc, HCB.out]; rfl)
              clear HCN HCB
              go_wp2_with fail
              go_roundw
              case rel => exact ⟨k + 1, by rw [HV.out], by go_num, HK.out, CR, HB⟩
              case measure => have := HK.out; simp [intOf]; omega
            | false =>
              by_cases q1 : n2 ≤ ut.high
              · by_cases q2 : ut.low ≤ n3
                · have HV : Hid ((b0 || clash s0 (k + 1) n2 n3) = true) := Lib.hid (by rw [HCN.out, ← Bool.or_assoc, HCB.out, decide_eq_true q1, decide_eq_true q2]; rfl)
                  clear HCN HCB
                  go_wp2_with fail
                  go_roundw
                  case rel => exact ⟨k + 1, by rw [HV.out], by go_num, HK.out, CR, HB⟩
                  case measure => have := HK.out; simp [intOf]; omega
                · have HV : Hid ((b0 || clash s0 (k + 1) n2 n3) = false) := Lib.hid (by rw [HCN.out, ← Bool.or_assoc, HCB.out, decide_eq_true q1, decide_eq_false q2]; rfl)
                  have q2d : decide (ut.low ≤ n3) = false := decide_eq_false q2
                  clear HCN HCB
                  go_wp2_with fail
                  go_roundw
                  case rel => exact ⟨k + 1, by rw [HV.out], by go_num, HK.out, CR, HB⟩
                  case measure => have := HK.out; simp [intOf]; omega
              · have HV : Hid ((b0 || clash s0 (k + 1) n2 n3) = false) := Lib.hid (by rw [HCN.out, ← Bool.or_assoc, HCB.out, decide_eq_false q1]; rfl)
                have q1d : decide (n2 ≤ ut.high) = false := decide_eq_false q1
                clear HCN HCB
                go_wp2_with fail
                go_roundw
                case rel => exact ⟨k + 1, by rw [HV.out], by go_num, HK.out, CR, HB⟩
                case measure => have := HK.out; simp [intOf]; omega
          · have hji : ¬ (k : Int) < (i : Int) := by omega
            obtain rfl : k = i := by omega
            obtain ⟨cb, hcb⟩ : ∃ x, (b0 || clash s0 k n2 n3) = x := ⟨_, rfl⟩
            rw [hcb]
            cases cb with
            | true =>
              obtain ⟨rfl, rfl⟩ := K1.out (by
                rw [Bool.or_eq_true] at hcb
                rcases hcb with h | h
                · exact Or.inl (HB0.out h)
                · exact Or.inr h)
              clear hcb
              go_wp2_with fail
              go_ret
              exact ⟨by first | rfl | (simp; done) | (simp; omega), HB.out⟩
            | false =>
              rw [Bool.or_eq_false_iff] at hcb
              rcases K2.out ⟨HB1.out hcb.1, hcb.2⟩ with ⟨rfl, rfl⟩ | ⟨k9, hk9, rfl, rfl⟩
              · clear hcb
                go_wp2_with fail
                go_ret
                exact ⟨by first | rfl | (simp; done) | (simp; omega), HB.out⟩
              · clear hcb
                have gk9 : (k : Int) < (k9 : Int) := by omega
                go_wp2_with fail
                go_ret
                exact ⟨by first | rfl | (simp; done) | (simp; omega), HB.out⟩
      obtain ⟨b0, hb0⟩ : ∃ b, b = false := ⟨_, rfl⟩
      have hrg : rangeN n2 n3 = true := by rw [RGN.out, decide_eq_true (show 1024 ≤ n2 by omega), decide_eq_true (show n2 ≤ n3 by omega), decide_eq_true (show n3 ≤ 65535 by omega)]; rfl
      have HB0 : Hid (b0 = true → rangeN n2 n3 = false) := Lib.hid (fun h => by rw [hb0] at h; cases h)
      have HB1 : Hid (b0 = false → rangeN n2 n3 = true) := Lib.hid (fun h => by exact hrg)
      clear hrg
      go_enter Tryd.func8, Tryd.ntmps8
      go_wp2_with (first
          | (go_at_call 9; refine (AWK.out _ (E.below ((B0.out).alloc B0.out.size (.cells #[.int .u8 xa0, .int .u8 xb0, .int .u8 xc0, .int .u8 xd0, .slice (some ⟨bb, o, none⟩) n c, .int .i64 pre0, .int .i64 life0, .int .i64 idle0, .bool lf0] 26)))).mono ?_; rintro e w1 ⟨rfl, b1⟩; have B1 := Lib.hid (((B0.out).alloc B0.out.size (.cells #[.int .u8 xa0, .int .u8 xb0, .int .u8 xc0, .int .u8 xd0, .slice (some ⟨bb, o, none⟩) n c, .int .i64 pre0, .int .i64 life0, .int .i64 idle0, .bool lf0] 26)).trans (b1.mono (by have := B0.out.size; simp <;> omega))); have C1 := Lib.hid ((IsRow.made w 26 #[.int .u8 xa0, .int .u8 xb0, .int .u8 xc0, .int .u8 xd0, .slice (some ⟨bb, o, none⟩) n c, .int .i64 pre0, .int .i64 life0, .int .i64 idle0, .bool lf0]).call b1); have Cc0 : w1.cell? ⟨w.heap.size, 0, none⟩ = some (.int .u8 xa0) := C1.out.cell 0; have Cc1 : w1.cell? ⟨w.heap.size, 1, none⟩ = some (.int .u8 xb0) := C1.out.cell 1; have Cc2 : w1.cell? ⟨w.heap.size, 2, none⟩ = some (.int .u8 xc0) := C1.out.cell 2; have Cc3 : w1.cell? ⟨w.heap.size, 3, none⟩ = some (.int .u8 xd0) := C1.out.cell 3; have Cc4 : w1.cell? ⟨w.heap.size, 4, none⟩ = some (.slice (some ⟨bb, o, none⟩) n c) := C1.out.cell 4; have Cc5 : w1.cell? ⟨w.heap.size, 5, none⟩ = some (.int .i64 pre0) := C1.out.cell 5; have Cc6 : w1.cell? ⟨w.heap.size, 6, none⟩ = some (.int .i64 life0) := C1.out.cell 6; have Cc7 : w1.cell? ⟨w.heap.size, 7, none⟩ = some (.int .i64 idle0) := C1.out.cell 7; have Cc8 : w1.cell? ⟨w.heap.size, 8, none⟩ = some (.bool lf0) := C1.out.cell 8; have Clt : w.heap.size < w1.heap.size := C1.out.lt; clear AWK)
          | (go_at_call 10; refine (HFw.out _ (Y.out.call (B1.out))).mono ?_; rintro e w2 ⟨rfl, b2⟩; have B2 := Lib.hid (B1.out.trans (b2.mono B1.out.size)); have C2 := Lib.hid (C1.out.call b2); clear Cc0 Cc1 Cc2 Cc3 Cc4 Cc5 Cc6 Cc7 Cc8 Clt; have Cc0 : w2.cell? ⟨w.heap.size, 0, none⟩ = some (.int .u8 xa0) := C2.out.cell 0; have Cc1 : w2.cell? ⟨w.heap.size, 1, none⟩ = some (.int .u8 xb0) := C2.out.cell 1; have Cc2 : w2.cell? ⟨w.heap.size, 2, none⟩ = some (.int .u8 xc0) := C2.out.cell 2; have Cc3 : w2.cell? ⟨w.heap.size, 3, none⟩ = some (.int .u8 xd0) := C2.out.cell 3; have Cc4 : w2.cell? ⟨w.heap.size, 4, none⟩ = some (.slice (some ⟨bb, o, none⟩) n c) := C2.out.cell 4; have Cc5 : w2.cell? ⟨w.heap.size, 5, none⟩ = some (.int .i64 pre0) := C2.out.cell 5; have Cc6 : w2.cell? ⟨w.heap.size, 6, none⟩ = some (.int .i64 life0) := C2.out.cell 6; have Cc7 : w2.cell? ⟨w.heap.size, 7, none⟩ = some (.int .i64 idle0) := C2.out.cell 7; have Cc8 : w2.cell? ⟨w.heap.size, 8, none⟩ = some (.bool lf0) := C2.out.cell 8; have Clt : w.heap.size < w2.heap.size := C2.out.lt; clear HFw; clear C1)
          | (go_at_call 14; refine (H1.out _ (E.below (B2.out)) (Y.out.call (B2.out))).mono ?_; rintro e w3 ⟨rfl, b3⟩; have B3 := Lib.hid (B2.out.trans (b3.mono B2.out.size)); have C3 := Lib.hid (C2.out.call b3); clear Cc0 Cc1 Cc2 Cc3 Cc4 Cc5 Cc6 Cc7 Cc8 Clt; have Cc0 : w3.cell? ⟨w.heap.size, 0, none⟩ = some (.int .u8 xa0) := C3.out.cell 0; have Cc1 : w3.cell? ⟨w.heap.size, 1, none⟩ = some (.int .u8 xb0) := C3.out.cell 1; have Cc2 : w3.cell? ⟨w.heap.size, 2, none⟩ = some (.int .u8 xc0) := C3.out.cell 2; have Cc3 : w3.cell? ⟨w.heap.size, 3, none⟩ = some (.int .u8 xd0) := C3.out.cell 3; have Cc4 : w3.cell? ⟨w.heap.size, 4, none⟩ = some (.slice (some ⟨bb, o, none⟩) n c) := C3.out.cell 4; have Cc5 : w3.cell? ⟨w.heap.size, 5, none⟩ = some (.int .i64 pre0) := C3.out.cell 5; have Cc6 : w3.cell? ⟨w.heap.size, 6, none⟩ = some (.int .i64 life0) := C3.out.cell 6; have Cc7 : w3.cell? ⟨w.heap.size, 7, none⟩ = some (.int .i64 idle0) := C3.out.cell 7; have Cc8 : w3.cell? ⟨w.heap.size, 8, none⟩ = some (.bool lf0) := C3.out.cell 8; have Clt : w.heap.size < w3.heap.size := C3.out.lt; clear H1; clear C2)
          | (at_builtin; refine wpList_append_tens rfl _ _ rfl (w3.heap.size + 1) (.slice none 0 0) [] rfl (OwnTens.nil _ _) (.slice (some ⟨bb, o, none⟩) n c) s0 rfl (Y.out.call (B3.out.alloc B3.out.size (.cells #[.int .u8 xa0, .int .u8 xb0, .int .u8 xc0, .int .u8 xd0, .slice (some ⟨bb, o, none⟩) n c, .int .i64 pre0, .int .i64 life0, .int .i64 idle0, .bool lf0] 26))) (by have := HL6.out; first | (simp; done) | (simp; omega)) (by simp) ?_; intro v5 w5 o5 g5 e5; clear e5; have B5 := Lib.hid ((B3.out.alloc B3.out.size (.cells #[.int .u8 xa0, .int .u8 xb0, .int .u8 xc0, .int .u8 xd0, .slice (some ⟨bb, o, none⟩) n c, .int .i64 pre0, .int .i64 life0, .int .i64 idle0, .bool lf0] 26)).grown g5 (Nat.le_trans B3.out.size (by simp)) (OwnTens.nil w.heap.size w3).ge); have RD5 := Lib.hid (row_grown (IsRow.made w3 26 #[.int .u8 xa0, .int .u8 xb0, .int .u8 xc0, .int .u8 xd0, .slice (some ⟨bb, o, none⟩) n c, .int .i64 pre0, .int .i64 life0, .int .i64 idle0, .bool lf0]) g5 (fun e => by cases e)); have RC5 := Lib.hid (row_grown (C3.out.alloc (.cells #[.int .u8 xa0, .int .u8 xb0, .int .u8 xc0, .int .u8 xd0, .slice (some ⟨bb, o, none⟩) n c, .int .i64 pre0, .int .i64 life0, .int .i64 idle0, .bool lf0] 26)) g5 (fun e => by cases e)); clear g5; obtain ⟨g, cap, cur, rfl, hg, hr5, hc1, hc2, hcur⟩ := OwnTens.row (l := s0) (show OwnTens (w3.heap.size + 1) w5 v5 s0 from o5) HN.out (by omega); have HR5 := Lib.hid hr5; have HCUR := Lib.hid hcur; have HCAP := Lib.hid hc1; have HMAX := Lib.hid hc2; have HG := Lib.hid hg; have e7 : w5.cell? ⟨g, i * 14 + 7, none⟩ = some (.int .i64 s0[i].low) := (by rw [hr5.cell]; exact hcur _ _ (flatT_at HIL.out (by omega))); have e8 : w5.cell? ⟨g, i * 14 + 8, none⟩ = some (.int .i64 s0[i].high) := (by rw [hr5.cell]; exact hcur _ _ (flatT_at HIL.out (by omega))); have f7 := hr5.free (i * 14 + 7); have f8 := hr5.free (i * 14 + 8); have gl := hr5.lt; have gne : ¬ g = w3.heap.size := (by omega); have gne2 : ¬ w3.heap.size = g := (by omega); have d0 := RD5.out.cell 0; have d1 := RD5.out.cell 1; have d2 := RD5.out.cell 2; have d3 := RD5.out.cell 3; have d4 := RD5.out.cell 4; have d5 := RD5.out.cell 5; have d6 := RD5.out.cell 6; have d7 := RD5.out.cell 7; have d8 := RD5.out.cell 8; have dl := RD5.out.lt; have df := RD5.out.free 4; have z4 := RC5.out.cell 4; have zl := RC5.out.lt; clear hg hr5 hc1 hc2 hcur o5)
          | (go_at_call 11; have GGE : Hid (w.heap.size ≤ g) := Lib.hid (by have := HG.out; have := B3.out.size; omega); have GNE : Hid (g ≠ w3.heap.size) := Lib.hid (by have := HG.out; omega); have HCL : Hid (w.heap.size < w3.heap.size) := Lib.hid C3.out.lt; have CNE : Hid (w.heap.size ≠ g) := Lib.hid (by have := HG.out; have := HCL.out; omega); refine (H2.out (.slice (some ⟨g, 0, none⟩) n cap) _ (E.below (((B5.out.setCell (p := ⟨w3.heap.size, 4, none⟩) B3.out.size (.slice (some ⟨g, 0, none⟩) n cap)).setCell (p := ⟨g, i * 14 + 7, none⟩) GGE.out (.int .i64 n2)).setCell (p := ⟨g, i * 14 + 8, none⟩) GGE.out (.int .i64 n3))) (tens_cur (l := s0.set i (ported s0[i] n2 n3)) (by rw [List.length_set]; exact HN.out) (((HR5.out.other (a := ⟨w3.heap.size, 4, none⟩) GNE.out (.slice (some ⟨g, 0, none⟩) n cap)).set (i * 14 + 7) (.int .i64 n2)).set (i * 14 + 8) (.int .i64 n3)) HCAP.out HMAX.out (fun t ht => by
              rcases List.mem_or_eq_of_mem_set ht with ht | ht
              · exact (Y.out.1 t ht).call (((B5.out.setCell (p := ⟨w3.heap.size, 4, none⟩) B3.out.size (.slice (some ⟨g, 0, none⟩) n cap)).setCell (p := ⟨g, i * 14 + 7, none⟩) GGE.out (.int .i64 n2)).setCell (p := ⟨g, i * 14 + 8, none⟩) GGE.out (.int .i64 n3))
              · rw [ht]; exact (Y.out.1 s0[i] (List.getElem_mem _)).call (((B5.out.setCell (p := ⟨w3.heap.size, 4, none⟩) B3.out.size (.slice (some ⟨g, 0, none⟩) n cap)).setCell (p := ⟨g, i * 14 + 7, none⟩) GGE.out (.int .i64 n2)).setCell (p := ⟨g, i * 14 + 8, none⟩) GGE.out (.int .i64 n3))) (cur_ports HCUR.out HIL.out n2 n3))).mono ?_; rintro e w7 ⟨rfl, b7⟩; have B7 := Lib.hid ((((B5.out.setCell (p := ⟨w3.heap.size, 4, none⟩) B3.out.size (.slice (some ⟨g, 0, none⟩) n cap)).setCell (p := ⟨g, i * 14 + 7, none⟩) GGE.out (.int .i64 n2)).setCell (p := ⟨g, i * 14 + 8, none⟩) GGE.out (.int .i64 n3)).trans (b7.mono (((B5.out.setCell (p := ⟨w3.heap.size, 4, none⟩) B3.out.size (.slice (some ⟨g, 0, none⟩) n cap)).setCell (p := ⟨g, i * 14 + 7, none⟩) GGE.out (.int .i64 n2)).setCell (p := ⟨g, i * 14 + 8, none⟩) GGE.out (.int .i64 n3)).size)); have RC7 := Lib.hid ((((RC5.out.other (a := ⟨w3.heap.size, 4, none⟩) (Nat.ne_of_lt HCL.out) (.slice (some ⟨g, 0, none⟩) n cap)).other (a := ⟨g, i * 14 + 7, none⟩) CNE.out (.int .i64 n2)).other (a := ⟨g, i * 14 + 8, none⟩) CNE.out (.int .i64 n3)).call b7); clear H2 b7 e7 e8 f7 f8 gl gne gne2 d0 d1 d2 d3 d4 d5 d6 d7 d8 dl df z4 zl))
      go_loopw [14, 15] (fun x14 x15 wr => ∃ (k : Nat), x14 = .bool (b0 || clash s0 k n2 n3) ∧ x15 = .int .i64 (k : Int) ∧ k ≤ i ∧ Hid (IsRow wr w.heap.size 26 #[.int .u8 xa0, .int .u8 xb0, .int .u8 xc0, .int .u8 xd0, .slice (some ⟨bb, o, none⟩) n c, .int .i64 pre0, .int .i64 life0, .int .i64 idle0, .bool lf0]) ∧ Hid (Below w.heap.size w wr)) (fun _ x _ => i - (intOf x).toNat)
      case atStart => exact ⟨0, by first | (rw [hb0]; rfl) | (rw [hb0, decide_eq_false (show ¬ n2 < 1024 by omega), decide_eq_false (show ¬ 65535 < n3 by omega), decide_eq_false (show ¬ n3 < n2 by omega)]; rfl), rfl, Nat.zero_le _, RC7, B7⟩
      case round =>
        obtain ⟨k, rfl, rfl, hk, CR, HB⟩ := hrel
        by_cases hlt : k < i
        · have hji : (k : Int) < (i : Int) := by omega
          have hkn : (k : Int) < (n : Int) := by omega
          have HK : Hid (k + 1 ≤ i) := Lib.hid hlt
          have hkl : k < s0.length := by have := HIL.out; omega
          obtain ⟨bb2, o2, e9, hbl9, hcell9⟩ := (Y.out.call HB.out).some (by omega)
          injection e9 with e9
          injection e9 with e9a e9b e9c
          subst e9a; subst e9b
          have e7 := (hcell9 k hkl).c7
          have e8 := (hcell9 k hkl).c8
          have m4 := CR.out.cell 4
          have ml := CR.out.lt
          have HCN := Lib.hid (clash_next (low := n2) (high := n3) hkl)
          clear hcell9 hbl
          generalize s0[k] = ut at *
          obtain ⟨cb, hcb⟩ : ∃ x, (b0 || clash s0 k n2 n3) = x := ⟨_, rfl⟩
          have HCB := Lib.hid hcb
          rw [hcb]
          clear hcb
          cases cb with
          | true =>
            have HV : Hid ((b0 || clash s0 (k + 1) n2 n3) = true) := Lib.hid (by rw [HCN.out, ← Bool.or_assoc, HCB.out]; rfl)
            clear HCN HCB
            go_wp2_with fail
            go_roundw
            case rel => exact ⟨k + 1, by rw [HV.out], by go_num, HK.out, CR, HB⟩
            case measure => have := HK.out; simp [intOf]; omega
          | false =>
            by_cases q1 : n2 ≤ ut.high
            · by_cases q2 : ut.low ≤ n3
              · have HV : Hid ((b0 || clash s0 (k + 1) n2 n3) = true) := Lib.hid (by rw [HCN.out, ← Bool.or_assoc, HCB.out, decide_eq_true q1, decide_eq_true q2]; rfl)
                clear HCN HCB
                go_wp2_with fail
                go_roundw
                case rel => exact ⟨k + 1, by rw [HV.out], by go_num, HK.out, CR, HB⟩
                case measure => have := HK.out; simp [intOf]; omega
              · have HV : Hid ((b0 || clash s0 (k + 1) n2 n3) = false) := Lib.hid (by rw [HCN.out, ← Bool.or_assoc, HCB.out, decide_eq_true q1, decide_eq_false q2]; rfl)
                have q2d : decide (ut.low ≤ n3) = false := decide_eq_false q2
                clear HCN HCB
                go_wp2_with fail
                go_roundw
                case rel => exact ⟨k + 1, by rw [HV.out], by go_num, HK.out, CR, HB⟩
                case measure => have := HK.out; simp [intOf]; omega
            · have HV : Hid ((b0 || clash s0 (k + 1) n2 n3) = false) := Lib.hid (by rw [HCN.out, ← Bool.or_assoc, HCB.out, decide_eq_false q1]; rfl)
              have q1d : decide (n2 ≤ ut.high) = false := decide_eq_false q1
              clear HCN HCB
              go_wp2_with fail
              go_roundw
              case rel => exact ⟨k + 1, by rw [HV.out], by go_num, HK.out, CR, HB⟩
              case measure => have := HK.out; simp [intOf]; omega
        · have hji : ¬ (k : Int) < (i : Int) := by omega
          obtain rfl : k = i := by omega
          obtain ⟨cb, hcb⟩ : ∃ x, (b0 || clash s0 k n2 n3) = x := ⟨_, rfl⟩
          rw [hcb]
          cases cb with
          | true =>
            obtain ⟨rfl, rfl⟩ := K1.out (by
              rw [Bool.or_eq_true] at hcb
              rcases hcb with h | h
              · exact Or.inl (HB0.out h)
              · exact Or.inr h)
            clear hcb
            go_wp2_with fail
            go_ret
            exact ⟨by first | rfl | (simp; done) | (simp; omega), HB.out⟩
          | false =>
            rw [Bool.or_eq_false_iff] at hcb
            rcases K2.out ⟨HB1.out hcb.1, hcb.2⟩ with ⟨rfl, rfl⟩ | ⟨k9, hk9, rfl, rfl⟩
            · clear hcb
              go_wp2_with fail
              go_ret
              exact ⟨by first | rfl | (simp; done) | (simp; omega), HB.out⟩
            · clear hcb
              have gk9 : (k : Int) < (k9 : Int) := by omega
              go_wp2_with fail
              go_ret
              exact ⟨by first | rfl | (simp; done) | (simp; omega), HB.out⟩

set_option maxRecDepth 100000 in
theorem lifted (os : Os) (started : os.Started) (H : Type) (enc : TypeId × Value → H) :
    ReturnsInHanded {} Tryd.checked os 8 .any (fun w args => (Rows.confPortsSpec.pre enc Tryd.prog Tryd.f8 [] false w args ∧ laidMetH Tryd.prog laidHere w) ∧ sizedMet enc Tryd.prog Tryd.f8 (OpenSpec.ofChange Rows.confPortsSpec) false w args)
      (Rows.confPortsSpec.post enc Tryd.prog Tryd.f8 false true false false) := by
  refine handed started (by kernel_rfl) Tryd.func8 #[.agg #[.int .u8 0, .int .u8 0, .int .u8 0, .int .u8 0, .slice none 0 0, .int .i64 0, .int .i64 0, .int .i64 0, .bool false], .int .i64 0, .int .i64 0, .int .i64 0] (by kernel_rfl) (by kernel_rfl) (by kernel_rfl) (World.shaped_of_ZipB (by kernel_rfl) (by kernel_rfl)) ?_
  intro W base args ds gs before hval0 hW E
  have hval : ∀ (j : Nat) t v, Tryd.f8.params[j]? = some t → args[j]? = some v → Value.okWide Tryd.prog W .any base t v := hval0
  have hW' := hW
  obtain ⟨p, q, hA0, hV, rfl, _, _⟩ := hW
  have hA : DataW.TrodAll enc Tryd.prog W 0 (fun _ => true) true Tryd.f8.params.toList args.toList ds p := hA0
  rw [Tryd.params8] at hA hval
  obtain ⟨v0, vs0, d0, ds0, p0, q0, hargs, rfl, rfl, r0, t0⟩ := trodAll_cons hA
  obtain ⟨v1, vs1, d1, ds1, p1, q1, rfl, rfl, rfl, r1, t1⟩ := trodAll_cons t0
  obtain ⟨v2, vs2, d2, ds2, p2, q2, rfl, rfl, rfl, r2, t2⟩ := trodAll_cons t1
  obtain ⟨v3, vs3, d3, ds3, p3, q3, rfl, rfl, rfl, r3, t3⟩ := trodAll_cons t2
  obtain ⟨rfl, rfl, rfl⟩ := trodAll_nil t3
  obtain rfl : args = #[v0, v1, v2, v3] := by cases args; simp_all
  obtain ⟨rfl, rfl⟩ := trodVars_none hV
  obtain ⟨xa0, xb0, xc0, xd0, tv0, s0, pre0, life0, idle0, lf0, rfl, y0⟩ := open_conf (hval 0 26 v0 rfl rfl) r0
  obtain ⟨n1, rfl, rfl, rfl, w1⟩ := open_int Tryd.underlying3 (hval 1 3 v1 rfl rfl) r1
  obtain ⟨n2, rfl, rfl, rfl, w2⟩ := open_int Tryd.underlying3 (hval 2 3 v2 rfl rfl) r2
  obtain ⟨n3, rfl, rfl, rfl, w3⟩ := open_int Tryd.underlying3 (hval 3 3 v3 rfl rfl) r3
  clear hA0 hval0
  simp only [List.append_nil] at hW'
  refine (walk xa0 xb0 xc0 xd0 tv0 s0 pre0 life0 idle0 lf0 n1 (int_wf w1).1 (int_wf w1).2 n2 (int_wf w2).1 (int_wf w2).2 n3 (int_wf w3).1 (int_wf w3).2 W y0 E).mono fun e W' ⟨he, hb⟩ => ?_
  subst he
  have t0' := Below.trod laid_out (by kernel_rfl) (of_decide_eq_true (by kernel_rfl)) r0 hb (fun x hx => hW'.lt x (by simp [hx]))
  exact ⟨_, rfl, told hW' (fun _ _ _ => trodAll_cons_mk (shut_bool Tryd.underlying4 _) trodAll_mk0) (trodAll_cons_mk (t0') (trodAll_cons_mk (shut_int Tryd.underlying3 w1) (trodAll_cons_mk (shut_int Tryd.underlying3 w2) (trodAll_cons_mk (shut_int Tryd.underlying3 w3) trodAll_mk0)))) (fun _ => rfl) hb⟩

theorem over : Rows.ConfPortsSaid :=
  OpenClaim.holds_of_wide 8 Tryd.f8 rfl rfl rfl rfl rfl rfl rfl ⟨rfl, rfl, rfl, rfl, rfl⟩ rfl rfl rfl rfl rfl (by kernel_rfl) Tryd.func8 (by kernel_rfl)
    (of_decide_eq_true (by kernel_rfl)) (by unfold Func.isWrapper; first | (rw [if_pos (by decide +kernel)]; kernel_rfl) | (rw [if_neg (by decide +kernel)]; exact ⟨rfl, rfl⟩))
    (fun os started H enc _ => lifted os started H enc)

theorem proved : Rows.ConfPortsCardSaid :=
  Claim7.holds_tied_plain_at .later [] Rows.confPortsCard.laidKinds true Rows.confPortsCard.stood.harness Rows.confPortsCard.stood.looks
    over (fun _ h => by cases h) (by kernel_rfl) (fun _ h => by cases h) confPorts_row_tie rfl ⟨rfl, rfl⟩ (by kernel_rfl) rfl
    (fun f fn hf hfn => by
      obtain rfl : f = 8 := Option.some.inj ((show Tryd.prog.funcNamed "wharfinger/wharfingerlaw13.ConfPorts" = some 8 by kernel_rfl).symm.trans hf) |>.symm
      obtain rfl : fn = Tryd.f8 := (Option.some.inj (Tryd.func8.symm.trans hfn)).symm
      exact ⟨by kernel_rfl, fun j t ht => by
        rw [Tryd.params8] at ht
        have hm : t ∈ [26, 3, 3, 3] := by simpa using Array.mem_of_getElem? ht
        have hall : ([26, 3, 3, 3].all fun u => !Tryd.prog.wantsStandIn u) = true := by kernel_rfl
        exact (show Tryd.prog.wantsStandIn t = false by simpa using List.all_eq_true.1 hall t hm)⟩)
    (by kernel_rfl)
#print axioms proved
end Go.Proofs.YtmodmfkcigibpaaDoor.confPorts
