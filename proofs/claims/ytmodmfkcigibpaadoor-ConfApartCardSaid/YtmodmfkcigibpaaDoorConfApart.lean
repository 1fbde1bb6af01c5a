/- Proved: for every conf (held against 6 tenants, 20 rules each, texts of 300 bytes) that may be, and port: no two tenants have it, or a host, in common; all have ports from 1024 on. Conditions: none beyond the row's own (the library's variables start as the program's text lays them: the card ties them). -/
import Derived.Test.YtmodmfkcigibpaaDoorConfAwake
import Derived.Test.YtmodmfkcigibpaaDoorTensSet
import Derived.BigQuiet
import Derived.Deep.QuietTactic
import Derived.Deep.RegionHeld
import Derived.Deep.RegionLaw

namespace Go.Proofs.YtmodmfkcigibpaaDoor.confApart
open Go.Proofs.YtmodmfkcigibpaaDoor Go.Proofs.YtmodmfkcigibpaaDoor.Co Go.Proofs.YtmodmfkcigibpaaDoor.Ac
open Go.ChangeShapes Go.WideShapes Go.ChangeAt Go.RowKit Go.Sort Go.ChangeMaps
set_option linter.unusedSimpArgs false
set_option linter.unusedVariables false
set_option linter.unusedVariables false in
set_option maxHeartbeats 16000000 in
set_option maxRecDepth 100000 in
theorem walk (xa0 xb0 xc0 xd0 : Int) (tv0 : Value) (s0 : List Tn) (pre0 life0 idle0 : Int) (lf0 : Bool) (n1 : Int) (l1 : -9223372036854775808 ≤ n1) (h1 : n1 ≤ 9223372036854775807) (w : World) (y0 : TensIs w tv0 s0) (E : Env w) :
    Calls Tryd.prog 5 #[confV xa0 xb0 xc0 xd0 tv0 pre0 life0 idle0 lf0, .int .i64 n1] w fun e w' => e = .returned (.bool true) ∧ Below w.heap.size w w' := by
  have AWK := Lib.hid (fun W EW => awake_any W EW)
  have B0 := Lib.hid (Below.refl w.heap.size w)
  obtain ⟨p, n, c, rfl, hn⟩ := y0.form
  have HN := Lib.hid hn
  have hmax := y0.max
  have Y := Lib.hid y0
  rw [← hn] at hmax
  clear hn y0
  cases hfw : few s0 with
  | false =>
    have HFw := Lib.hid (fun W HR => few_of13 xa0 xb0 xc0 xd0 (.slice p n c) pre0 life0 idle0 lf0 s0 false hfw W HR)
    clear hfw
    go_enter Tryd.func5, Tryd.ntmps5
    go_wp2_with (first
        | (go_at_call 9; refine (AWK.out _ (E.below ((B0.out).alloc B0.out.size (.cells #[.int .u8 xa0, .int .u8 xb0, .int .u8 xc0, .int .u8 xd0, .slice p n c, .int .i64 pre0, .int .i64 life0, .int .i64 idle0, .bool lf0] 26)))).mono ?_; rintro e w1 ⟨rfl, b1⟩; have B1 := Lib.hid (((B0.out).alloc B0.out.size (.cells #[.int .u8 xa0, .int .u8 xb0, .int .u8 xc0, .int .u8 xd0, .slice p n c, .int .i64 pre0, .int .i64 life0, .int .i64 idle0, .bool lf0] 26)).trans (b1.mono (by have := B0.out.size; simp <;> omega))); have C1 := Lib.hid ((IsRow.made w 26 #[.int .u8 xa0, .int .u8 xb0, .int .u8 xc0, .int .u8 xd0, .slice p n c, .int .i64 pre0, .int .i64 life0, .int .i64 idle0, .bool lf0]).call b1); have Cc0 : w1.cell? ⟨w.heap.size, 0, none⟩ = some (.int .u8 xa0) := C1.out.cell 0; have Cc1 : w1.cell? ⟨w.heap.size, 1, none⟩ = some (.int .u8 xb0) := C1.out.cell 1; have Cc2 : w1.cell? ⟨w.heap.size, 2, none⟩ = some (.int .u8 xc0) := C1.out.cell 2; have Cc3 : w1.cell? ⟨w.heap.size, 3, none⟩ = some (.int .u8 xd0) := C1.out.cell 3; have Cc4 : w1.cell? ⟨w.heap.size, 4, none⟩ = some (.slice p n c) := C1.out.cell 4; have Cc5 : w1.cell? ⟨w.heap.size, 5, none⟩ = some (.int .i64 pre0) := C1.out.cell 5; have Cc6 : w1.cell? ⟨w.heap.size, 6, none⟩ = some (.int .i64 life0) := C1.out.cell 6; have Cc7 : w1.cell? ⟨w.heap.size, 7, none⟩ = some (.int .i64 idle0) := C1.out.cell 7; have Cc8 : w1.cell? ⟨w.heap.size, 8, none⟩ = some (.bool lf0) := C1.out.cell 8; have Clt : w.heap.size < w1.heap.size := C1.out.lt; clear AWK)
        | (go_at_call 10; refine (HFw.out _ (Y.out.call (B1.out))).mono ?_; rintro e w2 ⟨rfl, b2⟩; have B2 := Lib.hid (B1.out.trans (b2.mono B1.out.size)); have C2 := Lib.hid (C1.out.call b2); clear Cc0 Cc1 Cc2 Cc3 Cc4 Cc5 Cc6 Cc7 Cc8 Clt; have Cc0 : w2.cell? ⟨w.heap.size, 0, none⟩ = some (.int .u8 xa0) := C2.out.cell 0; have Cc1 : w2.cell? ⟨w.heap.size, 1, none⟩ = some (.int .u8 xb0) := C2.out.cell 1; have Cc2 : w2.cell? ⟨w.heap.size, 2, none⟩ = some (.int .u8 xc0) := C2.out.cell 2; have Cc3 : w2.cell? ⟨w.heap.size, 3, none⟩ = some (.int .u8 xd0) := C2.out.cell 3; have Cc4 : w2.cell? ⟨w.heap.size, 4, none⟩ = some (.slice p n c) := C2.out.cell 4; have Cc5 : w2.cell? ⟨w.heap.size, 5, none⟩ = some (.int .i64 pre0) := C2.out.cell 5; have Cc6 : w2.cell? ⟨w.heap.size, 6, none⟩ = some (.int .i64 life0) := C2.out.cell 6; have Cc7 : w2.cell? ⟨w.heap.size, 7, none⟩ = some (.int .i64 idle0) := C2.out.cell 7; have Cc8 : w2.cell? ⟨w.heap.size, 8, none⟩ = some (.bool lf0) := C2.out.cell 8; have Clt : w.heap.size < w2.heap.size := C2.out.lt; clear HFw; clear C1))
    all_goals (go_ret; exact ⟨by first | rfl | (simp; done) | (simp; omega), B2.out⟩)
  | true =>
    have HFw := Lib.hid (fun W HR => few_of13 xa0 xb0 xc0 xd0 (.slice p n c) pre0 life0 idle0 lf0 s0 true hfw W HR)
    have hF := few_iff.1 hfw
    clear hfw
    cases hM : mayC pre0 life0 idle0 s0 with
    | false =>
      have H1 := Lib.hid (fun W EW HR => may_of xa0 xb0 xc0 xd0 (.slice p n c) pre0 life0 idle0 lf0 s0 hF false hM W EW HR)
      clear hM hF
      go_enter Tryd.func5, Tryd.ntmps5
      go_wp2_with (first
          | (go_at_call 9; refine (AWK.out _ (E.below ((B0.out).alloc B0.out.size (.cells #[.int .u8 xa0, .int .u8 xb0, .int .u8 xc0, .int .u8 xd0, .slice p n c, .int .i64 pre0, .int .i64 life0, .int .i64 idle0, .bool lf0] 26)))).mono ?_; rintro e w1 ⟨rfl, b1⟩; have B1 := Lib.hid (((B0.out).alloc B0.out.size (.cells #[.int .u8 xa0, .int .u8 xb0, .int .u8 xc0, .int .u8 xd0, .slice p n c, .int .i64 pre0, .int .i64 life0, .int .i64 idle0, .bool lf0] 26)).trans (b1.mono (by have := B0.out.size; simp <;> omega))); have C1 := Lib.hid ((IsRow.made w 26 #[.int .u8 xa0, .int .u8 xb0, .int .u8 xc0, .int .u8 xd0, .slice p n c, .int .i64 pre0, .int .i64 life0, .int .i64 idle0, .bool lf0]).call b1); have Cc0 : w1.cell? ⟨w.heap.size, 0, none⟩ = some (.int .u8 xa0) := C1.out.cell 0; have Cc1 : w1.cell? ⟨w.heap.size, 1, none⟩ = some (.int .u8 xb0) := C1.out.cell 1; have Cc2 : w1.cell? ⟨w.heap.size, 2, none⟩ = some (.int .u8 xc0) := C1.out.cell 2; have Cc3 : w1.cell? ⟨w.heap.size, 3, none⟩ = some (.int .u8 xd0) := C1.out.cell 3; have Cc4 : w1.cell? ⟨w.heap.size, 4, none⟩ = some (.slice p n c) := C1.out.cell 4; have Cc5 : w1.cell? ⟨w.heap.size, 5, none⟩ = some (.int .i64 pre0) := C1.out.cell 5; have Cc6 : w1.cell? ⟨w.heap.size, 6, none⟩ = some (.int .i64 life0) := C1.out.cell 6; have Cc7 : w1.cell? ⟨w.heap.size, 7, none⟩ = some (.int .i64 idle0) := C1.out.cell 7; have Cc8 : w1.cell? ⟨w.heap.size, 8, none⟩ = some (.bool lf0) := C1.out.cell 8; have Clt : w.heap.size < w1.heap.size := C1.out.lt; clear AWK)
          | (go_at_call 10; refine (HFw.out _ (Y.out.call (B1.out))).mono ?_; rintro e w2 ⟨rfl, b2⟩; have B2 := Lib.hid (B1.out.trans (b2.mono B1.out.size)); have C2 := Lib.hid (C1.out.call b2); clear Cc0 Cc1 Cc2 Cc3 Cc4 Cc5 Cc6 Cc7 Cc8 Clt; have Cc0 : w2.cell? ⟨w.heap.size, 0, none⟩ = some (.int .u8 xa0) := C2.out.cell 0; have Cc1 : w2.cell? ⟨w.heap.size, 1, none⟩ = some (.int .u8 xb0) := C2.out.cell 1; have Cc2 : w2.cell? ⟨w.heap.size, 2, none⟩ = some (.int .u8 xc0) := C2.out.cell 2; have Cc3 : w2.cell? ⟨w.heap.size, 3, none⟩ = some (.int .u8 xd0) := C2.out.cell 3; have Cc4 : w2.cell? ⟨w.heap.size, 4, none⟩ = some (.slice p n c) := C2.out.cell 4; have Cc5 : w2.cell? ⟨w.heap.size, 5, none⟩ = some (.int .i64 pre0) := C2.out.cell 5; have Cc6 : w2.cell? ⟨w.heap.size, 6, none⟩ = some (.int .i64 life0) := C2.out.cell 6; have Cc7 : w2.cell? ⟨w.heap.size, 7, none⟩ = some (.int .i64 idle0) := C2.out.cell 7; have Cc8 : w2.cell? ⟨w.heap.size, 8, none⟩ = some (.bool lf0) := C2.out.cell 8; have Clt : w.heap.size < w2.heap.size := C2.out.lt; clear HFw; clear C1)
          | (go_at_call 14; refine (H1.out _ (E.below (B2.out)) (Y.out.call (B2.out))).mono ?_; rintro e w3 ⟨rfl, b3⟩; have B3 := Lib.hid (B2.out.trans (b3.mono B2.out.size)); have C3 := Lib.hid (C2.out.call b3); clear Cc0 Cc1 Cc2 Cc3 Cc4 Cc5 Cc6 Cc7 Cc8 Clt; have Cc0 : w3.cell? ⟨w.heap.size, 0, none⟩ = some (.int .u8 xa0) := C3.out.cell 0; have Cc1 : w3.cell? ⟨w.heap.size, 1, none⟩ = some (.int .u8 xb0) := C3.out.cell 1; have Cc2 : w3.cell? ⟨w.heap.size, 2, none⟩ = some (.int .u8 xc0) := C3.out.cell 2; have Cc3 : w3.cell? ⟨w.heap.size, 3, none⟩ = some (.int .u8 xd0) := C3.out.cell 3; have Cc4 : w3.cell? ⟨w.heap.size, 4, none⟩ = some (.slice p n c) := C3.out.cell 4; have Cc5 : w3.cell? ⟨w.heap.size, 5, none⟩ = some (.int .i64 pre0) := C3.out.cell 5; have Cc6 : w3.cell? ⟨w.heap.size, 6, none⟩ = some (.int .i64 life0) := C3.out.cell 6; have Cc7 : w3.cell? ⟨w.heap.size, 7, none⟩ = some (.int .i64 idle0) := C3.out.cell 7; have Cc8 : w3.cell? ⟨w.heap.size, 8, none⟩ = some (.bool lf0) := C3.out.cell 8; have Clt : w.heap.size < w3.heap.size := C3.out.lt; clear H1; clear C2))
      all_goals (go_ret; exact ⟨by first | rfl | (simp; done) | (simp; omega), B3.out⟩)
    | true =>
      have H1 := Lib.hid (fun W EW HR => may_of xa0 xb0 xc0 xd0 (.slice p n c) pre0 life0 idle0 lf0 s0 hF true hM W EW HR)
      have hFine := may_fine hM
      have HF1 := Lib.hid hFine.one
      have HF4 := Lib.hid hFine.most
      have HA := Lib.hid hFine.all
      clear hM hF hFine
      go_enter Tryd.func5, Tryd.ntmps5
      go_wp2_with (first
          | (go_at_call 9; refine (AWK.out _ (E.below ((B0.out).alloc B0.out.size (.cells #[.int .u8 xa0, .int .u8 xb0, .int .u8 xc0, .int .u8 xd0, .slice p n c, .int .i64 pre0, .int .i64 life0, .int .i64 idle0, .bool lf0] 26)))).mono ?_; rintro e w1 ⟨rfl, b1⟩; have B1 := Lib.hid (((B0.out).alloc B0.out.size (.cells #[.int .u8 xa0, .int .u8 xb0, .int .u8 xc0, .int .u8 xd0, .slice p n c, .int .i64 pre0, .int .i64 life0, .int .i64 idle0, .bool lf0] 26)).trans (b1.mono (by have := B0.out.size; simp <;> omega))); have C1 := Lib.hid ((IsRow.made w 26 #[.int .u8 xa0, .int .u8 xb0, .int .u8 xc0, .int .u8 xd0, .slice p n c, .int .i64 pre0, .int .i64 life0, .int .i64 idle0, .bool lf0]).call b1); have Cc0 : w1.cell? ⟨w.heap.size, 0, none⟩ = some (.int .u8 xa0) := C1.out.cell 0; have Cc1 : w1.cell? ⟨w.heap.size, 1, none⟩ = some (.int .u8 xb0) := C1.out.cell 1; have Cc2 : w1.cell? ⟨w.heap.size, 2, none⟩ = some (.int .u8 xc0) := C1.out.cell 2; have Cc3 : w1.cell? ⟨w.heap.size, 3, none⟩ = some (.int .u8 xd0) := C1.out.cell 3; have Cc4 : w1.cell? ⟨w.heap.size, 4, none⟩ = some (.slice p n c) := C1.out.cell 4; have Cc5 : w1.cell? ⟨w.heap.size, 5, none⟩ = some (.int .i64 pre0) := C1.out.cell 5; have Cc6 : w1.cell? ⟨w.heap.size, 6, none⟩ = some (.int .i64 life0) := C1.out.cell 6; have Cc7 : w1.cell? ⟨w.heap.size, 7, none⟩ = some (.int .i64 idle0) := C1.out.cell 7; have Cc8 : w1.cell? ⟨w.heap.size, 8, none⟩ = some (.bool lf0) := C1.out.cell 8; have Clt : w.heap.size < w1.heap.size := C1.out.lt; clear AWK)
          | (go_at_call 10; refine (HFw.out _ (Y.out.call (B1.out))).mono ?_; rintro e w2 ⟨rfl, b2⟩; have B2 := Lib.hid (B1.out.trans (b2.mono B1.out.size)); have C2 := Lib.hid (C1.out.call b2); clear Cc0 Cc1 Cc2 Cc3 Cc4 Cc5 Cc6 Cc7 Cc8 Clt; have Cc0 : w2.cell? ⟨w.heap.size, 0, none⟩ = some (.int .u8 xa0) := C2.out.cell 0; have Cc1 : w2.cell? ⟨w.heap.size, 1, none⟩ = some (.int .u8 xb0) := C2.out.cell 1; have Cc2 : w2.cell? ⟨w.heap.size, 2, none⟩ = some (.int .u8 xc0) := C2.out.cell 2; have Cc3 : w2.cell? ⟨w.heap.size, 3, none⟩ = some (.int .u8 xd0) := C2.out.cell 3; have Cc4 : w2.cell? ⟨w.heap.size, 4, none⟩ = some (.slice p n c) := C2.out.cell 4; have Cc5 : w2.cell? ⟨w.heap.size, 5, none⟩ = some (.int .i64 pre0) := C2.out.cell 5; have Cc6 : w2.cell? ⟨w.heap.size, 6, none⟩ = some (.int .i64 life0) := C2.out.cell 6; have Cc7 : w2.cell? ⟨w.heap.size, 7, none⟩ = some (.int .i64 idle0) := C2.out.cell 7; have Cc8 : w2.cell? ⟨w.heap.size, 8, none⟩ = some (.bool lf0) := C2.out.cell 8; have Clt : w.heap.size < w2.heap.size := C2.out.lt; clear HFw; clear C1)
          | (go_at_call 14; refine (H1.out _ (E.below (B2.out)) (Y.out.call (B2.out))).mono ?_; rintro e w3 ⟨rfl, b3⟩; have B3 := Lib.hid (B2.out.trans (b3.mono B2.out.size)); have C3 := Lib.hid (C2.out.call b3); clear Cc0 Cc1 Cc2 Cc3 Cc4 Cc5 Cc6 Cc7 Cc8 Clt; have Cc0 : w3.cell? ⟨w.heap.size, 0, none⟩ = some (.int .u8 xa0) := C3.out.cell 0; have Cc1 : w3.cell? ⟨w.heap.size, 1, none⟩ = some (.int .u8 xb0) := C3.out.cell 1; have Cc2 : w3.cell? ⟨w.heap.size, 2, none⟩ = some (.int .u8 xc0) := C3.out.cell 2; have Cc3 : w3.cell? ⟨w.heap.size, 3, none⟩ = some (.int .u8 xd0) := C3.out.cell 3; have Cc4 : w3.cell? ⟨w.heap.size, 4, none⟩ = some (.slice p n c) := C3.out.cell 4; have Cc5 : w3.cell? ⟨w.heap.size, 5, none⟩ = some (.int .i64 pre0) := C3.out.cell 5; have Cc6 : w3.cell? ⟨w.heap.size, 6, none⟩ = some (.int .i64 life0) := C3.out.cell 6; have Cc7 : w3.cell? ⟨w.heap.size, 7, none⟩ = some (.int .i64 idle0) := C3.out.cell 7; have Cc8 : w3.cell? ⟨w.heap.size, 8, none⟩ = some (.bool lf0) := C3.out.cell 8; have Clt : w.heap.size < w3.heap.size := C3.out.lt; clear H1; clear C2))
      go_loopw [7, 8] (fun x7 x8 wr => ∃ (i : Nat), x7 = .int .i64 ((haveP s0 n1 i : Nat) : Int) ∧ x8 = .int .i64 (i : Int) ∧ i ≤ n ∧ Hid (IsRow wr w.heap.size 26 #[.int .u8 xa0, .int .u8 xb0, .int .u8 xc0, .int .u8 xd0, .slice p n c, .int .i64 pre0, .int .i64 life0, .int .i64 idle0, .bool lf0]) ∧ Hid (Below w.heap.size w wr)) (fun _ x _ => n - (intOf x).toNat)
      case atStart => exact ⟨0, by unfold haveP; rfl, rfl, Nat.zero_le _, C3, B3⟩
      case round =>
        obtain ⟨i, rfl, rfl, hi, CR, HB⟩ := hrel
        have k4 := CR.out.cell 4
        have kl := CR.out.lt
        by_cases hlt : i < n
        · have hil : i < s0.length := by rw [← HN.out]; exact hlt
          have hji : (i : Int) < (n : Int) := by omega
          have HKN : Hid (i + 1 ≤ n) := Lib.hid hlt
          have Y2 := Lib.hid (Y.out.call HB.out)
          obtain ⟨bb, o, rfl, hbl, hcell⟩ := Y2.out.some (by omega)
          have T0 := Lib.hid (hcell i hil)
          have HC := Lib.hid hcell
          obtain ⟨rp, rn, rc, hrv, hrn⟩ := (Y2.out.1 s0[i] (List.getElem_mem _)).form
          have hhv := Lib.hid (have_next (l := s0) (p := n1) hil)
          have hle := (have_one (p := n1) HA.out i (by omega)).1
          obtain ⟨f1, f2, f3, f4, f5, -⟩ := ten_fine hil (HA.out i hil)
          have HNE := Lib.hid (fun k (hk : k < i) => ten_host hil hk (HA.out i hil))
          have HIL := Lib.hid hil
          clear hcell hrn
          generalize hT : s0[i] = t at *
          have c0 := T0.out.c0; have c1 := T0.out.c1; have c2 := T0.out.c2; have c3 := T0.out.c3; have c4 := T0.out.c4; have c5 := T0.out.c5; have c6 := T0.out.c6; have c7 := T0.out.c7; have c8 := T0.out.c8; have c9 := T0.out.c9; have c10 := T0.out.c10; have c11 := T0.out.c11; have c12 := T0.out.c12; have c13 := T0.out.c13
          rw [hrv] at c9
          clear hrv hT T0
          obtain ⟨tn, th, ta, tb, tc, td, tp, lo, hh, tr, trs, ts, tho, tq, te⟩ := t
          simp only at *
          have BN := Lib.hid (HB.out.alloc HB.out.size (.cells #[.string ⟨tn.toArray⟩, .string ⟨th.toArray⟩, .int .u8 ta, .int .u8 tb, .int .u8 tc, .int .u8 td, .int .i64 tp, .int .i64 lo, .int .i64 hh, .slice rp rn rc, .int .i64 ts, .int .i64 tho, .int .i64 tq, .int .i64 te] 40))
          have CN := Lib.hid (CR.out.alloc (.cells #[.string ⟨tn.toArray⟩, .string ⟨th.toArray⟩, .int .u8 ta, .int .u8 tb, .int .u8 tc, .int .u8 td, .int .i64 tp, .int .i64 lo, .int .i64 hh, .slice rp rn rc, .int .i64 ts, .int .i64 tho, .int .i64 tq, .int .i64 te] 40))
          have TN := Lib.hid (IsRow.made wr 40 #[.string ⟨tn.toArray⟩, .string ⟨th.toArray⟩, .int .u8 ta, .int .u8 tb, .int .u8 tc, .int .u8 td, .int .i64 tp, .int .i64 lo, .int .i64 hh, .slice rp rn rc, .int .i64 ts, .int .i64 tho, .int .i64 tq, .int .i64 te])
          have gA : ¬ lo < 1024 := by omega
          have gB : ¬ 65535 < hh := by omega
          have gC : ¬ hh < lo := by omega
          have gD : ¬ ts < 1 := by omega
          have gE : ¬ tho < 1 := by omega
          by_cases p1 : lo ≤ n1
          · by_cases p2 : n1 ≤ hh
            · have HV : Hid (haveP s0 n1 (i + 1) = haveP s0 n1 i + 1) := Lib.hid (by rw [hhv.out, decide_eq_true p1, decide_eq_true p2]; rfl)
              obtain ⟨hv, hhv2⟩ : ∃ k, haveP s0 n1 i = k := ⟨_, rfl⟩
              rw [hhv2] at HV hle ⊢
              clear hhv hhv2
              go_wp2_with fail
              clear c0 c1 c2 c3 c4 c5 c6 c7 c8 c9 c10 c11 c12 c13
              go_loopw [10] (fun x10 wr2 => ∃ (k : Nat), x10 = .int .i64 (k : Int) ∧ k ≤ i ∧ Hid (IsRow wr2 w.heap.size 26 #[.int .u8 xa0, .int .u8 xb0, .int .u8 xc0, .int .u8 xd0, .slice (some ⟨bb, o, none⟩) n c, .int .i64 pre0, .int .i64 life0, .int .i64 idle0, .bool lf0]) ∧ Hid (IsRow wr2 wr.heap.size 40 #[.string ⟨tn.toArray⟩, .string ⟨th.toArray⟩, .int .u8 ta, .int .u8 tb, .int .u8 tc, .int .u8 td, .int .i64 tp, .int .i64 lo, .int .i64 hh, .slice rp rn rc, .int .i64 ts, .int .i64 tho, .int .i64 tq, .int .i64 te]) ∧ Hid (Below w.heap.size w wr2)) (fun x _ => i - (intOf x).toNat)
              case atStart => exact ⟨0, rfl, Nat.zero_le _, CN, TN, BN⟩
              case round =>
                obtain ⟨k, rfl, hk, CR2, TR2, HB2⟩ := hrel
                by_cases hkt : k < i
                · have hjk : (k : Int) < (i : Int) := by omega
                  have hkn : (k : Int) < (n : Int) := by omega
                  have HKK : Hid (k + 1 ≤ i) := Lib.hid hkt
                  have hkl : k < s0.length := by have := HIL.out; omega
                  obtain ⟨bb2, o2, e9, hbl9, hcell9⟩ := (Y.out.call HB2.out).some (by omega)
                  injection e9 with e9
                  injection e9 with e9a e9b e9c
                  subst e9a; subst e9b
                  have e1 := (hcell9 k hkl).c1
                  have m4 := CR2.out.cell 4
                  have m1 := TR2.out.cell 1
                  have ml := CR2.out.lt
                  have mr := TR2.out.lt
                  have hne := HNE.out k hkt
                  clear hcell9 k4 kl hbl
                  generalize s0[k] = ut at *
                  obtain ⟨uh, huh⟩ : ∃ x, ut.host = x := ⟨_, rfl⟩
                  rw [huh] at e1 hne
                  have gq : (uh == th) = false := beq_eq_false_iff_ne.2 hne
                  clear huh hne
                  go_wp2_with fail
                  go_quiet (fail)
                  go_wp2_with fail
                  go_roundw
                  case rel => exact ⟨k + 1, by go_num, HKK.out, Lib.hid CR2.out.drew, Lib.hid TR2.out.drew, Lib.hid (HB2.out.trans ⟨rfl, rfl, rfl, Nat.le_refl _, fun _ _ => rfl⟩)⟩
                  case measure => have := HKK.out; simp [intOf]; omega
                · have hjk : ¬ (k : Int) < (i : Int) := by omega
                  go_wp2_with fail
                  go_roundw
                  case rel => exact ⟨i + 1, by first | (rw [HV.out]; done) | (rw [HV.out]; go_num), by go_num, HKN.out, CR2, HB2⟩
                  case measure => have := HKN.out; simp [intOf]; omega
            · have HV : Hid (haveP s0 n1 (i + 1) = haveP s0 n1 i) := Lib.hid (by rw [hhv.out, decide_eq_true p1, decide_eq_false p2]; rfl)
              obtain ⟨hv, hhv2⟩ : ∃ k, haveP s0 n1 i = k := ⟨_, rfl⟩
              rw [hhv2] at HV hle ⊢
              clear hhv hhv2
              go_wp2_with fail
              clear c0 c1 c2 c3 c4 c5 c6 c7 c8 c9 c10 c11 c12 c13
              go_loopw [10] (fun x10 wr2 => ∃ (k : Nat), x10 = .int .i64 (k : Int) ∧ k ≤ i ∧ Hid (IsRow wr2 w.heap.size 26 #[.int .u8 xa0, .int .u8 xb0, .int .u8 xc0, .int .u8 xd0, .slice (some ⟨bb, o, none⟩) n c, .int .i64 pre0, .int .i64 life0, .int .i64 idle0, .bool lf0]) ∧ Hid (IsRow wr2 wr.heap.size 40 #[.string ⟨tn.toArray⟩, .string ⟨th.toArray⟩, .int .u8 ta, .int .u8 tb, .int .u8 tc, .int .u8 td, .int .i64 tp, .int .i64 lo, .int .i64 hh, .slice rp rn rc, .int .i64 ts, .int .i64 tho, .int .i64 tq, .int .i64 te]) ∧ Hid (Below w.heap.size w wr2)) (fun x _ => i - (intOf x).toNat)
              case atStart => exact ⟨0, rfl, Nat.zero_le _, CN, TN, BN⟩
              case round =>
                obtain ⟨k, rfl, hk, CR2, TR2, HB2⟩ := hrel
                by_cases hkt : k < i
                · have hjk : (k : Int) < (i : Int) := by omega
                  have hkn : (k : Int) < (n : Int) := by omega
                  have HKK : Hid (k + 1 ≤ i) := Lib.hid hkt
                  have hkl : k < s0.length := by have := HIL.out; omega
                  obtain ⟨bb2, o2, e9, hbl9, hcell9⟩ := (Y.out.call HB2.out).some (by omega)
                  injection e9 with e9
                  injection e9 with e9a e9b e9c
                  subst e9a; subst e9b
                  have e1 := (hcell9 k hkl).c1
                  have m4 := CR2.out.cell 4
                  have m1 := TR2.out.cell 1
                  have ml := CR2.out.lt
                  have mr := TR2.out.lt
                  have hne := HNE.out k hkt
                  clear hcell9 k4 kl hbl
                  generalize s0[k] = ut at *
                  obtain ⟨uh, huh⟩ : ∃ x, ut.host = x := ⟨_, rfl⟩
                  rw [huh] at e1 hne
                  have gq : (uh == th) = false := beq_eq_false_iff_ne.2 hne
                  clear huh hne
                  go_wp2_with fail
                  go_quiet (fail)
                  go_wp2_with fail
                  go_roundw
                  case rel => exact ⟨k + 1, by go_num, HKK.out, Lib.hid CR2.out.drew, Lib.hid TR2.out.drew, Lib.hid (HB2.out.trans ⟨rfl, rfl, rfl, Nat.le_refl _, fun _ _ => rfl⟩)⟩
                  case measure => have := HKK.out; simp [intOf]; omega
                · have hjk : ¬ (k : Int) < (i : Int) := by omega
                  go_wp2_with fail
                  go_roundw
                  case rel => exact ⟨i + 1, by first | (rw [HV.out]; done) | (rw [HV.out]; go_num), by go_num, HKN.out, CR2, HB2⟩
                  case measure => have := HKN.out; simp [intOf]; omega
          · have HV : Hid (haveP s0 n1 (i + 1) = haveP s0 n1 i) := Lib.hid (by rw [hhv.out, decide_eq_false p1]; rfl)
            obtain ⟨hv, hhv2⟩ : ∃ k, haveP s0 n1 i = k := ⟨_, rfl⟩
            rw [hhv2] at HV hle ⊢
            clear hhv hhv2
            go_wp2_with fail
            clear c0 c1 c2 c3 c4 c5 c6 c7 c8 c9 c10 c11 c12 c13
            go_loopw [10] (fun x10 wr2 => ∃ (k : Nat), x10 = .int .i64 (k : Int) ∧ k ≤ i ∧ Hid (IsRow wr2 w.heap.size 26 #[.int .u8 xa0, .int .u8 xb0, .int .u8 xc0, .int .u8 xd0, .slice (some ⟨bb, o, none⟩) n c, .int .i64 pre0, .int .i64 life0, .int .i64 idle0, .bool lf0]) ∧ Hid (IsRow wr2 wr.heap.size 40 #[.string ⟨tn.toArray⟩, .string ⟨th.toArray⟩, .int .u8 ta, .int .u8 tb, .int .u8 tc, .int .u8 td, .int .i64 tp, .int .i64 lo, .int .i64 hh, .slice rp rn rc, .int .i64 ts, .int .i64 tho, .int .i64 tq, .int .i64 te]) ∧ Hid (Below w.heap.size w wr2)) (fun x _ => i - (intOf x).toNat)
            case atStart => exact ⟨0, rfl, Nat.zero_le _, CN, TN, BN⟩
            case round =>
              obtain ⟨k, rfl, hk, CR2, TR2, HB2⟩ := hrel
              by_cases hkt : k < i
              · have hjk : (k : Int) < (i : Int) := by omega
                have hkn : (k : Int) < (n : Int) := by omega
                have HKK : Hid (k + 1 ≤ i) := Lib.hid hkt
                have hkl : k < s0.length := by have := HIL.out; omega
                obtain ⟨bb2, o2, e9, hbl9, hcell9⟩ := (Y.out.call HB2.out).some (by omega)
                injection e9 with e9
                injection e9 with e9a e9b e9c
                subst e9a; subst e9b
                have e1 := (hcell9 k hkl).c1
                have m4 := CR2.out.cell 4
                have m1 := TR2.out.cell 1
                have ml := CR2.out.lt
                have mr := TR2.out.lt
                have hne := HNE.out k hkt
                clear hcell9 k4 kl hbl
                generalize s0[k] = ut at *
                obtain ⟨uh, huh⟩ : ∃ x, ut.host = x := ⟨_, rfl⟩
                rw [huh] at e1 hne
                have gq : (uh == th) = false := beq_eq_false_iff_ne.2 hne
                clear huh hne
                go_wp2_with fail
                go_quiet (fail)
                go_wp2_with fail
                go_roundw
                case rel => exact ⟨k + 1, by go_num, HKK.out, Lib.hid CR2.out.drew, Lib.hid TR2.out.drew, Lib.hid (HB2.out.trans ⟨rfl, rfl, rfl, Nat.le_refl _, fun _ _ => rfl⟩)⟩
                case measure => have := HKK.out; simp [intOf]; omega
              · have hjk : ¬ (k : Int) < (i : Int) := by omega
                go_wp2_with fail
                go_roundw
                case rel => exact ⟨i + 1, by first | (rw [HV.out]; done) | (rw [HV.out]; go_num), by go_num, HKN.out, CR2, HB2⟩
                case measure => have := HKN.out; simp [intOf]; omega
        · have hji : ¬ (i : Int) < (n : Int) := by omega
          have hone : ((haveP s0 n1 i : Nat) : Int) ≤ 1 := by have := (have_one (p := n1) HA.out i (by have := HN.out; omega)).1; omega
          have ha1 : (1 : Int) ≤ (n : Int) := by have := HF1.out; have := HN.out; omega
          have ha4 : (n : Int) ≤ 4 := by have := HF4.out; have := HN.out; omega
          generalize haveP s0 n1 i = hv at *
          go_wp2_with fail
          go_ret
          exact ⟨by first | rfl | (simp; done) | (simp; omega), HB.out⟩

set_option maxRecDepth 100000 in
theorem lifted (os : Os) (started : os.Started) (H : Type) (enc : TypeId × Value → H) :
    ReturnsInHanded {} Tryd.checked os 5 .any (fun w args => (Rows.confApartSpec.pre enc Tryd.prog Tryd.f5 [] false w args ∧ laidMetH Tryd.prog laidHere w) ∧ sizedMet enc Tryd.prog Tryd.f5 (OpenSpec.ofChange Rows.confApartSpec) false w args)
      (Rows.confApartSpec.post enc Tryd.prog Tryd.f5 false true false false) := by
  refine handed started (by kernel_rfl) Tryd.func5 #[.agg #[.int .u8 0, .int .u8 0, .int .u8 0, .int .u8 0, .slice none 0 0, .int .i64 0, .int .i64 0, .int .i64 0, .bool false], .int .i64 0] (by kernel_rfl) (by kernel_rfl) (by kernel_rfl) (World.shaped_of_ZipB (by kernel_rfl) (by kernel_rfl)) ?_
  intro W base args ds gs before hval0 hW E
  have hval : ∀ (j : Nat) t v, Tryd.f5.params[j]? = some t → args[j]? = some v → Value.okWide Tryd.prog W .any base t v := hval0
  have hW' := hW
  obtain ⟨p, q, hA0, hV, rfl, _, _⟩ := hW
  have hA : DataW.TrodAll enc Tryd.prog W 0 (fun _ => true) true Tryd.f5.params.toList args.toList ds p := hA0
  rw [Tryd.params5] at hA hval
  obtain ⟨v0, vs0, d0, ds0, p0, q0, hargs, rfl, rfl, r0, t0⟩ := trodAll_cons hA
  obtain ⟨v1, vs1, d1, ds1, p1, q1, rfl, rfl, rfl, r1, t1⟩ := trodAll_cons t0
  obtain ⟨rfl, rfl, rfl⟩ := trodAll_nil t1
  obtain rfl : args = #[v0, v1] := by cases args; simp_all
  obtain ⟨rfl, rfl⟩ := trodVars_none hV
  obtain ⟨xa0, xb0, xc0, xd0, tv0, s0, pre0, life0, idle0, lf0, rfl, y0⟩ := open_conf (hval 0 26 v0 rfl rfl) r0
  obtain ⟨n1, rfl, rfl, rfl, w1⟩ := open_int Tryd.underlying3 (hval 1 3 v1 rfl rfl) r1
  clear hA0 hval0
  simp only [List.append_nil] at hW'
  refine (walk xa0 xb0 xc0 xd0 tv0 s0 pre0 life0 idle0 lf0 n1 (int_wf w1).1 (int_wf w1).2 W y0 E).mono fun e W' ⟨he, hb⟩ => ?_
  subst he
  have t0' := Below.trod laid_out (by kernel_rfl) (of_decide_eq_true (by kernel_rfl)) r0 hb (fun x hx => hW'.lt x (by simp [hx]))
  exact ⟨_, rfl, told hW' (fun _ _ _ => trodAll_cons_mk (shut_bool Tryd.underlying4 _) trodAll_mk0) (trodAll_cons_mk (t0') (trodAll_cons_mk (shut_int Tryd.underlying3 w1) trodAll_mk0)) (fun _ => rfl) hb⟩

theorem over : Rows.ConfApartSaid :=
  OpenClaim.holds_of_wide 5 Tryd.f5 rfl rfl rfl rfl rfl rfl rfl ⟨rfl, rfl, rfl, rfl, rfl⟩ rfl rfl rfl rfl rfl (by kernel_rfl) Tryd.func5 (by kernel_rfl)
    (of_decide_eq_true (by kernel_rfl)) (by unfold Func.isWrapper; first | (rw [if_pos (by decide +kernel)]; kernel_rfl) | (rw [if_neg (by decide +kernel)]; exact ⟨rfl, rfl⟩))
    (fun os started H enc _ => lifted os started H enc)

theorem proved : Rows.ConfApartCardSaid :=
  Claim7.holds_tied_plain_at .later [] Rows.confApartCard.laidKinds true Rows.confApartCard.stood.harness Rows.confApartCard.stood.looks
    over (fun _ h => by cases h) (by kernel_rfl) (fun _ h => by cases h) confApart_row_tie rfl ⟨rfl, rfl⟩ (by kernel_rfl) rfl
    (fun f fn hf hfn => by
      obtain rfl : f = 5 := Option.some.inj ((show Tryd.prog.funcNamed "wharfinger/wharfingerlaw13.ConfApart" = some 5 by kernel_rfl).symm.trans hf) |>.symm
      obtain rfl : fn = Tryd.f5 := (Option.some.inj (Tryd.func5.symm.trans hfn)).symm
      exact ⟨by kernel_rfl, fun j t ht => by
        rw [Tryd.params5] at ht
        have hm : t ∈ [26, 3] := by simpa using Array.mem_of_getElem? ht
        have hall : ([26, 3].all fun u => !Tryd.prog.wantsStandIn u) = true := by kernel_rfl
        exact (show Tryd.prog.wantsStandIn t = false by simpa using List.all_eq_true.1 hall t hm)⟩)
    (by kernel_rfl)
#print axioms proved
end Go.Proofs.YtmodmfkcigibpaaDoor.confApart
