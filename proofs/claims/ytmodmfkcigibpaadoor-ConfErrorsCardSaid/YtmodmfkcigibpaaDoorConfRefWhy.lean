/- The document's answer of layer 13: why a conf may not be, whether it may (gen-conf-ref.py). -/
import Derived.Test.YtmodmfkcigibpaaDoorConfRefTen
namespace Go.Proofs.YtmodmfkcigibpaaDoor.Co
open Go.Proofs.YtmodmfkcigibpaaDoor Go.Proofs.YtmodmfkcigibpaaDoor.Ac Go.Proofs.YtmodmfkcigibpaaDoor.Ro
open Go Go.ChangeShapes Go.WideShapes Go.ChangeAt Go.RowKit
set_option maxRecDepth 100000
set_option linter.unusedSimpArgs false
set_option linter.unusedVariables false

set_option maxHeartbeats 16000000 in
theorem rwhy_any (a b c d : Int) (tv : Value) (pre life idle : Int) (lf : Bool) (l : List Tn) (hf : Few l) (w : World) (H : TensIs w tv l) :
    Calls Tryd.prog 12 #[confV a b c d tv pre life idle lf] w fun e w' => e = .returned (.tuple #[.int .i64 (why pre life idle l).1, .int .i64 (why pre life idle l).2]) ∧ Below w.heap.size w w' := by
  have hmax := H.max
  have HF := Lib.hid hf
  obtain ⟨p, n, cc, rfl, hn⟩ := H.form
  have HN := Lib.hid hn
  have HTr := Lib.hid H
  rw [← hn] at hmax
  have hn6 : n ≤ 6 := by rw [hn]; exact hf.len
  obtain ⟨z, hz⟩ : ∃ z, why pre life idle l = z := ⟨_, rfl⟩
  rw [hz]
  unfold why headB at hz
  rw [← hn] at hz
  clear hn H hf
  obtain ⟨p1, h1⟩ : ∃ x, inB pre 1 8 = x := ⟨_, rfl⟩
  obtain ⟨p2, h2⟩ : ∃ x, inB life 1 1099511627776 = x := ⟨_, rfl⟩
  obtain ⟨p3, h3⟩ : ∃ x, inB idle 1 1099511627776 = x := ⟨_, rfl⟩
  obtain ⟨p4, h4⟩ : ∃ x, inB (n : Int) 1 4 = x := ⟨_, rfl⟩
  rw [h1, h2, h3, h4] at hz
  have HI1 := Lib.hid (fun W => rin_b pre 1 8 p1 h1 W)
  have HI2 := Lib.hid (fun W => rin_b life 1 1099511627776 p2 h2 W)
  have HI3 := Lib.hid (fun W => rin_b idle 1 1099511627776 p3 h3 W)
  have HI4 := Lib.hid (fun W => rin_b (n : Int) 1 4 p4 h4 W)
  have HN1 : Hid ((p1 && (p2 && p3) && p4) = false → z = (-1, 1)) := Lib.hid (fun h => by rw [← hz, h]; rfl)
  have HW1 : Hid ((p1 && (p2 && p3) && p4) = true → z = whyL l) := Lib.hid (fun h => by rw [← hz, h]; rfl)
  have HAt : Hid (∀ k, k < l.length → badAt l k ≠ 0 → (∀ j, j < k → badAt l j = 0) → whyL l = ((k : Int), badAt l k)) := Lib.hid (fun k a b c => why_at a b c)
  have HEnd : Hid ((∀ j, j < l.length → badAt l j = 0) → whyL l = (-1, 0)) := Lib.hid (fun h => why_end h)
  clear hz h1 h2 h3 h4
  have C0 := Lib.hid (IsRow.made w 26 #[.int .u8 a, .int .u8 b, .int .u8 c, .int .u8 d, .slice p n cc, .int .i64 pre, .int .i64 life, .int .i64 idle, .bool lf])
  have B0 := Lib.hid ((Below.refl w.heap.size w).alloc (Nat.le_refl _) (.cells #[.int .u8 a, .int .u8 b, .int .u8 c, .int .u8 d, .slice p n cc, .int .i64 pre, .int .i64 life, .int .i64 idle, .bool lf] 26))
  cases p1 with
  | false =>
    have HV : Hid (z = (-1, 1)) := Lib.hid (HN1.out (by first | rfl | (cases p2 <;> rfl) | (cases p2 <;> cases p3 <;> rfl) | (cases p2 <;> cases p3 <;> cases p4 <;> rfl) | (cases p3 <;> cases p4 <;> rfl) | (cases p4 <;> rfl)))
    clear HW1 HAt HEnd
    go_enter Tryd.func12, Tryd.ntmps12
    go_wp2_with (first
      | (go_at_call 20; refine (HI1.out _).mono ?_; rintro e w1 ⟨rfl, b1⟩; have B1 := Lib.hid (B0.out.trans (b1.mono B0.out.size)); have C1 := Lib.hid (C0.out.call b1); have k0 := C1.out.cell 0; have k1 := C1.out.cell 1; have k2 := C1.out.cell 2; have k3 := C1.out.cell 3; have k4 := C1.out.cell 4; have k5 := C1.out.cell 5; have k6 := C1.out.cell 6; have k7 := C1.out.cell 7; have k8 := C1.out.cell 8; have kl := C1.out.lt; clear HI1 b1 C0)
      | (go_at_call 20; refine (HI2.out _).mono ?_; rintro e w2 ⟨rfl, b2⟩; have B2 := Lib.hid (B1.out.trans (b2.mono B1.out.size)); have C2 := Lib.hid (C1.out.call b2); clear k0 k1 k2 k3 k4 k5 k6 k7 k8 kl; have k0 := C2.out.cell 0; have k1 := C2.out.cell 1; have k2 := C2.out.cell 2; have k3 := C2.out.cell 3; have k4 := C2.out.cell 4; have k5 := C2.out.cell 5; have k6 := C2.out.cell 6; have k7 := C2.out.cell 7; have k8 := C2.out.cell 8; have kl := C2.out.lt; clear HI2 b2 C1)
      | (go_at_call 20; refine (HI3.out _).mono ?_; rintro e w3 ⟨rfl, b3⟩; have B3 := Lib.hid (B2.out.trans (b3.mono B2.out.size)); have C3 := Lib.hid (C2.out.call b3); clear k0 k1 k2 k3 k4 k5 k6 k7 k8 kl; have k0 := C3.out.cell 0; have k1 := C3.out.cell 1; have k2 := C3.out.cell 2; have k3 := C3.out.cell 3; have k4 := C3.out.cell 4; have k5 := C3.out.cell 5; have k6 := C3.out.cell 6; have k7 := C3.out.cell 7; have k8 := C3.out.cell 8; have kl := C3.out.lt; clear HI3 b3 C2)
      | (go_at_call 20; refine (HI4.out _).mono ?_; rintro e w4 ⟨rfl, b4⟩; have B4 := Lib.hid (B3.out.trans (b4.mono B3.out.size)); have C4 := Lib.hid (C3.out.call b4); clear k0 k1 k2 k3 k4 k5 k6 k7 k8 kl; have k0 := C4.out.cell 0; have k1 := C4.out.cell 1; have k2 := C4.out.cell 2; have k3 := C4.out.cell 3; have k4 := C4.out.cell 4; have k5 := C4.out.cell 5; have k6 := C4.out.cell 6; have k7 := C4.out.cell 7; have k8 := C4.out.cell 8; have kl := C4.out.lt; clear HI4 b4 C3))
    refine bodyPost_ret (v := .tuple #[.int .i64 z.1, .int .i64 z.2]) (by simp [results, Tryd.results12, go_sem, HV.out]) rfl ?_
    exact ⟨by rw [HV.out] <;> rfl, B4.out⟩
  | true =>
    cases p2 with
    | false =>
      have HV : Hid (z = (-1, 1)) := Lib.hid (HN1.out (by first | rfl | (cases p2 <;> rfl) | (cases p2 <;> cases p3 <;> rfl) | (cases p2 <;> cases p3 <;> cases p4 <;> rfl) | (cases p3 <;> cases p4 <;> rfl) | (cases p4 <;> rfl)))
      clear HW1 HAt HEnd
      go_enter Tryd.func12, Tryd.ntmps12
      go_wp2_with (first
        | (go_at_call 20; refine (HI1.out _).mono ?_; rintro e w1 ⟨rfl, b1⟩; have B1 := Lib.hid (B0.out.trans (b1.mono B0.out.size)); have C1 := Lib.hid (C0.out.call b1); have k0 := C1.out.cell 0; have k1 := C1.out.cell 1; have k2 := C1.out.cell 2; have k3 := C1.out.cell 3; have k4 := C1.out.cell 4; have k5 := C1.out.cell 5; have k6 := C1.out.cell 6; have k7 := C1.out.cell 7; have k8 := C1.out.cell 8; have kl := C1.out.lt; clear HI1 b1 C0)
        | (go_at_call 20; refine (HI2.out _).mono ?_; rintro e w2 ⟨rfl, b2⟩; have B2 := Lib.hid (B1.out.trans (b2.mono B1.out.size)); have C2 := Lib.hid (C1.out.call b2); clear k0 k1 k2 k3 k4 k5 k6 k7 k8 kl; have k0 := C2.out.cell 0; have k1 := C2.out.cell 1; have k2 := C2.out.cell 2; have k3 := C2.out.cell 3; have k4 := C2.out.cell 4; have k5 := C2.out.cell 5; have k6 := C2.out.cell 6; have k7 := C2.out.cell 7; have k8 := C2.out.cell 8; have kl := C2.out.lt; clear HI2 b2 C1)
        | (go_at_call 20; refine (HI3.out _).mono ?_; rintro e w3 ⟨rfl, b3⟩; have B3 := Lib.hid (B2.out.trans (b3.mono B2.out.size)); have C3 := Lib.hid (C2.out.call b3); clear k0 k1 k2 k3 k4 k5 k6 k7 k8 kl; have k0 := C3.out.cell 0; have k1 := C3.out.cell 1; have k2 := C3.out.cell 2; have k3 := C3.out.cell 3; have k4 := C3.out.cell 4; have k5 := C3.out.cell 5; have k6 := C3.out.cell 6; have k7 := C3.out.cell 7; have k8 := C3.out.cell 8; have kl := C3.out.lt; clear HI3 b3 C2)
        | (go_at_call 20; refine (HI4.out _).mono ?_; rintro e w4 ⟨rfl, b4⟩; have B4 := Lib.hid (B3.out.trans (b4.mono B3.out.size)); have C4 := Lib.hid (C3.out.call b4); clear k0 k1 k2 k3 k4 k5 k6 k7 k8 kl; have k0 := C4.out.cell 0; have k1 := C4.out.cell 1; have k2 := C4.out.cell 2; have k3 := C4.out.cell 3; have k4 := C4.out.cell 4; have k5 := C4.out.cell 5; have k6 := C4.out.cell 6; have k7 := C4.out.cell 7; have k8 := C4.out.cell 8; have kl := C4.out.lt; clear HI4 b4 C3))
      refine bodyPost_ret (v := .tuple #[.int .i64 z.1, .int .i64 z.2]) (by simp [results, Tryd.results12, go_sem, HV.out]) rfl ?_
      exact ⟨by rw [HV.out] <;> rfl, B4.out⟩
    | true =>
      cases p3 with
      | false =>
        have HV : Hid (z = (-1, 1)) := Lib.hid (HN1.out (by first | rfl | (cases p2 <;> rfl) | (cases p2 <;> cases p3 <;> rfl) | (cases p2 <;> cases p3 <;> cases p4 <;> rfl) | (cases p3 <;> cases p4 <;> rfl) | (cases p4 <;> rfl)))
        clear HW1 HAt HEnd
        go_enter Tryd.func12, Tryd.ntmps12
        go_wp2_with (first
          | (go_at_call 20; refine (HI1.out _).mono ?_; rintro e w1 ⟨rfl, b1⟩; have B1 := Lib.hid (B0.out.trans (b1.mono B0.out.size)); have C1 := Lib.hid (C0.out.call b1); have k0 := C1.out.cell 0; have k1 := C1.out.cell 1; have k2 := C1.out.cell 2; have k3 := C1.out.cell 3; have k4 := C1.out.cell 4; have k5 := C1.out.cell 5; have k6 := C1.out.cell 6; have k7 := C1.out.cell 7; have k8 := C1.out.cell 8; have kl := C1.out.lt; clear HI1 b1 C0)
          | (go_at_call 20; refine (HI2.out _).mono ?_; rintro e w2 ⟨rfl, b2⟩; have B2 := Lib.hid (B1.out.trans (b2.mono B1.out.size)); have C2 := Lib.hid (C1.out.call b2); clear k0 k1 k2 k3 k4 k5 k6 k7 k8 kl; have k0 := C2.out.cell 0; have k1 := C2.out.cell 1; have k2 := C2.out.cell 2; have k3 := C2.out.cell 3; have k4 := C2.out.cell 4; have k5 := C2.out.cell 5; have k6 := C2.out.cell 6; have k7 := C2.out.cell 7; have k8 := C2.out.cell 8; have kl := C2.out.lt; clear HI2 b2 C1)
          | (go_at_call 20; refine (HI3.out _).mono ?_; rintro e w3 ⟨rfl, b3⟩; have B3 := Lib.hid (B2.out.trans (b3.mono B2.out.size)); have C3 := Lib.hid (C2.out.call b3); clear k0 k1 k2 k3 k4 k5 k6 k7 k8 kl; have k0 := C3.out.cell 0; have k1 := C3.out.cell 1; have k2 := C3.out.cell 2; have k3 := C3.out.cell 3; have k4 := C3.out.cell 4; have k5 := C3.out.cell 5; have k6 := C3.out.cell 6; have k7 := C3.out.cell 7; have k8 := C3.out.cell 8; have kl := C3.out.lt; clear HI3 b3 C2)
          | (go_at_call 20; refine (HI4.out _).mono ?_; rintro e w4 ⟨rfl, b4⟩; have B4 := Lib.hid (B3.out.trans (b4.mono B3.out.size)); have C4 := Lib.hid (C3.out.call b4); clear k0 k1 k2 k3 k4 k5 k6 k7 k8 kl; have k0 := C4.out.cell 0; have k1 := C4.out.cell 1; have k2 := C4.out.cell 2; have k3 := C4.out.cell 3; have k4 := C4.out.cell 4; have k5 := C4.out.cell 5; have k6 := C4.out.cell 6; have k7 := C4.out.cell 7; have k8 := C4.out.cell 8; have kl := C4.out.lt; clear HI4 b4 C3))
        refine bodyPost_ret (v := .tuple #[.int .i64 z.1, .int .i64 z.2]) (by simp [results, Tryd.results12, go_sem, HV.out]) rfl ?_
        exact ⟨by rw [HV.out] <;> rfl, B4.out⟩
      | true =>
        cases p4 with
        | false =>
          have HV : Hid (z = (-1, 1)) := Lib.hid (HN1.out (by first | rfl | (cases p2 <;> rfl) | (cases p2 <;> cases p3 <;> rfl) | (cases p2 <;> cases p3 <;> cases p4 <;> rfl) | (cases p3 <;> cases p4 <;> rfl) | (cases p4 <;> rfl)))
          clear HW1 HAt HEnd
          go_enter Tryd.func12, Tryd.ntmps12
          go_wp2_with (first
            | (go_at_call 20; refine (HI1.out _).mono ?_; rintro e w1 ⟨rfl, b1⟩; have B1 := Lib.hid (B0.out.trans (b1.mono B0.out.size)); have C1 := Lib.hid (C0.out.call b1); have k0 := C1.out.cell 0; have k1 := C1.out.cell 1; have k2 := C1.out.cell 2; have k3 := C1.out.cell 3; have k4 := C1.out.cell 4; have k5 := C1.out.cell 5; have k6 := C1.out.cell 6; have k7 := C1.out.cell 7; have k8 := C1.out.cell 8; have kl := C1.out.lt; clear HI1 b1 C0)
            | (go_at_call 20; refine (HI2.out _).mono ?_; rintro e w2 ⟨rfl, b2⟩; have B2 := Lib.hid (B1.out.trans (b2.mono B1.out.size)); have C2 := Lib.hid (C1.out.call b2); clear k0 k1 k2 k3 k4 k5 k6 k7 k8 kl; have k0 := C2.out.cell 0; have k1 := C2.out.cell 1; have k2 := C2.out.cell 2; have k3 := C2.out.cell 3; have k4 := C2.out.cell 4; have k5 := C2.out.cell 5; have k6 := C2.out.cell 6; have k7 := C2.out.cell 7; have k8 := C2.out.cell 8; have kl := C2.out.lt; clear HI2 b2 C1)
            | (go_at_call 20; refine (HI3.out _).mono ?_; rintro e w3 ⟨rfl, b3⟩; have B3 := Lib.hid (B2.out.trans (b3.mono B2.out.size)); have C3 := Lib.hid (C2.out.call b3); clear k0 k1 k2 k3 k4 k5 k6 k7 k8 kl; have k0 := C3.out.cell 0; have k1 := C3.out.cell 1; have k2 := C3.out.cell 2; have k3 := C3.out.cell 3; have k4 := C3.out.cell 4; have k5 := C3.out.cell 5; have k6 := C3.out.cell 6; have k7 := C3.out.cell 7; have k8 := C3.out.cell 8; have kl := C3.out.lt; clear HI3 b3 C2)
            | (go_at_call 20; refine (HI4.out _).mono ?_; rintro e w4 ⟨rfl, b4⟩; have B4 := Lib.hid (B3.out.trans (b4.mono B3.out.size)); have C4 := Lib.hid (C3.out.call b4); clear k0 k1 k2 k3 k4 k5 k6 k7 k8 kl; have k0 := C4.out.cell 0; have k1 := C4.out.cell 1; have k2 := C4.out.cell 2; have k3 := C4.out.cell 3; have k4 := C4.out.cell 4; have k5 := C4.out.cell 5; have k6 := C4.out.cell 6; have k7 := C4.out.cell 7; have k8 := C4.out.cell 8; have kl := C4.out.lt; clear HI4 b4 C3))
          refine bodyPost_ret (v := .tuple #[.int .i64 z.1, .int .i64 z.2]) (by simp [results, Tryd.results12, go_sem, HV.out]) rfl ?_
          exact ⟨by rw [HV.out] <;> rfl, B4.out⟩
        | true =>
          go_enter Tryd.func12, Tryd.ntmps12
          go_wp2_with (first
            | (go_at_call 20; refine (HI1.out _).mono ?_; rintro e w1 ⟨rfl, b1⟩; have B1 := Lib.hid (B0.out.trans (b1.mono B0.out.size)); have C1 := Lib.hid (C0.out.call b1); have k0 := C1.out.cell 0; have k1 := C1.out.cell 1; have k2 := C1.out.cell 2; have k3 := C1.out.cell 3; have k4 := C1.out.cell 4; have k5 := C1.out.cell 5; have k6 := C1.out.cell 6; have k7 := C1.out.cell 7; have k8 := C1.out.cell 8; have kl := C1.out.lt; clear HI1 b1 C0)
            | (go_at_call 20; refine (HI2.out _).mono ?_; rintro e w2 ⟨rfl, b2⟩; have B2 := Lib.hid (B1.out.trans (b2.mono B1.out.size)); have C2 := Lib.hid (C1.out.call b2); clear k0 k1 k2 k3 k4 k5 k6 k7 k8 kl; have k0 := C2.out.cell 0; have k1 := C2.out.cell 1; have k2 := C2.out.cell 2; have k3 := C2.out.cell 3; have k4 := C2.out.cell 4; have k5 := C2.out.cell 5; have k6 := C2.out.cell 6; have k7 := C2.out.cell 7; have k8 := C2.out.cell 8; have kl := C2.out.lt; clear HI2 b2 C1)
            | (go_at_call 20; refine (HI3.out _).mono ?_; rintro e w3 ⟨rfl, b3⟩; have B3 := Lib.hid (B2.out.trans (b3.mono B2.out.size)); have C3 := Lib.hid (C2.out.call b3); clear k0 k1 k2 k3 k4 k5 k6 k7 k8 kl; have k0 := C3.out.cell 0; have k1 := C3.out.cell 1; have k2 := C3.out.cell 2; have k3 := C3.out.cell 3; have k4 := C3.out.cell 4; have k5 := C3.out.cell 5; have k6 := C3.out.cell 6; have k7 := C3.out.cell 7; have k8 := C3.out.cell 8; have kl := C3.out.lt; clear HI3 b3 C2)
            | (go_at_call 20; refine (HI4.out _).mono ?_; rintro e w4 ⟨rfl, b4⟩; have B4 := Lib.hid (B3.out.trans (b4.mono B3.out.size)); have C4 := Lib.hid (C3.out.call b4); clear k0 k1 k2 k3 k4 k5 k6 k7 k8 kl; have k0 := C4.out.cell 0; have k1 := C4.out.cell 1; have k2 := C4.out.cell 2; have k3 := C4.out.cell 3; have k4 := C4.out.cell 4; have k5 := C4.out.cell 5; have k6 := C4.out.cell 6; have k7 := C4.out.cell 7; have k8 := C4.out.cell 8; have kl := C4.out.lt; clear HI4 b4 C3))
          clear k0 k1 k2 k3 k4 k5 k6 k7 k8 kl
          have HAt2 := Lib.hid (fun k h1 h2 h3 => (HW1.out rfl).trans (HAt.out k h1 h2 h3))
          have HEnd2 := Lib.hid (fun h => (HW1.out rfl).trans (HEnd.out h))
          clear HW1 HAt HEnd HN1
          go_loopw [9] (fun x9 wr => ∃ k : Nat, x9 = .int .i64 (k : Int) ∧ k ≤ n ∧ Hid (∀ j, j < k → badAt l j = 0) ∧ Hid (IsRow wr w.heap.size 26 #[.int .u8 a, .int .u8 b, .int .u8 c, .int .u8 d, .slice p n cc, .int .i64 pre, .int .i64 life, .int .i64 idle, .bool lf]) ∧ Hid (Below w.heap.size w wr)) (fun x _ => n - (intOf x).toNat)
          case atStart => exact ⟨0, rfl, Nat.zero_le _, Lib.hid (fun j hj => absurd hj (Nat.not_lt_zero j)), C4, B4⟩
          case round =>
            obtain ⟨k, rfl, hk, HO, C0, B0⟩ := hrel
            have k0 := C0.out.cell 0
            have k1 := C0.out.cell 1
            have k2 := C0.out.cell 2
            have k3 := C0.out.cell 3
            have k4 := C0.out.cell 4
            have k5 := C0.out.cell 5
            have k6 := C0.out.cell 6
            have k7 := C0.out.cell 7
            have k8 := C0.out.cell 8
            have kl := C0.out.lt
            by_cases hlt : k < n
            · have hji : (k : Int) < (n : Int) := by omega
              have HK : Hid (k + 1 ≤ n) := Lib.hid hlt
              have hkl : k < l.length := by rw [← HN.out]; exact hlt
              have HTn := Lib.hid (fun W HR => rtenant_any a b c d (.slice p n cc) pre life idle lf l HF.out k hkl W HR)
              have HPn := Lib.hid (fun W HR => rports_any a b c d (.slice p n cc) pre life idle lf l k hkl W HR)
              have HB2 : Hid (tenOk (l.take k) l[k] = false → z = ((k : Int), 2)) := Lib.hid (fun h => by
                have e : badAt l k = 2 := by rw [badAt_some hkl]; unfold bad; rw [h]; rfl
                have := HAt2.out k hkl (by rw [e]; decide) HO.out
                rw [this, e])
              have HB3 : Hid (tenOk (l.take k) l[k] = true → portsOk (l.take k) l[k] = false → z = ((k : Int), 3)) := Lib.hid (fun h h' => by
                have e : badAt l k = 3 := by rw [badAt_some hkl]; unfold bad; rw [h, h']; rfl
                have := HAt2.out k hkl (by rw [e]; decide) HO.out
                rw [this, e])
              have HB0 : Hid (tenOk (l.take k) l[k] = true → portsOk (l.take k) l[k] = true → ∀ j, j < k + 1 → badAt l j = 0) := Lib.hid (fun h h' j hj => by
                by_cases e : j = k
                · subst e; rw [badAt_some hkl]; unfold bad; rw [h, h']; rfl
                · exact HO.out j (by omega))
              generalize tenOk (l.take k) l[k] = x1 at HTn HB2 HB3 HB0
              generalize portsOk (l.take k) l[k] = x2 at HPn HB3 HB0
              cases x1 with
              | false =>
                have HV := Lib.hid (HB2.out rfl)
                clear HB2 HB3 HB0 HAt2 HEnd2
                go_wp2_with (first
                  | (go_at_call 21; refine (HTn.out _ (HTr.out.call B0.out)).mono ?_; rintro e w1 ⟨rfl, b1⟩; have B1 := Lib.hid (B0.out.trans (b1.mono B0.out.size)); have C1 := Lib.hid (C0.out.call b1); clear k0 k1 k2 k3 k4 k5 k6 k7 k8 kl; have k0 := C1.out.cell 0; have k1 := C1.out.cell 1; have k2 := C1.out.cell 2; have k3 := C1.out.cell 3; have k4 := C1.out.cell 4; have k5 := C1.out.cell 5; have k6 := C1.out.cell 6; have k7 := C1.out.cell 7; have k8 := C1.out.cell 8; have kl := C1.out.lt; clear HTn b1 C0))
                refine bodyPost_ret (v := .tuple #[.int .i64 z.1, .int .i64 z.2]) (by simp [results, Tryd.results12, go_sem, HV.out]) rfl ?_
                exact ⟨by rw [HV.out] <;> rfl, B1.out⟩
              | true =>
                cases x2 with
                | false =>
                  have HV := Lib.hid (HB3.out rfl rfl)
                  clear HB2 HB3 HB0 HAt2 HEnd2
                  go_wp2_with (first
                    | (go_at_call 21; refine (HTn.out _ (HTr.out.call B0.out)).mono ?_; rintro e w1 ⟨rfl, b1⟩; have B1 := Lib.hid (B0.out.trans (b1.mono B0.out.size)); have C1 := Lib.hid (C0.out.call b1); clear k0 k1 k2 k3 k4 k5 k6 k7 k8 kl; have k0 := C1.out.cell 0; have k1 := C1.out.cell 1; have k2 := C1.out.cell 2; have k3 := C1.out.cell 3; have k4 := C1.out.cell 4; have k5 := C1.out.cell 5; have k6 := C1.out.cell 6; have k7 := C1.out.cell 7; have k8 := C1.out.cell 8; have kl := C1.out.lt; clear HTn b1 C0)
                    | (go_at_call 22; refine (HPn.out _ (HTr.out.call B1.out)).mono ?_; rintro e w2 ⟨rfl, b2⟩; have B2 := Lib.hid (B1.out.trans (b2.mono B1.out.size)); have C2 := Lib.hid (C1.out.call b2); clear k0 k1 k2 k3 k4 k5 k6 k7 k8 kl; have k0 := C2.out.cell 0; have k1 := C2.out.cell 1; have k2 := C2.out.cell 2; have k3 := C2.out.cell 3; have k4 := C2.out.cell 4; have k5 := C2.out.cell 5; have k6 := C2.out.cell 6; have k7 := C2.out.cell 7; have k8 := C2.out.cell 8; have kl := C2.out.lt; clear HPn b2 C1))
                  refine bodyPost_ret (v := .tuple #[.int .i64 z.1, .int .i64 z.2]) (by simp [results, Tryd.results12, go_sem, HV.out]) rfl ?_
                  exact ⟨by rw [HV.out] <;> rfl, B2.out⟩
                | true =>
                  have HV := Lib.hid (HB0.out rfl rfl)
                  clear HB2 HB3 HB0
                  go_wp2_with (first
                    | (go_at_call 21; refine (HTn.out _ (HTr.out.call B0.out)).mono ?_; rintro e w1 ⟨rfl, b1⟩; have B1 := Lib.hid (B0.out.trans (b1.mono B0.out.size)); have C1 := Lib.hid (C0.out.call b1); clear k0 k1 k2 k3 k4 k5 k6 k7 k8 kl; have k0 := C1.out.cell 0; have k1 := C1.out.cell 1; have k2 := C1.out.cell 2; have k3 := C1.out.cell 3; have k4 := C1.out.cell 4; have k5 := C1.out.cell 5; have k6 := C1.out.cell 6; have k7 := C1.out.cell 7; have k8 := C1.out.cell 8; have kl := C1.out.lt; clear HTn b1 C0)
                    | (go_at_call 22; refine (HPn.out _ (HTr.out.call B1.out)).mono ?_; rintro e w2 ⟨rfl, b2⟩; have B2 := Lib.hid (B1.out.trans (b2.mono B1.out.size)); have C2 := Lib.hid (C1.out.call b2); clear k0 k1 k2 k3 k4 k5 k6 k7 k8 kl; have k0 := C2.out.cell 0; have k1 := C2.out.cell 1; have k2 := C2.out.cell 2; have k3 := C2.out.cell 3; have k4 := C2.out.cell 4; have k5 := C2.out.cell 5; have k6 := C2.out.cell 6; have k7 := C2.out.cell 7; have k8 := C2.out.cell 8; have kl := C2.out.lt; clear HPn b2 C1))
                  go_roundw
                  case rel => exact ⟨k + 1, by go_num, HK.out, HV, C2, B2⟩
                  case measure => have := HK.out; simp [intOf]; omega
            · have hji : ¬ (k : Int) < (n : Int) := by omega
              have HV := Lib.hid (HEnd2.out (fun j hj => HO.out j (by have := HN.out; omega)))
              clear HAt2 HEnd2
              go_wp2_with fail
              refine bodyPost_ret (v := .tuple #[.int .i64 z.1, .int .i64 z.2]) (by simp [results, Tryd.results12, go_sem, HV.out]) rfl ?_
              exact ⟨by rw [HV.out] <;> rfl, B0.out⟩

theorem rwhy_of (a b c d : Int) (tv : Value) (pre life idle : Int) (lf : Bool) (l : List Tn) (hf : Few l) (x y : Int) (h : why pre life idle l = (x, y)) (w : World) (H : TensIs w tv l) :
    Calls Tryd.prog 12 #[confV a b c d tv pre life idle lf] w fun e w' => e = .returned (.tuple #[.int .i64 x, .int .i64 y]) ∧ Below w.heap.size w w' := by
  have := rwhy_any a b c d tv pre life idle lf l hf w H
  rw [h] at this; exact this

#print axioms rwhy_any
end Go.Proofs.YtmodmfkcigibpaaDoor.Co
