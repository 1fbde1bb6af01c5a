/- Proved: for every two replies the law ReplyOnly of layer 9 answers true. Conditions: none beyond the row's own (the library's variables start as the program's text lays them: the card ties them). -/
import Derived.Test.YtbojjbnmjhblfaaDoorReplyAwake
import Derived.BigQuiet
import Derived.Deep.QuietTactic
import Derived.LoopTactic
import Derived.WalkMore

namespace Go.Proofs.YtbojjbnmjhblfaaDoor.replyOnly
open Go.Proofs.YtbojjbnmjhblfaaDoor Go.Proofs.YtbojjbnmjhblfaaDoor.Rp Go.Proofs.YtbojjbnmjhblfaaDoor.Cm Go.Proofs.YtbojjbnmjhblfaaDoor.Quad
open Go.ChangeShapes Go.WideShapes Go.ChangeAt Go.RowKit Go.Sort Go.ChangeMaps

set_option linter.unusedVariables false in
set_option maxHeartbeats 8000000 in
set_option maxRecDepth 100000 in
theorem walk (c0 : Int) (u0 : Value) (s0 : List (List UInt8)) (l0 : -9223372036854775808 ≤ c0) (h0 : c0 ≤ 9223372036854775807) (z0 : ∀ s ∈ s0, s.length ≤ 9223372036854775807) (c1 : Int) (u1 : Value) (s1 : List (List UInt8)) (l1 : -9223372036854775808 ≤ c1) (h1 : c1 ≤ 9223372036854775807) (z1 : ∀ s ∈ s1, s.length ≤ 9223372036854775807) (w : World) (y0 : StrsIs w u0 s0) (y1 : StrsIs w u1 s1) (E : Env w) :
    Calls Tryd.prog 7 #[replyV c0 u0, replyV c1 u1] w fun e w' => e = .returned (.bool true) ∧ Below w.heap.size w w' := by
  have Y0 := Lib.hid y0.texts
  obtain ⟨p0, n0, k0, rfl, hn0⟩ := y0.texts.form3
  have HN0 := Lib.hid hn0
  clear hn0
  have HF0 := Lib.hid (fun W Y => few_below (.slice p0 n0 k0) s0 W Y)
  have HFP0 := Lib.hid (fun h => few_parts (l := s0) h)
  clear y0
  have Y1 := Lib.hid y1.texts
  obtain ⟨p1, n1, k1, rfl, hn1⟩ := y1.texts.form3
  have HN1 := Lib.hid hn1
  clear hn1
  have HF1 := Lib.hid (fun W Y => few_below (.slice p1 n1 k1) s1 W Y)
  have HFP1 := Lib.hid (fun h => few_parts (l := s1) h)
  clear y1
  cases hf0 : few s0 with
  | false =>
    rw [hf0] at HF0
    generalize few s1 = f1 at HF1
    have B0 := Lib.hid (Below.refl w.heap.size w)
    go_enter Tryd.func7, Tryd.ntmps7
    go_wp2_with (first
          | (go_at_call 8; refine (awake_any _ (E.below (((B0.out).alloc B0.out.size (.cells #[.int .i64 c0, .slice p0 n0 k0] 24)).alloc (by have := B0.out.size; simp <;> omega) (.cells #[.int .i64 c1, .slice p1 n1 k1] 24)))).mono ?_; rintro e w1 ⟨rfl, b1⟩; have B1 := Lib.hid ((((B0.out).alloc B0.out.size (.cells #[.int .i64 c0, .slice p0 n0 k0] 24)).alloc (by have := B0.out.size; simp <;> omega) (.cells #[.int .i64 c1, .slice p1 n1 k1] 24)).trans (b1.mono (by have := B0.out.size; simp <;> omega))); have xr1 := Lib.hid (((IsRow.made w 24 #[.int .i64 c0, .slice p0 n0 k0]).alloc (.cells #[.int .i64 c1, .slice p1 n1 k1] 24)).call b1); have xs1 := Lib.hid ((IsRow.made (w.alloc (.cells #[.int .i64 c0, .slice p0 n0 k0] 24)) 24 #[.int .i64 c1, .slice p1 n1 k1]).call b1); have xrc0 : w1.cell? ⟨w.heap.size, 0, none⟩ = some (.int .i64 c0) := xr1.out.cell 0; have xrc1 : w1.cell? ⟨w.heap.size, 1, none⟩ = some (.slice p0 n0 k0) := xr1.out.cell 1; have xrlt : w.heap.size < w1.heap.size := xr1.out.lt; have xsc0 : w1.cell? ⟨w.heap.size + 1, 0, none⟩ = some (.int .i64 c1) := (by have h := xs1.out.cell 0; simp at h; exact h); have xsc1 : w1.cell? ⟨w.heap.size + 1, 1, none⟩ = some (.slice p1 n1 k1) := (by have h := xs1.out.cell 1; simp at h; exact h); have xslt : w.heap.size + 1 < w1.heap.size := (by have h := xs1.out.lt; simp at h; exact h))
          | (go_at_call 9; refine (HF0.out _ (Y0.out.call (B1.out))).mono ?_; rintro e w2 ⟨rfl, b2⟩; have B2 := Lib.hid (B1.out.trans (b2.mono B1.out.size)); have xr2 := Lib.hid (xr1.out.call b2); have xs2 := Lib.hid (xs1.out.call b2); clear xrc0 xrc1 xrlt xsc0 xsc1 xslt; have xrc0 : w2.cell? ⟨w.heap.size, 0, none⟩ = some (.int .i64 c0) := xr2.out.cell 0; have xrc1 : w2.cell? ⟨w.heap.size, 1, none⟩ = some (.slice p0 n0 k0) := xr2.out.cell 1; have xrlt : w.heap.size < w2.heap.size := xr2.out.lt; have xsc0 : w2.cell? ⟨w.heap.size + 1, 0, none⟩ = some (.int .i64 c1) := (by have h := xs2.out.cell 0; simp at h; exact h); have xsc1 : w2.cell? ⟨w.heap.size + 1, 1, none⟩ = some (.slice p1 n1 k1) := (by have h := xs2.out.cell 1; simp at h; exact h); have xslt : w.heap.size + 1 < w2.heap.size := (by have h := xs2.out.lt; simp at h; exact h); clear HF0; clear xr1 xs1)
          | (go_at_call 9; refine (HF1.out _ (Y1.out.call (B2.out))).mono ?_; rintro e w3 ⟨rfl, b3⟩; have B3 := Lib.hid (B2.out.trans (b3.mono B2.out.size)); have xr3 := Lib.hid (xr2.out.call b3); have xs3 := Lib.hid (xs2.out.call b3); clear xrc0 xrc1 xrlt xsc0 xsc1 xslt; clear HF1; clear xr2 xs2))
    all_goals (go_ret; exact ⟨by first | rfl | (simp; done) | (simp; omega), B3.out⟩)
  | true =>
    rw [hf0] at HF0
    cases hf1 : few s1 with
    | false =>
      rw [hf1] at HF1
      have B0 := Lib.hid (Below.refl w.heap.size w)
      go_enter Tryd.func7, Tryd.ntmps7
      go_wp2_with (first
            | (go_at_call 8; refine (awake_any _ (E.below (((B0.out).alloc B0.out.size (.cells #[.int .i64 c0, .slice p0 n0 k0] 24)).alloc (by have := B0.out.size; simp <;> omega) (.cells #[.int .i64 c1, .slice p1 n1 k1] 24)))).mono ?_; rintro e w1 ⟨rfl, b1⟩; have B1 := Lib.hid ((((B0.out).alloc B0.out.size (.cells #[.int .i64 c0, .slice p0 n0 k0] 24)).alloc (by have := B0.out.size; simp <;> omega) (.cells #[.int .i64 c1, .slice p1 n1 k1] 24)).trans (b1.mono (by have := B0.out.size; simp <;> omega))); have xr1 := Lib.hid (((IsRow.made w 24 #[.int .i64 c0, .slice p0 n0 k0]).alloc (.cells #[.int .i64 c1, .slice p1 n1 k1] 24)).call b1); have xs1 := Lib.hid ((IsRow.made (w.alloc (.cells #[.int .i64 c0, .slice p0 n0 k0] 24)) 24 #[.int .i64 c1, .slice p1 n1 k1]).call b1); have xrc0 : w1.cell? ⟨w.heap.size, 0, none⟩ = some (.int .i64 c0) := xr1.out.cell 0; have xrc1 : w1.cell? ⟨w.heap.size, 1, none⟩ = some (.slice p0 n0 k0) := xr1.out.cell 1; have xrlt : w.heap.size < w1.heap.size := xr1.out.lt; have xsc0 : w1.cell? ⟨w.heap.size + 1, 0, none⟩ = some (.int .i64 c1) := (by have h := xs1.out.cell 0; simp at h; exact h); have xsc1 : w1.cell? ⟨w.heap.size + 1, 1, none⟩ = some (.slice p1 n1 k1) := (by have h := xs1.out.cell 1; simp at h; exact h); have xslt : w.heap.size + 1 < w1.heap.size := (by have h := xs1.out.lt; simp at h; exact h))
            | (go_at_call 9; refine (HF0.out _ (Y0.out.call (B1.out))).mono ?_; rintro e w2 ⟨rfl, b2⟩; have B2 := Lib.hid (B1.out.trans (b2.mono B1.out.size)); have xr2 := Lib.hid (xr1.out.call b2); have xs2 := Lib.hid (xs1.out.call b2); clear xrc0 xrc1 xrlt xsc0 xsc1 xslt; have xrc0 : w2.cell? ⟨w.heap.size, 0, none⟩ = some (.int .i64 c0) := xr2.out.cell 0; have xrc1 : w2.cell? ⟨w.heap.size, 1, none⟩ = some (.slice p0 n0 k0) := xr2.out.cell 1; have xrlt : w.heap.size < w2.heap.size := xr2.out.lt; have xsc0 : w2.cell? ⟨w.heap.size + 1, 0, none⟩ = some (.int .i64 c1) := (by have h := xs2.out.cell 0; simp at h; exact h); have xsc1 : w2.cell? ⟨w.heap.size + 1, 1, none⟩ = some (.slice p1 n1 k1) := (by have h := xs2.out.cell 1; simp at h; exact h); have xslt : w.heap.size + 1 < w2.heap.size := (by have h := xs2.out.lt; simp at h; exact h); clear HF0; clear xr1 xs1)
            | (go_at_call 9; refine (HF1.out _ (Y1.out.call (B2.out))).mono ?_; rintro e w3 ⟨rfl, b3⟩; have B3 := Lib.hid (B2.out.trans (b3.mono B2.out.size)); have xr3 := Lib.hid (xr2.out.call b3); have xs3 := Lib.hid (xs2.out.call b3); clear xrc0 xrc1 xrlt xsc0 xsc1 xslt; clear HF1; clear xr2 xs2))
      all_goals (go_ret; exact ⟨by first | rfl | (simp; done) | (simp; omega), B3.out⟩)
    | true =>
      rw [hf1] at HF1
      obtain ⟨hl0, hs0⟩ := HFP0.out hf0
      obtain ⟨hl1, hs1⟩ := HFP1.out hf1
      clear hs0 hs1 hf0 hf1
      have HM0 := Lib.hid (fun W E Y => may_any c0 l0 h0 (.slice p0 n0 k0) s0 z0 W E Y)
      have HM1 := Lib.hid (fun W E Y => may_any c1 l1 h1 (.slice p1 n1 k1) s1 z1 W E Y)
      cases hm0 : mayB c0 s0 with
      | false =>
        rw [hm0] at HM0
        have B0 := Lib.hid (Below.refl w.heap.size w)
        go_enter Tryd.func7, Tryd.ntmps7
        go_wp2_with (first
              | (go_at_call 8; refine (awake_any _ (E.below (((B0.out).alloc B0.out.size (.cells #[.int .i64 c0, .slice p0 n0 k0] 24)).alloc (by have := B0.out.size; simp <;> omega) (.cells #[.int .i64 c1, .slice p1 n1 k1] 24)))).mono ?_; rintro e w1 ⟨rfl, b1⟩; have B1 := Lib.hid ((((B0.out).alloc B0.out.size (.cells #[.int .i64 c0, .slice p0 n0 k0] 24)).alloc (by have := B0.out.size; simp <;> omega) (.cells #[.int .i64 c1, .slice p1 n1 k1] 24)).trans (b1.mono (by have := B0.out.size; simp <;> omega))); have xr1 := Lib.hid (((IsRow.made w 24 #[.int .i64 c0, .slice p0 n0 k0]).alloc (.cells #[.int .i64 c1, .slice p1 n1 k1] 24)).call b1); have xs1 := Lib.hid ((IsRow.made (w.alloc (.cells #[.int .i64 c0, .slice p0 n0 k0] 24)) 24 #[.int .i64 c1, .slice p1 n1 k1]).call b1); have xrc0 : w1.cell? ⟨w.heap.size, 0, none⟩ = some (.int .i64 c0) := xr1.out.cell 0; have xrc1 : w1.cell? ⟨w.heap.size, 1, none⟩ = some (.slice p0 n0 k0) := xr1.out.cell 1; have xrlt : w.heap.size < w1.heap.size := xr1.out.lt; have xsc0 : w1.cell? ⟨w.heap.size + 1, 0, none⟩ = some (.int .i64 c1) := (by have h := xs1.out.cell 0; simp at h; exact h); have xsc1 : w1.cell? ⟨w.heap.size + 1, 1, none⟩ = some (.slice p1 n1 k1) := (by have h := xs1.out.cell 1; simp at h; exact h); have xslt : w.heap.size + 1 < w1.heap.size := (by have h := xs1.out.lt; simp at h; exact h))
              | (go_at_call 9; refine (HF0.out _ (Y0.out.call (B1.out))).mono ?_; rintro e w2 ⟨rfl, b2⟩; have B2 := Lib.hid (B1.out.trans (b2.mono B1.out.size)); have xr2 := Lib.hid (xr1.out.call b2); have xs2 := Lib.hid (xs1.out.call b2); clear xrc0 xrc1 xrlt xsc0 xsc1 xslt; have xrc0 : w2.cell? ⟨w.heap.size, 0, none⟩ = some (.int .i64 c0) := xr2.out.cell 0; have xrc1 : w2.cell? ⟨w.heap.size, 1, none⟩ = some (.slice p0 n0 k0) := xr2.out.cell 1; have xrlt : w.heap.size < w2.heap.size := xr2.out.lt; have xsc0 : w2.cell? ⟨w.heap.size + 1, 0, none⟩ = some (.int .i64 c1) := (by have h := xs2.out.cell 0; simp at h; exact h); have xsc1 : w2.cell? ⟨w.heap.size + 1, 1, none⟩ = some (.slice p1 n1 k1) := (by have h := xs2.out.cell 1; simp at h; exact h); have xslt : w.heap.size + 1 < w2.heap.size := (by have h := xs2.out.lt; simp at h; exact h); clear HF0; clear xr1 xs1)
              | (go_at_call 9; refine (HF1.out _ (Y1.out.call (B2.out))).mono ?_; rintro e w3 ⟨rfl, b3⟩; have B3 := Lib.hid (B2.out.trans (b3.mono B2.out.size)); have xr3 := Lib.hid (xr2.out.call b3); have xs3 := Lib.hid (xs2.out.call b3); clear xrc0 xrc1 xrlt xsc0 xsc1 xslt; have xrc0 : w3.cell? ⟨w.heap.size, 0, none⟩ = some (.int .i64 c0) := xr3.out.cell 0; have xrc1 : w3.cell? ⟨w.heap.size, 1, none⟩ = some (.slice p0 n0 k0) := xr3.out.cell 1; have xrlt : w.heap.size < w3.heap.size := xr3.out.lt; have xsc0 : w3.cell? ⟨w.heap.size + 1, 0, none⟩ = some (.int .i64 c1) := (by have h := xs3.out.cell 0; simp at h; exact h); have xsc1 : w3.cell? ⟨w.heap.size + 1, 1, none⟩ = some (.slice p1 n1 k1) := (by have h := xs3.out.cell 1; simp at h; exact h); have xslt : w.heap.size + 1 < w3.heap.size := (by have h := xs3.out.lt; simp at h; exact h); clear HF1; clear xr2 xs2)
              | (go_at_call 15; refine (HM0.out _ (E.below (B3.out)) (Y0.out.call (B3.out))).mono ?_; rintro e w4 ⟨rfl, b4⟩; have B4 := Lib.hid (B3.out.trans (b4.mono B3.out.size)); have xr4 := Lib.hid (xr3.out.call b4); have xs4 := Lib.hid (xs3.out.call b4); clear xrc0 xrc1 xrlt xsc0 xsc1 xslt; have xrc0 : w4.cell? ⟨w.heap.size, 0, none⟩ = some (.int .i64 c0) := xr4.out.cell 0; have xrc1 : w4.cell? ⟨w.heap.size, 1, none⟩ = some (.slice p0 n0 k0) := xr4.out.cell 1; have xrlt : w.heap.size < w4.heap.size := xr4.out.lt; have xsc0 : w4.cell? ⟨w.heap.size + 1, 0, none⟩ = some (.int .i64 c1) := (by have h := xs4.out.cell 0; simp at h; exact h); have xsc1 : w4.cell? ⟨w.heap.size + 1, 1, none⟩ = some (.slice p1 n1 k1) := (by have h := xs4.out.cell 1; simp at h; exact h); have xslt : w.heap.size + 1 < w4.heap.size := (by have h := xs4.out.lt; simp at h; exact h); clear xr3 xs3))
        all_goals (go_ret; exact ⟨by first | rfl | (simp; done) | (simp; omega), B4.out⟩)
      | true =>
        rw [hm0] at HM0
        cases hm1 : mayB c1 s1 with
        | false =>
          rw [hm1] at HM1
          have B0 := Lib.hid (Below.refl w.heap.size w)
          go_enter Tryd.func7, Tryd.ntmps7
          go_wp2_with (first
                | (go_at_call 8; refine (awake_any _ (E.below (((B0.out).alloc B0.out.size (.cells #[.int .i64 c0, .slice p0 n0 k0] 24)).alloc (by have := B0.out.size; simp <;> omega) (.cells #[.int .i64 c1, .slice p1 n1 k1] 24)))).mono ?_; rintro e w1 ⟨rfl, b1⟩; have B1 := Lib.hid ((((B0.out).alloc B0.out.size (.cells #[.int .i64 c0, .slice p0 n0 k0] 24)).alloc (by have := B0.out.size; simp <;> omega) (.cells #[.int .i64 c1, .slice p1 n1 k1] 24)).trans (b1.mono (by have := B0.out.size; simp <;> omega))); have xr1 := Lib.hid (((IsRow.made w 24 #[.int .i64 c0, .slice p0 n0 k0]).alloc (.cells #[.int .i64 c1, .slice p1 n1 k1] 24)).call b1); have xs1 := Lib.hid ((IsRow.made (w.alloc (.cells #[.int .i64 c0, .slice p0 n0 k0] 24)) 24 #[.int .i64 c1, .slice p1 n1 k1]).call b1); have xrc0 : w1.cell? ⟨w.heap.size, 0, none⟩ = some (.int .i64 c0) := xr1.out.cell 0; have xrc1 : w1.cell? ⟨w.heap.size, 1, none⟩ = some (.slice p0 n0 k0) := xr1.out.cell 1; have xrlt : w.heap.size < w1.heap.size := xr1.out.lt; have xsc0 : w1.cell? ⟨w.heap.size + 1, 0, none⟩ = some (.int .i64 c1) := (by have h := xs1.out.cell 0; simp at h; exact h); have xsc1 : w1.cell? ⟨w.heap.size + 1, 1, none⟩ = some (.slice p1 n1 k1) := (by have h := xs1.out.cell 1; simp at h; exact h); have xslt : w.heap.size + 1 < w1.heap.size := (by have h := xs1.out.lt; simp at h; exact h))
                | (go_at_call 9; refine (HF0.out _ (Y0.out.call (B1.out))).mono ?_; rintro e w2 ⟨rfl, b2⟩; have B2 := Lib.hid (B1.out.trans (b2.mono B1.out.size)); have xr2 := Lib.hid (xr1.out.call b2); have xs2 := Lib.hid (xs1.out.call b2); clear xrc0 xrc1 xrlt xsc0 xsc1 xslt; have xrc0 : w2.cell? ⟨w.heap.size, 0, none⟩ = some (.int .i64 c0) := xr2.out.cell 0; have xrc1 : w2.cell? ⟨w.heap.size, 1, none⟩ = some (.slice p0 n0 k0) := xr2.out.cell 1; have xrlt : w.heap.size < w2.heap.size := xr2.out.lt; have xsc0 : w2.cell? ⟨w.heap.size + 1, 0, none⟩ = some (.int .i64 c1) := (by have h := xs2.out.cell 0; simp at h; exact h); have xsc1 : w2.cell? ⟨w.heap.size + 1, 1, none⟩ = some (.slice p1 n1 k1) := (by have h := xs2.out.cell 1; simp at h; exact h); have xslt : w.heap.size + 1 < w2.heap.size := (by have h := xs2.out.lt; simp at h; exact h); clear HF0; clear xr1 xs1)
                | (go_at_call 9; refine (HF1.out _ (Y1.out.call (B2.out))).mono ?_; rintro e w3 ⟨rfl, b3⟩; have B3 := Lib.hid (B2.out.trans (b3.mono B2.out.size)); have xr3 := Lib.hid (xr2.out.call b3); have xs3 := Lib.hid (xs2.out.call b3); clear xrc0 xrc1 xrlt xsc0 xsc1 xslt; have xrc0 : w3.cell? ⟨w.heap.size, 0, none⟩ = some (.int .i64 c0) := xr3.out.cell 0; have xrc1 : w3.cell? ⟨w.heap.size, 1, none⟩ = some (.slice p0 n0 k0) := xr3.out.cell 1; have xrlt : w.heap.size < w3.heap.size := xr3.out.lt; have xsc0 : w3.cell? ⟨w.heap.size + 1, 0, none⟩ = some (.int .i64 c1) := (by have h := xs3.out.cell 0; simp at h; exact h); have xsc1 : w3.cell? ⟨w.heap.size + 1, 1, none⟩ = some (.slice p1 n1 k1) := (by have h := xs3.out.cell 1; simp at h; exact h); have xslt : w.heap.size + 1 < w3.heap.size := (by have h := xs3.out.lt; simp at h; exact h); clear HF1; clear xr2 xs2)
                | (go_at_call 15; refine (HM0.out _ (E.below (B3.out)) (Y0.out.call (B3.out))).mono ?_; rintro e w4 ⟨rfl, b4⟩; have B4 := Lib.hid (B3.out.trans (b4.mono B3.out.size)); have xr4 := Lib.hid (xr3.out.call b4); have xs4 := Lib.hid (xs3.out.call b4); clear xrc0 xrc1 xrlt xsc0 xsc1 xslt; have xrc0 : w4.cell? ⟨w.heap.size, 0, none⟩ = some (.int .i64 c0) := xr4.out.cell 0; have xrc1 : w4.cell? ⟨w.heap.size, 1, none⟩ = some (.slice p0 n0 k0) := xr4.out.cell 1; have xrlt : w.heap.size < w4.heap.size := xr4.out.lt; have xsc0 : w4.cell? ⟨w.heap.size + 1, 0, none⟩ = some (.int .i64 c1) := (by have h := xs4.out.cell 0; simp at h; exact h); have xsc1 : w4.cell? ⟨w.heap.size + 1, 1, none⟩ = some (.slice p1 n1 k1) := (by have h := xs4.out.cell 1; simp at h; exact h); have xslt : w.heap.size + 1 < w4.heap.size := (by have h := xs4.out.lt; simp at h; exact h); clear HM0; clear xr3 xs3)
                | (go_at_call 15; refine (HM1.out _ (E.below (B4.out)) (Y1.out.call (B4.out))).mono ?_; rintro e w5 ⟨rfl, b5⟩; have B5 := Lib.hid (B4.out.trans (b5.mono B4.out.size)); have xr5 := Lib.hid (xr4.out.call b5); have xs5 := Lib.hid (xs4.out.call b5); clear xrc0 xrc1 xrlt xsc0 xsc1 xslt; have xrc0 : w5.cell? ⟨w.heap.size, 0, none⟩ = some (.int .i64 c0) := xr5.out.cell 0; have xrc1 : w5.cell? ⟨w.heap.size, 1, none⟩ = some (.slice p0 n0 k0) := xr5.out.cell 1; have xrlt : w.heap.size < w5.heap.size := xr5.out.lt; have xsc0 : w5.cell? ⟨w.heap.size + 1, 0, none⟩ = some (.int .i64 c1) := (by have h := xs5.out.cell 0; simp at h; exact h); have xsc1 : w5.cell? ⟨w.heap.size + 1, 1, none⟩ = some (.slice p1 n1 k1) := (by have h := xs5.out.cell 1; simp at h; exact h); have xslt : w.heap.size + 1 < w5.heap.size := (by have h := xs5.out.lt; simp at h; exact h); clear xr4 xs4))
          all_goals (go_ret; exact ⟨by first | rfl | (simp; done) | (simp; omega), B5.out⟩)
        | true =>
          rw [hm1] at HM1
          have M0 := may_parts hm0
          have M1 := may_parts hm1
          have HS := Lib.hid (fun W E Y Y' => same_any c0 c1 (.slice p0 n0 k0) (.slice p1 n1 k1) s0 s1 (by omega) W E Y Y')
          have HP0 := Lib.hid (fun W E Y => print_n c0 l0 h0 (.slice p0 n0 k0) s0 z0 (linesOf c0 s0, true) (by unfold Rp.print; rw [hm0]; rfl) W E Y)
          have HP1 := Lib.hid (fun W E Y => print_n c1 l1 h1 (.slice p1 n1 k1) s1 z1 (linesOf c1 s1, true) (by unfold Rp.print; rw [hm1]; rfl) W E Y)
          have HEQ : Hid (linesOf c0 s0 = linesOf c1 s1 ↔ same c0 s0 c1 s1 = true) := Lib.hid ⟨fun e => decide_eq_true (lines_inj M0 M1 e), fun e => by obtain ⟨rfl, rfl⟩ := of_decide_eq_true e; rfl⟩
          have hx0 : (linesOf c0 s0).length = s0.length := by unfold linesOf; exact lines_len _ _ _
          have hx1 : (linesOf c1 s1).length = s1.length := by unfold linesOf; exact lines_len _ _ _
          have hone := M0.one
          have htwo := M1.one
          clear M0 M1 hm0 hm1
          generalize linesOf c0 s0 = xl at HP0 HEQ hx0
          generalize linesOf c1 s1 = yl at HP1 HEQ hx1
          generalize same c0 s0 c1 s1 = sm at HS HEQ
          have HXL := Lib.hid hx0
          have HYL := Lib.hid hx1
          have hxp : 0 < xl.length := by omega
          have hyp : 0 < yl.length := by omega
          have hxb : xl.length ≤ 30 := by omega
          clear hx0 hx1 hone htwo hl0 hl1
          simp only at HP0 HP1
          have B0 := Lib.hid (Below.refl w.heap.size w)
          go_enter Tryd.func7, Tryd.ntmps7
          go_wp2_with (first
                | (go_at_call 8; refine (awake_any _ (E.below (((B0.out).alloc B0.out.size (.cells #[.int .i64 c0, .slice p0 n0 k0] 24)).alloc (by have := B0.out.size; simp <;> omega) (.cells #[.int .i64 c1, .slice p1 n1 k1] 24)))).mono ?_; rintro e w1 ⟨rfl, b1⟩; have B1 := Lib.hid ((((B0.out).alloc B0.out.size (.cells #[.int .i64 c0, .slice p0 n0 k0] 24)).alloc (by have := B0.out.size; simp <;> omega) (.cells #[.int .i64 c1, .slice p1 n1 k1] 24)).trans (b1.mono (by have := B0.out.size; simp <;> omega))); have xr1 := Lib.hid (((IsRow.made w 24 #[.int .i64 c0, .slice p0 n0 k0]).alloc (.cells #[.int .i64 c1, .slice p1 n1 k1] 24)).call b1); have xs1 := Lib.hid ((IsRow.made (w.alloc (.cells #[.int .i64 c0, .slice p0 n0 k0] 24)) 24 #[.int .i64 c1, .slice p1 n1 k1]).call b1); have xrc0 : w1.cell? ⟨w.heap.size, 0, none⟩ = some (.int .i64 c0) := xr1.out.cell 0; have xrc1 : w1.cell? ⟨w.heap.size, 1, none⟩ = some (.slice p0 n0 k0) := xr1.out.cell 1; have xrlt : w.heap.size < w1.heap.size := xr1.out.lt; have xsc0 : w1.cell? ⟨w.heap.size + 1, 0, none⟩ = some (.int .i64 c1) := (by have h := xs1.out.cell 0; simp at h; exact h); have xsc1 : w1.cell? ⟨w.heap.size + 1, 1, none⟩ = some (.slice p1 n1 k1) := (by have h := xs1.out.cell 1; simp at h; exact h); have xslt : w.heap.size + 1 < w1.heap.size := (by have h := xs1.out.lt; simp at h; exact h))
                | (go_at_call 9; refine (HF0.out _ (Y0.out.call (B1.out))).mono ?_; rintro e w2 ⟨rfl, b2⟩; have B2 := Lib.hid (B1.out.trans (b2.mono B1.out.size)); have xr2 := Lib.hid (xr1.out.call b2); have xs2 := Lib.hid (xs1.out.call b2); clear xrc0 xrc1 xrlt xsc0 xsc1 xslt; have xrc0 : w2.cell? ⟨w.heap.size, 0, none⟩ = some (.int .i64 c0) := xr2.out.cell 0; have xrc1 : w2.cell? ⟨w.heap.size, 1, none⟩ = some (.slice p0 n0 k0) := xr2.out.cell 1; have xrlt : w.heap.size < w2.heap.size := xr2.out.lt; have xsc0 : w2.cell? ⟨w.heap.size + 1, 0, none⟩ = some (.int .i64 c1) := (by have h := xs2.out.cell 0; simp at h; exact h); have xsc1 : w2.cell? ⟨w.heap.size + 1, 1, none⟩ = some (.slice p1 n1 k1) := (by have h := xs2.out.cell 1; simp at h; exact h); have xslt : w.heap.size + 1 < w2.heap.size := (by have h := xs2.out.lt; simp at h; exact h); clear HF0; clear xr1 xs1)
                | (go_at_call 9; refine (HF1.out _ (Y1.out.call (B2.out))).mono ?_; rintro e w3 ⟨rfl, b3⟩; have B3 := Lib.hid (B2.out.trans (b3.mono B2.out.size)); have xr3 := Lib.hid (xr2.out.call b3); have xs3 := Lib.hid (xs2.out.call b3); clear xrc0 xrc1 xrlt xsc0 xsc1 xslt; have xrc0 : w3.cell? ⟨w.heap.size, 0, none⟩ = some (.int .i64 c0) := xr3.out.cell 0; have xrc1 : w3.cell? ⟨w.heap.size, 1, none⟩ = some (.slice p0 n0 k0) := xr3.out.cell 1; have xrlt : w.heap.size < w3.heap.size := xr3.out.lt; have xsc0 : w3.cell? ⟨w.heap.size + 1, 0, none⟩ = some (.int .i64 c1) := (by have h := xs3.out.cell 0; simp at h; exact h); have xsc1 : w3.cell? ⟨w.heap.size + 1, 1, none⟩ = some (.slice p1 n1 k1) := (by have h := xs3.out.cell 1; simp at h; exact h); have xslt : w.heap.size + 1 < w3.heap.size := (by have h := xs3.out.lt; simp at h; exact h); clear HF1; clear xr2 xs2)
                | (go_at_call 15; refine (HM0.out _ (E.below (B3.out)) (Y0.out.call (B3.out))).mono ?_; rintro e w4 ⟨rfl, b4⟩; have B4 := Lib.hid (B3.out.trans (b4.mono B3.out.size)); have xr4 := Lib.hid (xr3.out.call b4); have xs4 := Lib.hid (xs3.out.call b4); clear xrc0 xrc1 xrlt xsc0 xsc1 xslt; have xrc0 : w4.cell? ⟨w.heap.size, 0, none⟩ = some (.int .i64 c0) := xr4.out.cell 0; have xrc1 : w4.cell? ⟨w.heap.size, 1, none⟩ = some (.slice p0 n0 k0) := xr4.out.cell 1; have xrlt : w.heap.size < w4.heap.size := xr4.out.lt; have xsc0 : w4.cell? ⟨w.heap.size + 1, 0, none⟩ = some (.int .i64 c1) := (by have h := xs4.out.cell 0; simp at h; exact h); have xsc1 : w4.cell? ⟨w.heap.size + 1, 1, none⟩ = some (.slice p1 n1 k1) := (by have h := xs4.out.cell 1; simp at h; exact h); have xslt : w.heap.size + 1 < w4.heap.size := (by have h := xs4.out.lt; simp at h; exact h); clear HM0; clear xr3 xs3)
                | (go_at_call 15; refine (HM1.out _ (E.below (B4.out)) (Y1.out.call (B4.out))).mono ?_; rintro e w5 ⟨rfl, b5⟩; have B5 := Lib.hid (B4.out.trans (b5.mono B4.out.size)); have xr5 := Lib.hid (xr4.out.call b5); have xs5 := Lib.hid (xs4.out.call b5); clear xrc0 xrc1 xrlt xsc0 xsc1 xslt; have xrc0 : w5.cell? ⟨w.heap.size, 0, none⟩ = some (.int .i64 c0) := xr5.out.cell 0; have xrc1 : w5.cell? ⟨w.heap.size, 1, none⟩ = some (.slice p0 n0 k0) := xr5.out.cell 1; have xrlt : w.heap.size < w5.heap.size := xr5.out.lt; have xsc0 : w5.cell? ⟨w.heap.size + 1, 0, none⟩ = some (.int .i64 c1) := (by have h := xs5.out.cell 0; simp at h; exact h); have xsc1 : w5.cell? ⟨w.heap.size + 1, 1, none⟩ = some (.slice p1 n1 k1) := (by have h := xs5.out.cell 1; simp at h; exact h); have xslt : w.heap.size + 1 < w5.heap.size := (by have h := xs5.out.lt; simp at h; exact h); clear xr4 xs4)
                | (go_at_call 11; refine (HP0.out _ (E.below (B5.out)) (Y0.out.call (B5.out))).mono ?_; rintro e w6 ⟨⟨px, nx, kx, rfl, hnx, ox⟩, b6⟩; have B6 := Lib.hid (B5.out.trans (b6.mono B5.out.size)); have xr6 := Lib.hid (xr5.out.call b6); have xs6 := Lib.hid (xs5.out.call b6); clear xrc0 xrc1 xrlt xsc0 xsc1 xslt; have xrc0 : w6.cell? ⟨w.heap.size, 0, none⟩ = some (.int .i64 c0) := xr6.out.cell 0; have xrc1 : w6.cell? ⟨w.heap.size, 1, none⟩ = some (.slice p0 n0 k0) := xr6.out.cell 1; have xrlt : w.heap.size < w6.heap.size := xr6.out.lt; have xsc0 : w6.cell? ⟨w.heap.size + 1, 0, none⟩ = some (.int .i64 c1) := (by have h := xs6.out.cell 0; simp at h; exact h); have xsc1 : w6.cell? ⟨w.heap.size + 1, 1, none⟩ = some (.slice p1 n1 k1) := (by have h := xs6.out.cell 1; simp at h; exact h); have xslt : w.heap.size + 1 < w6.heap.size := (by have h := xs6.out.lt; simp at h; exact h); clear HP0; obtain ⟨bx, rfl, _, hbx, hcx⟩ := ox.some hxp; have NX := Lib.hid hnx; have CX := Lib.hid (And.intro hbx hcx); clear ox hnx hbx hcx; clear xr5 xs5)
                | (go_at_call 11; refine (HP1.out _ (E.below (B6.out)) (Y1.out.call (B6.out))).mono ?_; rintro e w7 ⟨⟨py, ny, ky, rfl, hny, oy⟩, b7⟩; have B7 := Lib.hid (B6.out.trans (b7.mono B6.out.size)); have xr7 := Lib.hid (xr6.out.call b7); have xs7 := Lib.hid (xs6.out.call b7); clear xrc0 xrc1 xrlt xsc0 xsc1 xslt; have xrc0 : w7.cell? ⟨w.heap.size, 0, none⟩ = some (.int .i64 c0) := xr7.out.cell 0; have xrc1 : w7.cell? ⟨w.heap.size, 1, none⟩ = some (.slice p0 n0 k0) := xr7.out.cell 1; have xrlt : w.heap.size < w7.heap.size := xr7.out.lt; have xsc0 : w7.cell? ⟨w.heap.size + 1, 0, none⟩ = some (.int .i64 c1) := (by have h := xs7.out.cell 0; simp at h; exact h); have xsc1 : w7.cell? ⟨w.heap.size + 1, 1, none⟩ = some (.slice p1 n1 k1) := (by have h := xs7.out.cell 1; simp at h; exact h); have xslt : w.heap.size + 1 < w7.heap.size := (by have h := xs7.out.lt; simp at h; exact h); clear HP1; obtain ⟨by', rfl, _, hby, hcy⟩ := oy.some hyp; have NY := Lib.hid hny; have CY := Lib.hid (And.intro hby hcy); have CX7 : Hid (bx < w7.heap.size ∧ ∀ i (h : i < xl.length), w7.cell? ⟨bx, i, none⟩ = some (strV xl[i])) := Lib.hid ⟨Nat.lt_of_lt_of_le CX.out.1 b7.size, fun i h => (b7.cell (p := ⟨bx, i, none⟩) CX.out.1).trans (CX.out.2 i h)⟩; clear oy hny hby hcy CX; clear xr6 xs6))
          have hnn : ∃ f0 : Bool, ((nx : Int) == (ny : Int)) = f0 ∧ (f0 = true → xl.length = yl.length) ∧ (f0 = false → xl ≠ yl) := by
            refine ⟨_, rfl, fun h => ?_, fun h e => ?_⟩
            · have h1 := NX.out; have h2 := NY.out; rw [beq_iff_eq] at h; omega
            · have h1 := NX.out; have h2 := NY.out; rw [beq_eq_false_iff_ne] at h; exact h (by rw [h1, h2, e])
          obtain ⟨f0, hf0, hf1, hf2⟩ := hnn
          have HF0 := Lib.hid hf1
          have HF1 := Lib.hid hf2
          clear hf1 hf2
          go_loopw [12, 13] (fun x12 x13 wr => ∃ (k : Nat) (f : Bool), x12 = .bool f ∧ x13 = .int .i64 (k : Int) ∧ k ≤ nx ∧ Hid (f = true → xl.length = yl.length ∧ ∀ i (h : i < xl.length) (h' : i < yl.length), i < k → xl[i] = yl[i]) ∧ Hid (f = false → xl ≠ yl) ∧ Hid (Below w7.heap.size w7 wr)) (fun _ i _ => nx - (intOf i).toNat)
          case atStart => exact ⟨0, f0, by first | rfl | rw [hf0], rfl, Nat.zero_le _, Lib.hid (fun h => ⟨HF0.out h, fun _ _ _ h => absurd h (by omega)⟩), HF1, Lib.hid (Below.refl _ _)⟩
          case round =>
            obtain ⟨k, f, rfl, rfl, hk, HT, HFF, HB⟩ := hrel
            have XR := (xr7.out.call HB.out)
            have XS := (xs7.out.call HB.out)
            have a0 := XR.cell 0
            have a1 := XR.cell 1
            have b0' : wr.cell? ⟨w.heap.size + 1, 0, none⟩ = some (.int .i64 c1) := by have h := XS.cell 0; rw [World.size_alloc] at h; exact h
            have b1' : wr.cell? ⟨w.heap.size + 1, 1, none⟩ = some (.slice p1 n1 k1) := by have h := XS.cell 1; rw [World.size_alloc] at h; exact h
            have ltr := XR.lt
            have lts : w.heap.size + 1 < wr.heap.size := by have h := XS.lt; rw [World.size_alloc] at h; exact h
            have g9 : ((nx : Int) == (n0 : Int)) = true := by have h1 := NX.out; have h2 := HXL.out; have h3 := HN0.out; rw [beq_iff_eq]; omega
            by_cases hlt : k < nx
            · have hji : (k : Int) < (nx : Int) := by omega
              have hkm : k < 100 := by have := NX.out; omega
              cases f with
              | false =>
                have HV : Hid (sm = false) := Lib.hid (by cases hsm : sm with | false => rfl | true => exact absurd (HEQ.out.2 hsm) (HFF.out rfl))
                have hsv := HV.out
                subst hsv
                clear HT HFF HEQ
                go_wp2_with (go_at_call 16; refine (HS.out _ (E.below (B7.out.trans (HB.out.mono B7.out.size))) (Y0.out.call (B7.out.trans (HB.out.mono B7.out.size))) (Y1.out.call (B7.out.trans (HB.out.mono B7.out.size)))).mono ?_; rintro e w8 ⟨rfl, b8⟩; have B8 := Lib.hid ((B7.out.trans (HB.out.mono B7.out.size)).trans (b8.mono (Nat.le_trans B7.out.size HB.out.size))))
                go_ret
                exact ⟨by first | rfl | (simp; done), B8.out⟩
              | true =>
                have hxl : k < xl.length := by have := NX.out; omega
                have hyl : k < yl.length := by have := (HT.out rfl).1; omega
                have hjy : (k : Int) < (ny : Int) := by have := NY.out; omega
                have e1 : wr.cell? ⟨bx, k, none⟩ = some (strV xl[k]) := (HB.out.cell (p := ⟨bx, k, none⟩) CX7.out.1).trans (CX7.out.2 k hxl)
                have e2 : wr.cell? ⟨by', k, none⟩ = some (strV yl[k]) := (HB.out.cell (p := ⟨by', k, none⟩) CY.out.1).trans (CY.out.2 k hyl)
                have HN : Hid (xl[k] = yl[k] → xl.length = yl.length ∧ ∀ i (h : i < xl.length) (h' : i < yl.length), i < k + 1 → xl[i] = yl[i]) := Lib.hid (fun e => ⟨(HT.out rfl).1, fun i h h' hi => by
                  by_cases hik : i < k
                  · exact (HT.out rfl).2 i h h' hik
                  · obtain rfl : i = k := by omega
                    exact e⟩)
                have HX : Hid (xl[k] ≠ yl[k] → xl ≠ yl) := Lib.hid (fun h e => h (by subst e; rfl))
                clear HT HFF
                generalize xl[k] = t at *
                generalize yl[k] = t' at *
                clear hxl hyl
                cases he : (t == t') with
                | true =>
                  have HV := Lib.hid (HN.out (beq_iff_eq.1 he))
                  clear HN HX
                  go_wp2_with fail
                  go_quiet (fail)
                  go_wp2_with fail
                  go_roundw
                  case rel => exact ⟨k + 1, true, by first | rfl | simp, by go_num, by omega, Lib.hid (fun _ => HV.out), Lib.hid (fun h => by cases h), Lib.hid (HB.out.trans ⟨rfl, rfl, rfl, Nat.le_refl _, fun _ _ => rfl⟩)⟩
                  case measure => simp [intOf]; omega
                | false =>
                  have HV := Lib.hid (HX.out (beq_eq_false_iff_ne.1 he))
                  clear HN HX
                  go_wp2_with fail
                  go_quiet (fail)
                  go_wp2_with fail
                  go_roundw
                  case rel => exact ⟨k + 1, false, by first | rfl | simp, by go_num, by omega, Lib.hid (fun h => by cases h), Lib.hid (fun _ => HV.out), Lib.hid (HB.out.trans ⟨rfl, rfl, rfl, Nat.le_refl _, fun _ _ => rfl⟩)⟩
                  case measure => simp [intOf]; omega
            · have hji : ¬ (k : Int) < (nx : Int) := by omega
              have HV : Hid (sm = f) := Lib.hid (by
                cases f with
                | true => exact HEQ.out.1 (List.ext_getElem (HT.out rfl).1 fun i h h' => (HT.out rfl).2 i h h' (by have := NX.out; omega))
                | false => cases hsm : sm with | false => rfl | true => exact absurd (HEQ.out.2 hsm) (HFF.out rfl))
              have hsv := HV.out
              subst hsv
              clear HT HFF HEQ HV
              go_wp2_with (go_at_call 16; refine (HS.out _ (E.below (B7.out.trans (HB.out.mono B7.out.size))) (Y0.out.call (B7.out.trans (HB.out.mono B7.out.size))) (Y1.out.call (B7.out.trans (HB.out.mono B7.out.size)))).mono ?_; rintro e w8 ⟨rfl, b8⟩; have B8 := Lib.hid ((B7.out.trans (HB.out.mono B7.out.size)).trans (b8.mono (Nat.le_trans B7.out.size HB.out.size))))
              go_ret
              exact ⟨by first | rfl | (simp; done), B8.out⟩

set_option maxRecDepth 100000 in
theorem lifted (os : Os) (started : os.Started) (H : Type) (enc : TypeId × Value → H) :
    ReturnsInHanded {} Tryd.checked os 7 .any (fun w args => (Rows.replyOnlySpec.pre enc Tryd.prog Tryd.f7 [] false w args ∧ laidMetH Tryd.prog laidHere w) ∧ sizedMet enc Tryd.prog Tryd.f7 (OpenSpec.ofChange Rows.replyOnlySpec) false w args)
      (Rows.replyOnlySpec.post enc Tryd.prog Tryd.f7 false true false false) := by
  refine handed started (by kernel_rfl) Tryd.func7 #[.agg #[.int .i64 0, .slice none 0 0], .agg #[.int .i64 0, .slice none 0 0]] (by kernel_rfl) (by kernel_rfl) (by kernel_rfl) (World.shaped_of_ZipB (by kernel_rfl) (by kernel_rfl))
    (by unfold laidHere; rw [MakeChecks.laidMetH_plain _ _ _ (by kernel_rfl)]; exact laidMet_laidAll _ (by kernel_rfl) (by kernel_rfl)) ?_
  intro W base args ds gs before hval0 hW E
  have hval : ∀ (j : Nat) t v, Tryd.f7.params[j]? = some t → args[j]? = some v → Value.okWide Tryd.prog W .any base t v := hval0
  have hW' := hW
  obtain ⟨p, q, hA0, hV, rfl, _, _⟩ := hW
  have hA : DataW.TrodAll enc Tryd.prog W 0 (fun _ => true) true Tryd.f7.params.toList args.toList ds p := hA0
  rw [Tryd.params7] at hA hval
  obtain ⟨v0, vs0, d0, ds0, p0, q0, hargs, rfl, rfl, r0, t0⟩ := trodAll_cons hA
  obtain ⟨v1, vs1, d1, ds1, p1, q1, rfl, rfl, rfl, r1, t1⟩ := trodAll_cons t0
  obtain ⟨rfl, rfl, rfl⟩ := trodAll_nil t1
  obtain rfl : args = #[v0, v1] := by cases args; simp_all
  obtain ⟨rfl, rfl⟩ := trodVars_none hV
  obtain ⟨c0, u0, s0, rfl, w0, y0, z0, k0⟩ := open_reply (hval 0 24 v0 rfl rfl) r0
  obtain ⟨c1, u1, s1, rfl, w1, y1, z1, k1⟩ := open_reply (hval 1 24 v1 rfl rfl) r1
  clear hA0 hval0
  simp only [List.append_nil] at hW'
  refine (walk c0 u0 s0 (int_wf w0).1 (int_wf w0).2 (fun s hs => by have := z0 s hs; unfold maxLen at this; exact this) c1 u1 s1 (int_wf w1).1 (int_wf w1).2 (fun s hs => by have := z1 s hs; unfold maxLen at this; exact this) W y0 y1 E).mono fun e W' ⟨he, hb⟩ => ?_
  subst he
  obtain ⟨pa0, t0'⟩ := k0 W' hb
  obtain ⟨pa1, t1'⟩ := k1 W' hb
  exact ⟨_, rfl, told hW' (fun _ _ _ => trodAll_cons_mk (shut_bool Tryd.underlying4 _) trodAll_mk0) (trodAll_cons_mk (t0') (trodAll_cons_mk (t1') trodAll_mk0)) (fun _ => rfl) hb⟩

theorem over : Rows.ReplyOnlySaid :=
  OpenClaim.holds_of_wide 7 Tryd.f7 rfl rfl rfl rfl rfl rfl rfl ⟨rfl, rfl, rfl, rfl, rfl⟩ rfl rfl rfl rfl rfl (by kernel_rfl) Tryd.func7 (by kernel_rfl)
    (of_decide_eq_true (by kernel_rfl)) (by unfold Func.isWrapper; first | (rw [if_pos (by decide +kernel)]; kernel_rfl) | (rw [if_neg (by decide +kernel)]; exact ⟨rfl, rfl⟩))
    (fun os started H enc _ => lifted os started H enc)

theorem proved : Rows.ReplyOnlyCardSaid :=
  Claim7.holds_tied_plain_at .later [] Rows.replyOnlyCard.laidKinds true Rows.replyOnlyCard.stood.harness Rows.replyOnlyCard.stood.looks
    over (fun _ h => by cases h) (by kernel_rfl) (fun _ h => by cases h) replyOnly_row_tie rfl ⟨rfl, rfl⟩ (by kernel_rfl) rfl
    (fun f fn hf hfn => by
      obtain rfl : f = 7 := Option.some.inj ((show Tryd.prog.funcNamed "wharfinger/wharfingerlaw09.ReplyOnly" = some 7 by kernel_rfl).symm.trans hf) |>.symm
      obtain rfl : fn = Tryd.f7 := (Option.some.inj (Tryd.func7.symm.trans hfn)).symm
      exact ⟨by kernel_rfl, fun j t ht => by
        rw [Tryd.params7] at ht
        have hm : t ∈ [24, 24] := by simpa using Array.mem_of_getElem? ht
        have hall : ([24, 24].all fun u => !Tryd.prog.wantsStandIn u) = true := by kernel_rfl
        exact (show Tryd.prog.wantsStandIn t = false by simpa using List.all_eq_true.1 hall t hm)⟩)
    (by kernel_rfl)
#print axioms proved
end Go.Proofs.YtbojjbnmjhblfaaDoor.replyOnly
