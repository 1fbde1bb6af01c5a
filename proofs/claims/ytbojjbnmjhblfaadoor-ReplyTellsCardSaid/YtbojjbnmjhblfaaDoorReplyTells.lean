/- Proved: for every two replies the law ReplyTells of layer 9 answers true. Conditions: none beyond the row's own (the library's variables start as the program's text lays them: the card ties them). -/
import Derived.Test.YtbojjbnmjhblfaaDoorReplyAwake
import Derived.BigQuiet
import Derived.Deep.QuietTactic

namespace Go.Proofs.YtbojjbnmjhblfaaDoor.replyTells
open Go.Proofs.YtbojjbnmjhblfaaDoor Go.Proofs.YtbojjbnmjhblfaaDoor.Rp Go.Proofs.YtbojjbnmjhblfaaDoor.Cm Go.Proofs.YtbojjbnmjhblfaaDoor.Quad
open Go.ChangeShapes Go.WideShapes Go.ChangeAt Go.RowKit Go.Sort Go.ChangeMaps

set_option linter.unusedVariables false in
set_option maxHeartbeats 2000000 in
set_option maxRecDepth 100000 in
theorem walk (c0 : Int) (u0 : Value) (s0 : List (List UInt8)) (l0 : -9223372036854775808 ≤ c0) (h0 : c0 ≤ 9223372036854775807) (z0 : ∀ s ∈ s0, s.length ≤ 9223372036854775807) (c1 : Int) (u1 : Value) (s1 : List (List UInt8)) (l1 : -9223372036854775808 ≤ c1) (h1 : c1 ≤ 9223372036854775807) (z1 : ∀ s ∈ s1, s.length ≤ 9223372036854775807) (w : World) (y0 : StrsIs w u0 s0) (y1 : StrsIs w u1 s1) (E : Env w) :
    Calls Tryd.prog 3 #[replyV c0 u0, replyV c1 u1] w fun e w' => e = .returned (.bool true) ∧ Below w.heap.size w w' := by
  have Y0 := Lib.hid y0.texts
  obtain ⟨p0, n0, k0, rfl, hn0⟩ := y0.texts.form3
  have HN0 := Lib.hid hn0
  clear hn0
  have HF0 := Lib.hid (fun W Y => few_below (.slice p0 n0 k0) s0 W Y)
  have HFP0 := Lib.hid (fun h => few_parts (l := s0) h)
  clear y0
  have Y1 := Lib.hid y1.texts
  obtain ⟨p1, n1, k1, rfl, hn1⟩ := y1.texts.form3
  have HN1 := Lib.hid hn1
  clear hn1
  have HF1 := Lib.hid (fun W Y => few_below (.slice p1 n1 k1) s1 W Y)
  have HFP1 := Lib.hid (fun h => few_parts (l := s1) h)
  clear y1
  cases hf0 : few s0 with
  | false =>
    rw [hf0] at HF0
    generalize few s1 = f1 at HF1
    have B0 := Lib.hid (Below.refl w.heap.size w)
    go_enter Tryd.func3, Tryd.ntmps3
    go_wp2_with (first
          | (go_at_call 8; refine (awake_any _ (E.below (((B0.out).alloc B0.out.size (.cells #[.int .i64 c0, .slice p0 n0 k0] 24)).alloc (by have := B0.out.size; simp <;> omega) (.cells #[.int .i64 c1, .slice p1 n1 k1] 24)))).mono ?_; rintro e w1 ⟨rfl, b1⟩; have B1 := Lib.hid ((((B0.out).alloc B0.out.size (.cells #[.int .i64 c0, .slice p0 n0 k0] 24)).alloc (by have := B0.out.size; simp <;> omega) (.cells #[.int .i64 c1, .slice p1 n1 k1] 24)).trans (b1.mono (by have := B0.out.size; simp <;> omega))); have xr1 := Lib.hid (((IsRow.made w 24 #[.int .i64 c0, .slice p0 n0 k0]).alloc (.cells #[.int .i64 c1, .slice p1 n1 k1] 24)).call b1); have xs1 := Lib.hid ((IsRow.made (w.alloc (.cells #[.int .i64 c0, .slice p0 n0 k0] 24)) 24 #[.int .i64 c1, .slice p1 n1 k1]).call b1); have xrc0 : w1.cell? ⟨w.heap.size, 0, none⟩ = some (.int .i64 c0) := xr1.out.cell 0; have xrc1 : w1.cell? ⟨w.heap.size, 1, none⟩ = some (.slice p0 n0 k0) := xr1.out.cell 1; have xrlt : w.heap.size < w1.heap.size := xr1.out.lt; have xsc0 : w1.cell? ⟨w.heap.size + 1, 0, none⟩ = some (.int .i64 c1) := (by have h := xs1.out.cell 0; simp at h; exact h); have xsc1 : w1.cell? ⟨w.heap.size + 1, 1, none⟩ = some (.slice p1 n1 k1) := (by have h := xs1.out.cell 1; simp at h; exact h); have xslt : w.heap.size + 1 < w1.heap.size := (by have h := xs1.out.lt; simp at h; exact h))
          | (go_at_call 9; refine (HF0.out _ (Y0.out.call (B1.out))).mono ?_; rintro e w2 ⟨rfl, b2⟩; have B2 := Lib.hid (B1.out.trans (b2.mono B1.out.size)); have xr2 := Lib.hid (xr1.out.call b2); have xs2 := Lib.hid (xs1.out.call b2); clear xrc0 xrc1 xrlt xsc0 xsc1 xslt; have xrc0 : w2.cell? ⟨w.heap.size, 0, none⟩ = some (.int .i64 c0) := xr2.out.cell 0; have xrc1 : w2.cell? ⟨w.heap.size, 1, none⟩ = some (.slice p0 n0 k0) := xr2.out.cell 1; have xrlt : w.heap.size < w2.heap.size := xr2.out.lt; have xsc0 : w2.cell? ⟨w.heap.size + 1, 0, none⟩ = some (.int .i64 c1) := (by have h := xs2.out.cell 0; simp at h; exact h); have xsc1 : w2.cell? ⟨w.heap.size + 1, 1, none⟩ = some (.slice p1 n1 k1) := (by have h := xs2.out.cell 1; simp at h; exact h); have xslt : w.heap.size + 1 < w2.heap.size := (by have h := xs2.out.lt; simp at h; exact h); clear HF0; clear xr1 xs1)
          | (go_at_call 9; refine (HF1.out _ (Y1.out.call (B2.out))).mono ?_; rintro e w3 ⟨rfl, b3⟩; have B3 := Lib.hid (B2.out.trans (b3.mono B2.out.size)); have xr3 := Lib.hid (xr2.out.call b3); have xs3 := Lib.hid (xs2.out.call b3); clear xrc0 xrc1 xrlt xsc0 xsc1 xslt; clear HF1; clear xr2 xs2))
    all_goals (go_ret; exact ⟨by first | rfl | (simp; done) | (simp; omega), B3.out⟩)
  | true =>
    rw [hf0] at HF0
    cases hf1 : few s1 with
    | false =>
      rw [hf1] at HF1
      have B0 := Lib.hid (Below.refl w.heap.size w)
      go_enter Tryd.func3, Tryd.ntmps3
      go_wp2_with (first
            | (go_at_call 8; refine (awake_any _ (E.below (((B0.out).alloc B0.out.size (.cells #[.int .i64 c0, .slice p0 n0 k0] 24)).alloc (by have := B0.out.size; simp <;> omega) (.cells #[.int .i64 c1, .slice p1 n1 k1] 24)))).mono ?_; rintro e w1 ⟨rfl, b1⟩; have B1 := Lib.hid ((((B0.out).alloc B0.out.size (.cells #[.int .i64 c0, .slice p0 n0 k0] 24)).alloc (by have := B0.out.size; simp <;> omega) (.cells #[.int .i64 c1, .slice p1 n1 k1] 24)).trans (b1.mono (by have := B0.out.size; simp <;> omega))); have xr1 := Lib.hid (((IsRow.made w 24 #[.int .i64 c0, .slice p0 n0 k0]).alloc (.cells #[.int .i64 c1, .slice p1 n1 k1] 24)).call b1); have xs1 := Lib.hid ((IsRow.made (w.alloc (.cells #[.int .i64 c0, .slice p0 n0 k0] 24)) 24 #[.int .i64 c1, .slice p1 n1 k1]).call b1); have xrc0 : w1.cell? ⟨w.heap.size, 0, none⟩ = some (.int .i64 c0) := xr1.out.cell 0; have xrc1 : w1.cell? ⟨w.heap.size, 1, none⟩ = some (.slice p0 n0 k0) := xr1.out.cell 1; have xrlt : w.heap.size < w1.heap.size := xr1.out.lt; have xsc0 : w1.cell? ⟨w.heap.size + 1, 0, none⟩ = some (.int .i64 c1) := (by have h := xs1.out.cell 0; simp at h; exact h); have xsc1 : w1.cell? ⟨w.heap.size + 1, 1, none⟩ = some (.slice p1 n1 k1) := (by have h := xs1.out.cell 1; simp at h; exact h); have xslt : w.heap.size + 1 < w1.heap.size := (by have h := xs1.out.lt; simp at h; exact h))
            | (go_at_call 9; refine (HF0.out _ (Y0.out.call (B1.out))).mono ?_; rintro e w2 ⟨rfl, b2⟩; have B2 := Lib.hid (B1.out.trans (b2.mono B1.out.size)); have xr2 := Lib.hid (xr1.out.call b2); have xs2 := Lib.hid (xs1.out.call b2); clear xrc0 xrc1 xrlt xsc0 xsc1 xslt; have xrc0 : w2.cell? ⟨w.heap.size, 0, none⟩ = some (.int .i64 c0) := xr2.out.cell 0; have xrc1 : w2.cell? ⟨w.heap.size, 1, none⟩ = some (.slice p0 n0 k0) := xr2.out.cell 1; have xrlt : w.heap.size < w2.heap.size := xr2.out.lt; have xsc0 : w2.cell? ⟨w.heap.size + 1, 0, none⟩ = some (.int .i64 c1) := (by have h := xs2.out.cell 0; simp at h; exact h); have xsc1 : w2.cell? ⟨w.heap.size + 1, 1, none⟩ = some (.slice p1 n1 k1) := (by have h := xs2.out.cell 1; simp at h; exact h); have xslt : w.heap.size + 1 < w2.heap.size := (by have h := xs2.out.lt; simp at h; exact h); clear HF0; clear xr1 xs1)
            | (go_at_call 9; refine (HF1.out _ (Y1.out.call (B2.out))).mono ?_; rintro e w3 ⟨rfl, b3⟩; have B3 := Lib.hid (B2.out.trans (b3.mono B2.out.size)); have xr3 := Lib.hid (xr2.out.call b3); have xs3 := Lib.hid (xs2.out.call b3); clear xrc0 xrc1 xrlt xsc0 xsc1 xslt; clear HF1; clear xr2 xs2))
      all_goals (go_ret; exact ⟨by first | rfl | (simp; done) | (simp; omega), B3.out⟩)
    | true =>
      rw [hf1] at HF1
      obtain ⟨hl0, hs0⟩ := HFP0.out hf0
      obtain ⟨hl1, hs1⟩ := HFP1.out hf1
      have HM := Lib.hid (fun W E Y => may_any c0 l0 h0 (.slice p0 n0 k0) s0 z0 W E Y)
      have HMr := Lib.hid (fun W Y => rmay_any c0 l0 h0 (.slice p0 n0 k0) s0 z0 W Y)
      have HP := Lib.hid (fun W E Y => print_n c0 l0 h0 (.slice p0 n0 k0) s0 z0 _ rfl W E Y)
      have HPr := Lib.hid (fun W Y => rprint_at c0 l0 h0 (.slice p0 n0 k0) s0 z0 _ rfl W Y)
      have HS := Lib.hid (fun W E Y Y' => same_any c0 c1 (.slice p0 n0 k0) (.slice p1 n1 k1) s0 s1 (by omega) W E Y Y')
      have HSr := Lib.hid (fun W Y Y' => rsame_any c0 c1 (.slice p0 n0 k0) (.slice p1 n1 k1) s0 s1 (by omega) W Y Y')
      have hpl : (Rp.print c0 s0).1.length ≤ 30 := by unfold Rp.print; split; (unfold linesOf; rw [lines_len]; exact hl0); exact Nat.zero_le _
      have HT : Hid (∀ u u' W, TextsIs W u (Rp.print c0 s0).1 → TextsIs W u' (Rp.print c0 s0).1 → Calls Tryd.prog 13 #[u, u'] W fun e w' => e = .returned (.bool true) ∧ Below W.heap.size W w') := Lib.hid (fun u u' W Y Y' => by
        have h := rtexts_any u u' (Rp.print c0 s0).1 (Rp.print c0 s0).1 (by omega) W Y Y'
        rw [decide_eq_true rfl] at h
        exact h)
      generalize Rp.print c0 s0 = P at HP HPr HT hpl
      obtain ⟨pl, pb⟩ := P
      generalize mayB c0 s0 = m at HM HMr
      generalize same c0 s0 c1 s1 = sm at HS HSr
      simp only at HP HPr HT
      clear hs0 hs1 hpl hl0 hl1 hf0 hf1
      have B0 := Lib.hid (Below.refl w.heap.size w)
      go_enter Tryd.func3, Tryd.ntmps3
      go_wp2_with (first
            | (go_at_call 8; refine (awake_any _ (E.below (((B0.out).alloc B0.out.size (.cells #[.int .i64 c0, .slice p0 n0 k0] 24)).alloc (by have := B0.out.size; simp <;> omega) (.cells #[.int .i64 c1, .slice p1 n1 k1] 24)))).mono ?_; rintro e w1 ⟨rfl, b1⟩; have B1 := Lib.hid ((((B0.out).alloc B0.out.size (.cells #[.int .i64 c0, .slice p0 n0 k0] 24)).alloc (by have := B0.out.size; simp <;> omega) (.cells #[.int .i64 c1, .slice p1 n1 k1] 24)).trans (b1.mono (by have := B0.out.size; simp <;> omega))); have xr1 := Lib.hid (((IsRow.made w 24 #[.int .i64 c0, .slice p0 n0 k0]).alloc (.cells #[.int .i64 c1, .slice p1 n1 k1] 24)).call b1); have xs1 := Lib.hid ((IsRow.made (w.alloc (.cells #[.int .i64 c0, .slice p0 n0 k0] 24)) 24 #[.int .i64 c1, .slice p1 n1 k1]).call b1); have xrc0 : w1.cell? ⟨w.heap.size, 0, none⟩ = some (.int .i64 c0) := xr1.out.cell 0; have xrc1 : w1.cell? ⟨w.heap.size, 1, none⟩ = some (.slice p0 n0 k0) := xr1.out.cell 1; have xrlt : w.heap.size < w1.heap.size := xr1.out.lt; have xsc0 : w1.cell? ⟨w.heap.size + 1, 0, none⟩ = some (.int .i64 c1) := (by have h := xs1.out.cell 0; simp at h; exact h); have xsc1 : w1.cell? ⟨w.heap.size + 1, 1, none⟩ = some (.slice p1 n1 k1) := (by have h := xs1.out.cell 1; simp at h; exact h); have xslt : w.heap.size + 1 < w1.heap.size := (by have h := xs1.out.lt; simp at h; exact h))
            | (go_at_call 9; refine (HF0.out _ (Y0.out.call (B1.out))).mono ?_; rintro e w2 ⟨rfl, b2⟩; have B2 := Lib.hid (B1.out.trans (b2.mono B1.out.size)); have xr2 := Lib.hid (xr1.out.call b2); have xs2 := Lib.hid (xs1.out.call b2); clear xrc0 xrc1 xrlt xsc0 xsc1 xslt; have xrc0 : w2.cell? ⟨w.heap.size, 0, none⟩ = some (.int .i64 c0) := xr2.out.cell 0; have xrc1 : w2.cell? ⟨w.heap.size, 1, none⟩ = some (.slice p0 n0 k0) := xr2.out.cell 1; have xrlt : w.heap.size < w2.heap.size := xr2.out.lt; have xsc0 : w2.cell? ⟨w.heap.size + 1, 0, none⟩ = some (.int .i64 c1) := (by have h := xs2.out.cell 0; simp at h; exact h); have xsc1 : w2.cell? ⟨w.heap.size + 1, 1, none⟩ = some (.slice p1 n1 k1) := (by have h := xs2.out.cell 1; simp at h; exact h); have xslt : w.heap.size + 1 < w2.heap.size := (by have h := xs2.out.lt; simp at h; exact h); clear HF0; clear xr1 xs1)
            | (go_at_call 9; refine (HF1.out _ (Y1.out.call (B2.out))).mono ?_; rintro e w3 ⟨rfl, b3⟩; have B3 := Lib.hid (B2.out.trans (b3.mono B2.out.size)); have xr3 := Lib.hid (xr2.out.call b3); have xs3 := Lib.hid (xs2.out.call b3); clear xrc0 xrc1 xrlt xsc0 xsc1 xslt; have xrc0 : w3.cell? ⟨w.heap.size, 0, none⟩ = some (.int .i64 c0) := xr3.out.cell 0; have xrc1 : w3.cell? ⟨w.heap.size, 1, none⟩ = some (.slice p0 n0 k0) := xr3.out.cell 1; have xrlt : w.heap.size < w3.heap.size := xr3.out.lt; clear HF1; clear xr2 xs2)
            | (go_at_call 10; refine (HMr.out _ (Y0.out.call (B3.out))).mono ?_; rintro e w4 ⟨rfl, b4⟩; have B4 := Lib.hid (B3.out.trans (b4.mono B3.out.size)); have xr4 := Lib.hid (xr3.out.call b4); have xs4 := Lib.hid (xs3.out.call b4); clear xrc0 xrc1 xrlt; have xrc0 : w4.cell? ⟨w.heap.size, 0, none⟩ = some (.int .i64 c0) := xr4.out.cell 0; have xrc1 : w4.cell? ⟨w.heap.size, 1, none⟩ = some (.slice p0 n0 k0) := xr4.out.cell 1; have xrlt : w.heap.size < w4.heap.size := xr4.out.lt; clear xr3 xs3)
            | (go_at_call 11; refine (HP.out _ (E.below (B4.out)) (Y0.out.call (B4.out))).mono ?_; rintro e w5 ⟨⟨pp, pn, pc, rfl, -, ox⟩, b5⟩; have B5 := Lib.hid (B4.out.trans (b5.mono B4.out.size)); have xr5 := Lib.hid (xr4.out.call b5); have xs5 := Lib.hid (xs4.out.call b5); clear xrc0 xrc1 xrlt; have xrc0 : w5.cell? ⟨w.heap.size, 0, none⟩ = some (.int .i64 c0) := xr5.out.cell 0; have xrc1 : w5.cell? ⟨w.heap.size, 1, none⟩ = some (.slice p0 n0 k0) := xr5.out.cell 1; have xrlt : w.heap.size < w5.heap.size := xr5.out.lt; have OX := Lib.hid ox; clear ox; clear xr4 xs4)
            | (go_at_call 12; refine (HPr.out _ (Y0.out.call (B5.out))).mono ?_; rintro e w6 ⟨⟨qp, qn, qc, rfl, -, oy⟩, b6⟩; have B6 := Lib.hid (B5.out.trans (b6.mono B5.out.size)); have xr6 := Lib.hid (xr5.out.call b6); have xs6 := Lib.hid (xs5.out.call b6); clear xrc0 xrc1 xrlt; have xrc0 : w6.cell? ⟨w.heap.size, 0, none⟩ = some (.int .i64 c0) := xr6.out.cell 0; have xrc1 : w6.cell? ⟨w.heap.size, 1, none⟩ = some (.slice p0 n0 k0) := xr6.out.cell 1; have xrlt : w.heap.size < w6.heap.size := xr6.out.lt; have xsc0 : w6.cell? ⟨w.heap.size + 1, 0, none⟩ = some (.int .i64 c1) := (by have h := xs6.out.cell 0; simp at h; exact h); have xsc1 : w6.cell? ⟨w.heap.size + 1, 1, none⟩ = some (.slice p1 n1 k1) := (by have h := xs6.out.cell 1; simp at h; exact h); have xslt : w.heap.size + 1 < w6.heap.size := (by have h := xs6.out.lt; simp at h; exact h); have OX2 := Lib.hid (OX.out.call b6); have OY := Lib.hid oy; clear oy; clear xr5 xs5)
            | (go_at_call 13; refine (HT.out _ _ _ OX2.out.texts OY.out.texts).mono ?_; rintro e w7 ⟨rfl, b7⟩; have B7 := Lib.hid (B6.out.trans (b7.mono B6.out.size)); have xr7 := Lib.hid (xr6.out.call b7); have xs7 := Lib.hid (xs6.out.call b7); clear xrc0 xrc1 xrlt xsc0 xsc1 xslt; have xrc0 : w7.cell? ⟨w.heap.size, 0, none⟩ = some (.int .i64 c0) := xr7.out.cell 0; have xrc1 : w7.cell? ⟨w.heap.size, 1, none⟩ = some (.slice p0 n0 k0) := xr7.out.cell 1; have xrlt : w.heap.size < w7.heap.size := xr7.out.lt; have xsc0 : w7.cell? ⟨w.heap.size + 1, 0, none⟩ = some (.int .i64 c1) := (by have h := xs7.out.cell 0; simp at h; exact h); have xsc1 : w7.cell? ⟨w.heap.size + 1, 1, none⟩ = some (.slice p1 n1 k1) := (by have h := xs7.out.cell 1; simp at h; exact h); have xslt : w.heap.size + 1 < w7.heap.size := (by have h := xs7.out.lt; simp at h; exact h); clear xr6 xs6)
            | (go_at_call 14; refine (HSr.out _ (Y0.out.call (B7.out)) (Y1.out.call (B7.out))).mono ?_; rintro e w8 ⟨rfl, b8⟩; have B8 := Lib.hid (B7.out.trans (b8.mono B7.out.size)); have xr8 := Lib.hid (xr7.out.call b8); have xs8 := Lib.hid (xs7.out.call b8); clear xrc0 xrc1 xrlt xsc0 xsc1 xslt; have xrc0 : w8.cell? ⟨w.heap.size, 0, none⟩ = some (.int .i64 c0) := xr8.out.cell 0; have xrc1 : w8.cell? ⟨w.heap.size, 1, none⟩ = some (.slice p0 n0 k0) := xr8.out.cell 1; have xrlt : w.heap.size < w8.heap.size := xr8.out.lt; have xsc0 : w8.cell? ⟨w.heap.size + 1, 0, none⟩ = some (.int .i64 c1) := (by have h := xs8.out.cell 0; simp at h; exact h); have xsc1 : w8.cell? ⟨w.heap.size + 1, 1, none⟩ = some (.slice p1 n1 k1) := (by have h := xs8.out.cell 1; simp at h; exact h); have xslt : w.heap.size + 1 < w8.heap.size := (by have h := xs8.out.lt; simp at h; exact h); clear xr7 xs7)
            | (go_at_call 15; refine (HM.out _ (E.below (B8.out)) (Y0.out.call (B8.out))).mono ?_; rintro e w9 ⟨rfl, b9⟩; have B9 := Lib.hid (B8.out.trans (b9.mono B8.out.size)); have xr9 := Lib.hid (xr8.out.call b9); have xs9 := Lib.hid (xs8.out.call b9); clear xrc0 xrc1 xrlt xsc0 xsc1 xslt; have xrc0 : w9.cell? ⟨w.heap.size, 0, none⟩ = some (.int .i64 c0) := xr9.out.cell 0; have xrc1 : w9.cell? ⟨w.heap.size, 1, none⟩ = some (.slice p0 n0 k0) := xr9.out.cell 1; have xrlt : w.heap.size < w9.heap.size := xr9.out.lt; have xsc0 : w9.cell? ⟨w.heap.size + 1, 0, none⟩ = some (.int .i64 c1) := (by have h := xs9.out.cell 0; simp at h; exact h); have xsc1 : w9.cell? ⟨w.heap.size + 1, 1, none⟩ = some (.slice p1 n1 k1) := (by have h := xs9.out.cell 1; simp at h; exact h); have xslt : w.heap.size + 1 < w9.heap.size := (by have h := xs9.out.lt; simp at h; exact h); clear xr8 xs8)
            | (go_at_call 16; refine (HS.out _ (E.below (B9.out)) (Y0.out.call (B9.out)) (Y1.out.call (B9.out))).mono ?_; rintro e w10 ⟨rfl, b10⟩; have B10 := Lib.hid (B9.out.trans (b10.mono B9.out.size)); have xr10 := Lib.hid (xr9.out.call b10); have xs10 := Lib.hid (xs9.out.call b10); clear xrc0 xrc1 xrlt xsc0 xsc1 xslt; clear xr9 xs9))
      all_goals (go_ret; exact ⟨by first | rfl | (simp; done) | (simp; omega), B10.out⟩)

set_option maxRecDepth 100000 in
theorem lifted (os : Os) (started : os.Started) (H : Type) (enc : TypeId × Value → H) :
    ReturnsInHanded {} Tryd.checked os 3 .any (fun w args => (Rows.replyTellsSpec.pre enc Tryd.prog Tryd.f3 [] false w args ∧ laidMetH Tryd.prog laidHere w) ∧ sizedMet enc Tryd.prog Tryd.f3 (OpenSpec.ofChange Rows.replyTellsSpec) false w args)
      (Rows.replyTellsSpec.post enc Tryd.prog Tryd.f3 false true false false) := by
  refine handed started (by kernel_rfl) Tryd.func3 #[.agg #[.int .i64 0, .slice none 0 0], .agg #[.int .i64 0, .slice none 0 0]] (by kernel_rfl) (by kernel_rfl) (by kernel_rfl) (World.shaped_of_ZipB (by kernel_rfl) (by kernel_rfl))
    (by unfold laidHere; rw [MakeChecks.laidMetH_plain _ _ _ (by kernel_rfl)]; exact laidMet_laidAll _ (by kernel_rfl) (by kernel_rfl)) ?_
  intro W base args ds gs before hval0 hW E
  have hval : ∀ (j : Nat) t v, Tryd.f3.params[j]? = some t → args[j]? = some v → Value.okWide Tryd.prog W .any base t v := hval0
  have hW' := hW
  obtain ⟨p, q, hA0, hV, rfl, _, _⟩ := hW
  have hA : DataW.TrodAll enc Tryd.prog W 0 (fun _ => true) true Tryd.f3.params.toList args.toList ds p := hA0
  rw [Tryd.params3] at hA hval
  obtain ⟨v0, vs0, d0, ds0, p0, q0, hargs, rfl, rfl, r0, t0⟩ := trodAll_cons hA
  obtain ⟨v1, vs1, d1, ds1, p1, q1, rfl, rfl, rfl, r1, t1⟩ := trodAll_cons t0
  obtain ⟨rfl, rfl, rfl⟩ := trodAll_nil t1
  obtain rfl : args = #[v0, v1] := by cases args; simp_all
  obtain ⟨rfl, rfl⟩ := trodVars_none hV
  obtain ⟨c0, u0, s0, rfl, w0, y0, z0, k0⟩ := open_reply (hval 0 24 v0 rfl rfl) r0
  obtain ⟨c1, u1, s1, rfl, w1, y1, z1, k1⟩ := open_reply (hval 1 24 v1 rfl rfl) r1
  clear hA0 hval0
  simp only [List.append_nil] at hW'
  refine (walk c0 u0 s0 (int_wf w0).1 (int_wf w0).2 (fun s hs => by have := z0 s hs; unfold maxLen at this; exact this) c1 u1 s1 (int_wf w1).1 (int_wf w1).2 (fun s hs => by have := z1 s hs; unfold maxLen at this; exact this) W y0 y1 E).mono fun e W' ⟨he, hb⟩ => ?_
  subst he
  obtain ⟨pa0, t0'⟩ := k0 W' hb
  obtain ⟨pa1, t1'⟩ := k1 W' hb
  exact ⟨_, rfl, told hW' (fun _ _ _ => trodAll_cons_mk (shut_bool Tryd.underlying4 _) trodAll_mk0) (trodAll_cons_mk (t0') (trodAll_cons_mk (t1') trodAll_mk0)) (fun _ => rfl) hb⟩

theorem over : Rows.ReplyTellsSaid :=
  OpenClaim.holds_of_wide 3 Tryd.f3 rfl rfl rfl rfl rfl rfl rfl ⟨rfl, rfl, rfl, rfl, rfl⟩ rfl rfl rfl rfl rfl (by kernel_rfl) Tryd.func3 (by kernel_rfl)
    (of_decide_eq_true (by kernel_rfl)) (by unfold Func.isWrapper; first | (rw [if_pos (by decide +kernel)]; kernel_rfl) | (rw [if_neg (by decide +kernel)]; exact ⟨rfl, rfl⟩))
    (fun os started H enc _ => lifted os started H enc)

theorem proved : Rows.ReplyTellsCardSaid :=
  Claim7.holds_tied_plain_at .later [] Rows.replyTellsCard.laidKinds true Rows.replyTellsCard.stood.harness Rows.replyTellsCard.stood.looks
    over (fun _ h => by cases h) (by kernel_rfl) (fun _ h => by cases h) replyTells_row_tie rfl ⟨rfl, rfl⟩ (by kernel_rfl) rfl
    (fun f fn hf hfn => by
      obtain rfl : f = 3 := Option.some.inj ((show Tryd.prog.funcNamed "wharfinger/wharfingerlaw09.ReplyTells" = some 3 by kernel_rfl).symm.trans hf) |>.symm
      obtain rfl : fn = Tryd.f3 := (Option.some.inj (Tryd.func3.symm.trans hfn)).symm
      exact ⟨by kernel_rfl, fun j t ht => by
        rw [Tryd.params3] at ht
        have hm : t ∈ [24, 24] := by simpa using Array.mem_of_getElem? ht
        have hall : ([24, 24].all fun u => !Tryd.prog.wantsStandIn u) = true := by kernel_rfl
        exact (show Tryd.prog.wantsStandIn t = false by simpa using List.all_eq_true.1 hall t hm)⟩)
    (by kernel_rfl)
#print axioms proved
end Go.Proofs.YtbojjbnmjhblfaaDoor.replyTells
