/- Proved: for every reply the law ReplyOne of layer 9 answers true. Conditions: none beyond the row's own (the library's variables start as the program's text lays them: the card ties them). -/
import Derived.Test.YtbojjbnmjhblfaaDoorReplyAwake
import Derived.BigQuiet
import Derived.Deep.QuietTactic
import Derived.LoopTactic
import Derived.WalkMore
import Derived.IntWalk

namespace Go.Proofs.YtbojjbnmjhblfaaDoor.replyOne
open Go.Proofs.YtbojjbnmjhblfaaDoor Go.Proofs.YtbojjbnmjhblfaaDoor.Rp Go.Proofs.YtbojjbnmjhblfaaDoor.Cm Go.Proofs.YtbojjbnmjhblfaaDoor.Quad
open Go.ChangeShapes Go.WideShapes Go.ChangeAt Go.RowKit Go.Sort Go.ChangeMaps

set_option linter.unusedVariables false in
set_option maxHeartbeats 8000000 in
set_option maxRecDepth 100000 in
theorem walk (c0 : Int) (u0 : Value) (s0 : List (List UInt8)) (l0 : -9223372036854775808 ≤ c0) (h0 : c0 ≤ 9223372036854775807) (z0 : ∀ s ∈ s0, s.length ≤ 9223372036854775807) (w : World) (y0 : StrsIs w u0 s0) (E : Env w) :
    Calls Tryd.prog 5 #[replyV c0 u0] w fun e w' => e = .returned (.bool true) ∧ Below w.heap.size w w' := by
  have Y0 := Lib.hid y0.texts
  obtain ⟨p0, n0, k0, rfl, hn0⟩ := y0.texts.form3
  have HN0 := Lib.hid hn0
  clear hn0
  have HF0 := Lib.hid (fun W Y => few_below (.slice p0 n0 k0) s0 W Y)
  have HFP0 := Lib.hid (fun h => few_parts (l := s0) h)
  clear y0
  have HP := Lib.hid (fun W E Y => print_n c0 l0 h0 (.slice p0 n0 k0) s0 z0 _ rfl W E Y)
  have HM := Lib.hid (fun W E Y => may_any c0 l0 h0 (.slice p0 n0 k0) s0 z0 W E Y)
  cases hf0 : few s0 with
  | false =>
    rw [hf0] at HF0
    generalize Rp.print c0 s0 = P at HP
    obtain ⟨pl, pb⟩ := P
    simp only at HP
    clear HM
    have B0 := Lib.hid (Below.refl w.heap.size w)
    go_enter Tryd.func5, Tryd.ntmps5
    go_wp2_with (first
          | (go_at_call 8; refine (awake_any _ (E.below ((B0.out).alloc B0.out.size (.cells #[.int .i64 c0, .slice p0 n0 k0] 24)))).mono ?_; rintro e w1 ⟨rfl, b1⟩; have B1 := Lib.hid (((B0.out).alloc B0.out.size (.cells #[.int .i64 c0, .slice p0 n0 k0] 24)).trans (b1.mono (by have := B0.out.size; simp <;> omega))); have xr1 := Lib.hid ((IsRow.made w 24 #[.int .i64 c0, .slice p0 n0 k0]).call b1); have xrc0 : w1.cell? ⟨w.heap.size, 0, none⟩ = some (.int .i64 c0) := xr1.out.cell 0; have xrc1 : w1.cell? ⟨w.heap.size, 1, none⟩ = some (.slice p0 n0 k0) := xr1.out.cell 1; have xrlt : w.heap.size < w1.heap.size := xr1.out.lt)
          | (go_at_call 9; refine (HF0.out _ (Y0.out.call (B1.out))).mono ?_; rintro e w2 ⟨rfl, b2⟩; have B2 := Lib.hid (B1.out.trans (b2.mono B1.out.size)); have xr2 := Lib.hid (xr1.out.call b2); clear xrc0 xrc1 xrlt; have xrc0 : w2.cell? ⟨w.heap.size, 0, none⟩ = some (.int .i64 c0) := xr2.out.cell 0; have xrc1 : w2.cell? ⟨w.heap.size, 1, none⟩ = some (.slice p0 n0 k0) := xr2.out.cell 1; have xrlt : w.heap.size < w2.heap.size := xr2.out.lt; clear HF0; clear xr1)
          | (go_at_call 11; refine (HP.out _ (E.below (B2.out)) (Y0.out.call (B2.out))).mono ?_; rintro e w3 ⟨⟨px, nx, kx, rfl, hnx, ox⟩, b3⟩; have B3 := Lib.hid (B2.out.trans (b3.mono B2.out.size)); have xr3 := Lib.hid (xr2.out.call b3); clear xrc0 xrc1 xrlt; clear hnx ox; clear xr2))
    all_goals (go_ret; exact ⟨by first | rfl | (simp; done) | (simp; omega), B3.out⟩)
  | true =>
    rw [hf0] at HF0
    obtain ⟨hl0, hs0⟩ := HFP0.out hf0
    cases hm0 : mayB c0 s0 with
    | false =>
      rw [show Rp.print c0 s0 = ([], false) from by unfold Rp.print; rw [hm0]; rfl] at HP
      rw [hm0] at HM
      simp only [List.length_nil] at HP
      clear hs0 hf0 hm0
      have B0 := Lib.hid (Below.refl w.heap.size w)
      go_enter Tryd.func5, Tryd.ntmps5
      go_wp2_with (first
            | (go_at_call 8; refine (awake_any _ (E.below ((B0.out).alloc B0.out.size (.cells #[.int .i64 c0, .slice p0 n0 k0] 24)))).mono ?_; rintro e w1 ⟨rfl, b1⟩; have B1 := Lib.hid (((B0.out).alloc B0.out.size (.cells #[.int .i64 c0, .slice p0 n0 k0] 24)).trans (b1.mono (by have := B0.out.size; simp <;> omega))); have xr1 := Lib.hid ((IsRow.made w 24 #[.int .i64 c0, .slice p0 n0 k0]).call b1); have xrc0 : w1.cell? ⟨w.heap.size, 0, none⟩ = some (.int .i64 c0) := xr1.out.cell 0; have xrc1 : w1.cell? ⟨w.heap.size, 1, none⟩ = some (.slice p0 n0 k0) := xr1.out.cell 1; have xrlt : w.heap.size < w1.heap.size := xr1.out.lt)
            | (go_at_call 9; refine (HF0.out _ (Y0.out.call (B1.out))).mono ?_; rintro e w2 ⟨rfl, b2⟩; have B2 := Lib.hid (B1.out.trans (b2.mono B1.out.size)); have xr2 := Lib.hid (xr1.out.call b2); clear xrc0 xrc1 xrlt; have xrc0 : w2.cell? ⟨w.heap.size, 0, none⟩ = some (.int .i64 c0) := xr2.out.cell 0; have xrc1 : w2.cell? ⟨w.heap.size, 1, none⟩ = some (.slice p0 n0 k0) := xr2.out.cell 1; have xrlt : w.heap.size < w2.heap.size := xr2.out.lt; clear HF0; clear xr1)
            | (go_at_call 11; refine (HP.out _ (E.below (B2.out)) (Y0.out.call (B2.out))).mono ?_; rintro e w3 ⟨⟨px, nx, kx, rfl, hnx, ox⟩, b3⟩; have B3 := Lib.hid (B2.out.trans (b3.mono B2.out.size)); have xr3 := Lib.hid (xr2.out.call b3); clear xrc0 xrc1 xrlt; have xrc0 : w3.cell? ⟨w.heap.size, 0, none⟩ = some (.int .i64 c0) := xr3.out.cell 0; have xrc1 : w3.cell? ⟨w.heap.size, 1, none⟩ = some (.slice p0 n0 k0) := xr3.out.cell 1; have xrlt : w.heap.size < w3.heap.size := xr3.out.lt; subst hnx; clear ox; clear xr2)
            | (go_at_call 15; refine (HM.out _ (E.below (B3.out)) (Y0.out.call (B3.out))).mono ?_; rintro e w4 ⟨rfl, b4⟩; have B4 := Lib.hid (B3.out.trans (b4.mono B3.out.size)); have xr4 := Lib.hid (xr3.out.call b4); clear xrc0 xrc1 xrlt; clear xr3))
      all_goals (go_ret; exact ⟨by first | rfl | (simp; done) | (simp; omega), B4.out⟩)
    | true =>
      rw [show Rp.print c0 s0 = (linesOf c0 s0, true) from by unfold Rp.print; rw [hm0]; rfl] at HP
      have M := may_parts hm0
      have h3 := code_three M.lo M.hi
      have hlo := M.lo
      have hhi := M.hi
      have hone := M.one
      have hx0 : (linesOf c0 s0).length = s0.length := by unfold linesOf; exact lines_len _ _ _
      have HLA : Hid (∀ i (h : i < (linesOf c0 s0).length) (h' : i < s0.length), (linesOf c0 s0)[i] = if i + 1 = s0.length then Lib.itoa c0 ++ 32 :: s0[i] else if i = 0 then Lib.itoa c0 ++ 45 :: s0[i] else s0[i]) := Lib.hid (fun i h h' => by unfold linesOf at h ⊢; rw [lines_at h h']; rfl)
      rw [h3] at HLA
      obtain ⟨q0, hq0⟩ : ∃ q : Nat, q = c0.toNat / 100 := ⟨_, rfl⟩
      obtain ⟨q1, hq1⟩ : ∃ q : Nat, q = c0.toNat / 10 % 10 := ⟨_, rfl⟩
      obtain ⟨q2, hq2⟩ : ∃ q : Nat, q = c0.toNat % 10 := ⟨_, rfl⟩
      rw [← hq0, ← hq1, ← hq2] at HLA
      have hqs : c0 = 100 * (q0 : Int) + 10 * (q1 : Int) + (q2 : Int) := by omega
      have hb0 : q0 < 10 := by omega
      have hb1 : q1 < 10 := by omega
      have hb2 : q2 < 10 := by omega
      have HQ := Lib.hid hqs
      clear hq0 hq1 hq2 h3 M hm0 hs0 hf0 HM hlo hhi hqs
      generalize linesOf c0 s0 = xl at HP HLA hx0
      have hxp : 0 < xl.length := by omega
      obtain ⟨m, hm⟩ : ∃ m, s0.length = m + 1 := ⟨s0.length - 1, by omega⟩
      have HXL : Hid (xl.length = m + 1) := Lib.hid (by omega)
      have HSL := Lib.hid hm
      have hm30 : m < 30 := by omega
      obtain ⟨a, hpa, hna, hab, hca⟩ := Y0.out.some (by omega)
      subst hpa
      have HCA := Lib.hid hca
      have HN : Hid (n0 = m + 1) := Lib.hid (by omega)
      have hn' := HN.out
      subst hn'
      clear hx0 hm hl0 hone hca hna
      simp only at HP
      have B0 := Lib.hid (Below.refl w.heap.size w)
      go_enter Tryd.func5, Tryd.ntmps5
      go_wp2_with (first
            | (go_at_call 8; refine (awake_any _ (E.below ((B0.out).alloc B0.out.size (.cells #[.int .i64 c0, .slice (some a) (m + 1) k0] 24)))).mono ?_; rintro e w1 ⟨rfl, b1⟩; have B1 := Lib.hid (((B0.out).alloc B0.out.size (.cells #[.int .i64 c0, .slice (some a) (m + 1) k0] 24)).trans (b1.mono (by have := B0.out.size; simp <;> omega))); have xr1 := Lib.hid ((IsRow.made w 24 #[.int .i64 c0, .slice (some a) (m + 1) k0]).call b1); have xrc0 : w1.cell? ⟨w.heap.size, 0, none⟩ = some (.int .i64 c0) := xr1.out.cell 0; have xrc1 : w1.cell? ⟨w.heap.size, 1, none⟩ = some (.slice (some a) (m + 1) k0) := xr1.out.cell 1; have xrlt : w.heap.size < w1.heap.size := xr1.out.lt)
            | (go_at_call 9; refine (HF0.out _ (Y0.out.call (B1.out))).mono ?_; rintro e w2 ⟨rfl, b2⟩; have B2 := Lib.hid (B1.out.trans (b2.mono B1.out.size)); have xr2 := Lib.hid (xr1.out.call b2); clear xrc0 xrc1 xrlt; have xrc0 : w2.cell? ⟨w.heap.size, 0, none⟩ = some (.int .i64 c0) := xr2.out.cell 0; have xrc1 : w2.cell? ⟨w.heap.size, 1, none⟩ = some (.slice (some a) (m + 1) k0) := xr2.out.cell 1; have xrlt : w.heap.size < w2.heap.size := xr2.out.lt; clear HF0; clear xr1)
            | (go_at_call 11; refine (HP.out _ (E.below (B2.out)) (Y0.out.call (B2.out))).mono ?_; rintro e w3 ⟨⟨px, nx, kx, rfl, hnx, ox⟩, b3⟩; have B3 := Lib.hid (B2.out.trans (b3.mono B2.out.size)); have xr3 := Lib.hid (xr2.out.call b3); clear xrc0 xrc1 xrlt; obtain ⟨bx, rfl, _, hbx, hcx⟩ := ox.some hxp; have hnm : nx = m + 1 := hnx.trans HXL.out; subst hnm; have CX := Lib.hid (And.intro hbx hcx); clear ox hnx hbx hcx; clear xr2))
      go_loopw [8] (fun x8 wr => ∃ (k : Nat), x8 = .int .i64 (k : Int) ∧ k ≤ m + 1 ∧ Hid (Below w3.heap.size w3 wr)) (fun i _ => m + 1 - (intOf i).toNat)
      case atStart => exact ⟨0, rfl, Nat.zero_le _, Lib.hid (Below.refl _ _)⟩
      case round =>
        obtain ⟨k, rfl, hk, HB⟩ := hrel
        have wr1 : IntKind.i64.wrap (m : Int) = (m : Int) := IntWalk.i64_in _ (by omega)
        have XR := (xr3.out.call HB.out)
        have a0 := XR.cell 0
        have a1 := XR.cell 1
        have ltr := XR.lt
        have BW := Lib.hid (B3.out.trans (HB.out.mono B3.out.size))
        by_cases hlt : k < m + 1
        · have hji : (k : Int) < ((m + 1 : Nat) : Int) := by omega
          have hxl : k < xl.length := by have := HXL.out; omega
          have hsl : k < s0.length := by have := HSL.out; omega
          have e1 : wr.cell? ⟨bx, k, none⟩ = some (strV xl[k]) := (HB.out.cell (p := ⟨bx, k, none⟩) CX.out.1).trans (CX.out.2 k hxl)
          have e2 : wr.cell? (a.add k) = some (strV s0[k]) := (BW.out.cell (by rw [add_block]; exact hab)).trans (HCA.out k hsl)
          have HLk : Hid (0 < k → k + 1 < m + 1 → xl[k] = s0[k]) := Lib.hid (fun h1 h2 => by
            have h := HLA.out k hxl hsl
            rw [if_neg (by have := HSL.out; omega), if_neg (by omega)] at h
            exact h)
          generalize xl[k] = t at *
          generalize s0[k] = t' at *
          clear hxl hsl
          by_cases h6 : 0 < k
          · have g6 : (0 : Int) < (k : Int) := by omega
            by_cases h7 : k + 1 < m + 1
            · have g7 : (k : Int) < ((m + 1 : Nat) : Int) - 1 := by omega
              have g7n : decide (k < m) = true := decide_eq_true (by omega)
              have hte := HLk.out h6 h7
              subst hte
              have e9 : (t == t) = true := by simp
              clear HLk
              go_wp2_with fail
              go_quiet (fail)
              go_wp2_with fail
              go_roundw
              case rel => exact ⟨k + 1, by go_num, by omega, Lib.hid (HB.out.trans ⟨rfl, rfl, rfl, Nat.le_refl _, fun _ _ => rfl⟩)⟩
              case measure => simp [intOf]; omega
            · have g7 : ¬ (k : Int) < ((m + 1 : Nat) : Int) - 1 := by omega
              have g7a : decide ((k : Int) < ((m + 1 : Nat) : Int) - 1) = false := decide_eq_false g7
              have g7b : decide ((k : Int) < (m : Int) + 1 - 1) = false := decide_eq_false (by omega)
              have g7c : decide ((k : Int) < (m : Int)) = false := decide_eq_false (by omega)
              have g7d : ¬ (k : Int) < (m : Int) := by omega
              have g7n : decide (k < m) = false := decide_eq_false (by omega)
              clear HLk
              go_wp2_with fail
              go_quiet (fail)
              go_wp2_with fail
              go_roundw
              case rel => exact ⟨k + 1, by go_num, by omega, Lib.hid (HB.out.trans ⟨rfl, rfl, rfl, Nat.le_refl _, fun _ _ => rfl⟩)⟩
              case measure => simp [intOf]; omega
          · have g6 : ¬ (0 : Int) < (k : Int) := by omega
            have g6a : decide ((0 : Int) < (k : Int)) = false := decide_eq_false g6
            have g6b : decide (0 < k) = false := decide_eq_false h6
            clear HLk
            go_wp2_with fail
            go_quiet (fail)
            go_wp2_with fail
            go_roundw
            case rel => exact ⟨k + 1, by go_num, by omega, Lib.hid (HB.out.trans ⟨rfl, rfl, rfl, Nat.le_refl _, fun _ _ => rfl⟩)⟩
            case measure => simp [intOf]; omega
        · have hji : ¬ (k : Int) < ((m + 1 : Nat) : Int) := by omega
          have hxl : m < xl.length := by have := HXL.out; omega
          have hsl : m < s0.length := by have := HSL.out; omega
          have hL := HLA.out m hxl hsl
          rw [if_pos (by rw [HSL.out])] at hL
          have e1 : wr.cell? ⟨bx, m, none⟩ = some (strV xl[m]) := (HB.out.cell (p := ⟨bx, m, none⟩) CX.out.1).trans (CX.out.2 m hxl)
          have e2 : wr.cell? (a.add m) = some (strV s0[m]) := (BW.out.cell (by rw [add_block]; exact hab)).trans (HCA.out m hsl)
          rw [hL] at e1
          generalize s0[m] = t at *
          clear hL
          obtain ⟨x0, hx0⟩ : ∃ x, x = UInt8.ofNat (48 + q0) := ⟨_, rfl⟩
          obtain ⟨x1, hx1⟩ : ∃ x, x = UInt8.ofNat (48 + q1) := ⟨_, rfl⟩
          obtain ⟨x2, hx2⟩ : ∃ x, x = UInt8.ofNat (48 + q2) := ⟨_, rfl⟩
          rw [← hx0, ← hx1, ← hx2] at e1
          have f1 : wr.cell? ⟨bx, m, none⟩ = some (.string ⟨(x0 :: x1 :: x2 :: 32 :: t).toArray⟩) := e1
          have f2 : wr.cell? (a.add m) = some (.string ⟨t.toArray⟩) := e2
          clear e1 e2
          have dig : ∀ (q : Nat) (x : UInt8), q < 10 → x = UInt8.ofNat (48 + q) → IntKind.u8.wrap ((x.toNat : Int) - 48) = (q : Int) := fun q x h e => by
            subst e
            rw [UInt8.toNat_ofNat', Nat.mod_eq_of_lt (by omega), show (((48 + q : Nat) : Int) - 48) = (q : Int) from by omega]
            unfold IntKind.wrap; simp [IntKind.bits, IntKind.signed]; omega
          have D0 := Lib.hid (dig q0 x0 hb0 hx0)
          have D1 := Lib.hid (dig q1 x1 hb1 hx1)
          have D2 := Lib.hid (dig q2 x2 hb2 hx2)
          obtain ⟨L, hL⟩ : ∃ L, L = x0 :: x1 :: x2 :: 32 :: t := ⟨_, rfl⟩
          rw [← hL] at f1
          have hl4 : 4 ≤ L.length := by rw [hL]; simp
          have m0 : 0 < L.length := by omega
          have m1 : 1 < L.length := by omega
          have m2 : 2 < L.length := by omega
          have m3 : 3 < L.length := by omega
          have i1 : (1 : Int) < (L.length : Int) := by omega
          have i2 : (2 : Int) < (L.length : Int) := by omega
          have i3 : (3 : Int) < (L.length : Int) := by omega
          have i4 : (4 : Int) ≤ (L.length : Int) := by omega
          have im : (m : Int) < (m : Int) + 1 := by omega
          have im0 : (0 : Int) < (m : Int) + 1 := by omega
          have hs0 : 0 < (ByteArray.mk L.toArray).size := by rw [size_mk]; omega
          have hs1 : 1 < (ByteArray.mk L.toArray).size := by rw [size_mk]; omega
          have hs2 : 2 < (ByteArray.mk L.toArray).size := by rw [size_mk]; omega
          have hs3 : 3 < (ByteArray.mk L.toArray).size := by rw [size_mk]; omega
          have d0 : IntKind.u8.wrap (((((ByteArray.mk L.toArray)[0]'hs0).toNat : Nat) : Int) - 48) = (q0 : Int) := by subst hL; exact D0.out
          have d1 : IntKind.u8.wrap (((((ByteArray.mk L.toArray)[1]'hs1).toNat : Nat) : Int) - 48) = (q1 : Int) := by subst hL; exact D1.out
          have d2 : IntKind.u8.wrap (((((ByteArray.mk L.toArray)[2]'hs2).toNat : Nat) : Int) - 48) = (q2 : Int) := by subst hL; exact D2.out
          have d3 : (((((ByteArray.mk L.toArray)[3]'hs3).toNat : Nat) : Int) == 32) = true := by subst hL; rfl
          have hx4 : (ByteArray.mk L.toArray).extract 4 L.length = ⟨t.toArray⟩ := by subst hL; apply ByteArray.ext; simp [ByteArray.data_extract]
          have v0 : IntKind.i64.wrap (q0 : Int) = (q0 : Int) := IntWalk.i64_in _ (by omega)
          have v1 : IntKind.i64.wrap (q1 : Int) = (q1 : Int) := IntWalk.i64_in _ (by omega)
          have v2 : IntKind.i64.wrap (q2 : Int) = (q2 : Int) := IntWalk.i64_in _ (by omega)
          have v3 : IntKind.i64.wrap (100 * (q0 : Int)) = 100 * (q0 : Int) := IntWalk.i64_in _ (by omega)
          have v4 : IntKind.i64.wrap (10 * (q1 : Int)) = 10 * (q1 : Int) := IntWalk.i64_in _ (by omega)
          have v5 : IntKind.i64.wrap (100 * (q0 : Int) + 10 * (q1 : Int)) = 100 * (q0 : Int) + 10 * (q1 : Int) := IntWalk.i64_in _ (by omega)
          have v6 : IntKind.i64.wrap (100 * (q0 : Int) + 10 * (q1 : Int) + (q2 : Int)) = c0 := by rw [HQ.out]; exact IntWalk.i64_in _ (by omega)
          clear dig hx0 hx1 hx2 hL D0 D1 D2
          have ett : (t == t) = true := by simp
          by_cases hmz : m = 0
          · have z1 : ((m : Int) + 1 == 1) = true := by rw [beq_iff_eq]; omega
            have z2 : ((m : Int) == 0) = true := by rw [beq_iff_eq]; omega
            have z3 : (m == 0) = true := by rw [beq_iff_eq]; exact hmz
            clear hmz
            go_wp2_with fail
            go_quiet (fail)
            go_wp2_with fail
            go_quiet (fail)
            go_wp2_with fail
            go_ret
            exact ⟨by first | rfl | (simp; done), BW.out.trans ⟨rfl, rfl, rfl, Nat.le_refl _, fun _ _ => rfl⟩⟩
          · have z1 : ((m : Int) + 1 == 1) = false := by rw [beq_eq_false_iff_ne]; omega
            have z2 : ((m : Int) == 0) = false := by rw [beq_eq_false_iff_ne]; omega
            have z3 : (m == 0) = false := by rw [beq_eq_false_iff_ne]; exact hmz
            have hxl0 : 0 < xl.length := by omega
            have hsl0 : 0 < s0.length := by omega
            have hL0 := HLA.out 0 hxl0 hsl0
            rw [if_neg (by have := HSL.out; omega), if_pos rfl] at hL0
            have p1 : wr.cell? ⟨bx, 0, none⟩ = some (.string ⟨xl[0].toArray⟩) := (HB.out.cell (p := ⟨bx, 0, none⟩) CX.out.1).trans (CX.out.2 0 hxl0)
            have p2 : wr.cell? (a.add 0) = some (.string ⟨s0[0].toArray⟩) := (BW.out.cell (by rw [add_block]; exact hab)).trans (HCA.out 0 hsl0)
            have p3 : wr.cell? a = some (.string ⟨s0[0].toArray⟩) := by have h := p2; rw [show a.add 0 = a from by unfold Addr.add; split <;> simp_all] at h; exact h
            generalize xl[0] = L0 at *
            generalize s0[0] = t0 at *
            have n0' : 3 < L0.length := by rw [hL0]; simp
            have n4 : 4 ≤ L0.length := by rw [hL0]; simp
            have n1' : (3 : Int) < (L0.length : Int) := by omega
            have n5' : (4 : Int) ≤ (L0.length : Int) := by omega
            have n2' : 3 < (ByteArray.mk L0.toArray).size := by rw [size_mk]; omega
            have d4 : (((((ByteArray.mk L0.toArray)[3]'n2').toNat : Nat) : Int) == 45) = true := by subst hL0; rfl
            have hx5 : (ByteArray.mk L0.toArray).extract 4 L0.length = ⟨t0.toArray⟩ := by subst hL0; apply ByteArray.ext; simp [ByteArray.data_extract]
            have ett0 : (t0 == t0) = true := by simp
            clear hL0 hxl0 hsl0 hmz
            go_wp2_with fail
            go_quiet (fail)
            go_wp2_with fail
            go_quiet (fail)
            go_wp2_with fail
            go_ret
            exact ⟨by first | rfl | (simp; done), BW.out.trans ⟨rfl, rfl, rfl, Nat.le_refl _, fun _ _ => rfl⟩⟩

set_option maxRecDepth 100000 in
theorem lifted (os : Os) (started : os.Started) (H : Type) (enc : TypeId × Value → H) :
    ReturnsInHanded {} Tryd.checked os 5 .any (fun w args => (Rows.replyOneSpec.pre enc Tryd.prog Tryd.f5 [] false w args ∧ laidMetH Tryd.prog laidHere w) ∧ sizedMet enc Tryd.prog Tryd.f5 (OpenSpec.ofChange Rows.replyOneSpec) false w args)
      (Rows.replyOneSpec.post enc Tryd.prog Tryd.f5 false true false false) := by
  refine handed started (by kernel_rfl) Tryd.func5 #[.agg #[.int .i64 0, .slice none 0 0]] (by kernel_rfl) (by kernel_rfl) (by kernel_rfl) (World.shaped_of_ZipB (by kernel_rfl) (by kernel_rfl))
    (by unfold laidHere; rw [MakeChecks.laidMetH_plain _ _ _ (by kernel_rfl)]; exact laidMet_laidAll _ (by kernel_rfl) (by kernel_rfl)) ?_
  intro W base args ds gs before hval0 hW E
  have hval : ∀ (j : Nat) t v, Tryd.f5.params[j]? = some t → args[j]? = some v → Value.okWide Tryd.prog W .any base t v := hval0
  have hW' := hW
  obtain ⟨p, q, hA0, hV, rfl, _, _⟩ := hW
  have hA : DataW.TrodAll enc Tryd.prog W 0 (fun _ => true) true Tryd.f5.params.toList args.toList ds p := hA0
  rw [Tryd.params5] at hA hval
  obtain ⟨v0, vs0, d0, ds0, p0, q0, hargs, rfl, rfl, r0, t0⟩ := trodAll_cons hA
  obtain ⟨rfl, rfl, rfl⟩ := trodAll_nil t0
  obtain rfl : args = #[v0] := by cases args; simp_all
  obtain ⟨rfl, rfl⟩ := trodVars_none hV
  obtain ⟨c0, u0, s0, rfl, w0, y0, z0, k0⟩ := open_reply (hval 0 24 v0 rfl rfl) r0
  clear hA0 hval0
  simp only [List.append_nil] at hW'
  refine (walk c0 u0 s0 (int_wf w0).1 (int_wf w0).2 (fun s hs => by have := z0 s hs; unfold maxLen at this; exact this) W y0 E).mono fun e W' ⟨he, hb⟩ => ?_
  subst he
  obtain ⟨pa0, t0'⟩ := k0 W' hb
  exact ⟨_, rfl, told hW' (fun _ _ _ => trodAll_cons_mk (shut_bool Tryd.underlying4 _) trodAll_mk0) (trodAll_cons_mk (t0') trodAll_mk0) (fun _ => rfl) hb⟩

theorem over : Rows.ReplyOneSaid :=
  OpenClaim.holds_of_wide 5 Tryd.f5 rfl rfl rfl rfl rfl rfl rfl ⟨rfl, rfl, rfl, rfl, rfl⟩ rfl rfl rfl rfl rfl (by kernel_rfl) Tryd.func5 (by kernel_rfl)
    (of_decide_eq_true (by kernel_rfl)) (by unfold Func.isWrapper; first | (rw [if_pos (by decide +kernel)]; kernel_rfl) | (rw [if_neg (by decide +kernel)]; exact ⟨rfl, rfl⟩))
    (fun os started H enc _ => lifted os started H enc)

theorem proved : Rows.ReplyOneCardSaid :=
  Claim7.holds_tied_plain_at .later [] Rows.replyOneCard.laidKinds true Rows.replyOneCard.stood.harness Rows.replyOneCard.stood.looks
    over (fun _ h => by cases h) (by kernel_rfl) (fun _ h => by cases h) replyOne_row_tie rfl ⟨rfl, rfl⟩ (by kernel_rfl) rfl
    (fun f fn hf hfn => by
      obtain rfl : f = 5 := Option.some.inj ((show Tryd.prog.funcNamed "wharfinger/wharfingerlaw09.ReplyOne" = some 5 by kernel_rfl).symm.trans hf) |>.symm
      obtain rfl : fn = Tryd.f5 := (Option.some.inj (Tryd.func5.symm.trans hfn)).symm
      exact ⟨by kernel_rfl, fun j t ht => by
        rw [Tryd.params5] at ht
        have hm : t ∈ [24] := by simpa using Array.mem_of_getElem? ht
        have hall : ([24].all fun u => !Tryd.prog.wantsStandIn u) = true := by kernel_rfl
        exact (show Tryd.prog.wantsStandIn t = false by simpa using List.all_eq_true.1 hall t hm)⟩)
    (by kernel_rfl)
#print axioms proved
end Go.Proofs.YtbojjbnmjhblfaaDoor.replyOne
