/- Proved: for every two commands the law CmdOnly of layer 8 answers true. Conditions: none beyond the row's own (the library's variables start as the program's text lays them: the card ties them). -/
import Derived.Test.YtginmhmeepjbhaaDoorCmdAwake
import Derived.BigQuiet

namespace Go.Proofs.YtginmhmeepjbhaaDoor.cmdOnly
open Go.Proofs.YtginmhmeepjbhaaDoor Go.Proofs.YtginmhmeepjbhaaDoor.Cm Go.Proofs.YtginmhmeepjbhaaDoor.Vb
open Go.ChangeShapes Go.WideShapes Go.ChangeAt Go.RowKit Go.Sort Go.ChangeMaps

set_option linter.unusedVariables false in
set_option maxHeartbeats 2000000 in
set_option maxRecDepth 100000 in
theorem walk (cv0 ca0 : List UInt8) (yv0 : cv0.length ≤ 9223372036854775807) (ya0 : ca0.length ≤ 9223372036854775807) (cv1 ca1 : List UInt8) (yv1 : cv1.length ≤ 9223372036854775807) (ya1 : ca1.length ≤ 9223372036854775807) (w : World)  (E : Env w) :
    Calls Tryd.prog 8 #[cmdV cv0 ca0, cmdV cv1 ca1] w fun e w' => e = .returned (.bool true) ∧ Below w.heap.size w w' := by
  by_cases hv : 300 < cv0.length
  · have hv' : (300 : Int) < (cv0.length : Int) := by omega
    have B0 := Lib.hid (Below.refl w.heap.size w)
    go_enter Tryd.func8, Tryd.ntmps8
    go_wp2_with (first
          | (go_at_call 9; refine (awake_any _ (E.below (((B0.out).alloc B0.out.size (.cells #[.string ⟨cv0.toArray⟩, .string ⟨ca0.toArray⟩] 23)).alloc (by have := B0.out.size; simp <;> omega) (.cells #[.string ⟨cv1.toArray⟩, .string ⟨ca1.toArray⟩] 23)))).mono ?_; rintro e w1 ⟨rfl, b1⟩; have B1 := Lib.hid ((((B0.out).alloc B0.out.size (.cells #[.string ⟨cv0.toArray⟩, .string ⟨ca0.toArray⟩] 23)).alloc (by have := B0.out.size; simp <;> omega) (.cells #[.string ⟨cv1.toArray⟩, .string ⟨ca1.toArray⟩] 23)).trans (b1.mono (by have := B0.out.size; simp <;> omega))); have c1 := Lib.hid (((IsRow.made w 23 #[.string ⟨cv0.toArray⟩, .string ⟨ca0.toArray⟩]).alloc (.cells #[.string ⟨cv1.toArray⟩, .string ⟨ca1.toArray⟩] 23)).call b1); have d1 := Lib.hid ((IsRow.made (w.alloc (.cells #[.string ⟨cv0.toArray⟩, .string ⟨ca0.toArray⟩] 23)) 23 #[.string ⟨cv1.toArray⟩, .string ⟨ca1.toArray⟩]).call b1); have cc0 : w1.cell? ⟨w.heap.size, 0, none⟩ = some (.string ⟨cv0.toArray⟩) := c1.out.cell 0; have cc1 : w1.cell? ⟨w.heap.size, 1, none⟩ = some (.string ⟨ca0.toArray⟩) := c1.out.cell 1; have clt : w.heap.size < w1.heap.size := c1.out.lt; have dc0 : w1.cell? ⟨w.heap.size + 1, 0, none⟩ = some (.string ⟨cv1.toArray⟩) := (by have h := d1.out.cell 0; simp at h; exact h); have dc1 : w1.cell? ⟨w.heap.size + 1, 1, none⟩ = some (.string ⟨ca1.toArray⟩) := (by have h := d1.out.cell 1; simp at h; exact h); have dlt : w.heap.size + 1 < w1.heap.size := (by have h := d1.out.lt; simp at h; exact h)))
    all_goals (go_ret; exact ⟨by first | rfl | (simp; done) | (simp; omega), B1.out⟩)
  have hv' : ¬ (300 : Int) < (cv0.length : Int) := by omega
  by_cases ha : 300 < ca0.length
  · have ha' : (300 : Int) < (ca0.length : Int) := by omega
    have B0 := Lib.hid (Below.refl w.heap.size w)
    go_enter Tryd.func8, Tryd.ntmps8
    go_wp2_with (first
          | (go_at_call 9; refine (awake_any _ (E.below (((B0.out).alloc B0.out.size (.cells #[.string ⟨cv0.toArray⟩, .string ⟨ca0.toArray⟩] 23)).alloc (by have := B0.out.size; simp <;> omega) (.cells #[.string ⟨cv1.toArray⟩, .string ⟨ca1.toArray⟩] 23)))).mono ?_; rintro e w1 ⟨rfl, b1⟩; have B1 := Lib.hid ((((B0.out).alloc B0.out.size (.cells #[.string ⟨cv0.toArray⟩, .string ⟨ca0.toArray⟩] 23)).alloc (by have := B0.out.size; simp <;> omega) (.cells #[.string ⟨cv1.toArray⟩, .string ⟨ca1.toArray⟩] 23)).trans (b1.mono (by have := B0.out.size; simp <;> omega))); have c1 := Lib.hid (((IsRow.made w 23 #[.string ⟨cv0.toArray⟩, .string ⟨ca0.toArray⟩]).alloc (.cells #[.string ⟨cv1.toArray⟩, .string ⟨ca1.toArray⟩] 23)).call b1); have d1 := Lib.hid ((IsRow.made (w.alloc (.cells #[.string ⟨cv0.toArray⟩, .string ⟨ca0.toArray⟩] 23)) 23 #[.string ⟨cv1.toArray⟩, .string ⟨ca1.toArray⟩]).call b1); have cc0 : w1.cell? ⟨w.heap.size, 0, none⟩ = some (.string ⟨cv0.toArray⟩) := c1.out.cell 0; have cc1 : w1.cell? ⟨w.heap.size, 1, none⟩ = some (.string ⟨ca0.toArray⟩) := c1.out.cell 1; have clt : w.heap.size < w1.heap.size := c1.out.lt; have dc0 : w1.cell? ⟨w.heap.size + 1, 0, none⟩ = some (.string ⟨cv1.toArray⟩) := (by have h := d1.out.cell 0; simp at h; exact h); have dc1 : w1.cell? ⟨w.heap.size + 1, 1, none⟩ = some (.string ⟨ca1.toArray⟩) := (by have h := d1.out.cell 1; simp at h; exact h); have dlt : w.heap.size + 1 < w1.heap.size := (by have h := d1.out.lt; simp at h; exact h)))
    all_goals (go_ret; exact ⟨by first | rfl | (simp; done) | (simp; omega), B1.out⟩)
  have ha' : ¬ (300 : Int) < (ca0.length : Int) := by omega
  by_cases hq : 300 < cv1.length
  · have hq' : (300 : Int) < (cv1.length : Int) := by omega
    have B0 := Lib.hid (Below.refl w.heap.size w)
    go_enter Tryd.func8, Tryd.ntmps8
    go_wp2_with (first
          | (go_at_call 9; refine (awake_any _ (E.below (((B0.out).alloc B0.out.size (.cells #[.string ⟨cv0.toArray⟩, .string ⟨ca0.toArray⟩] 23)).alloc (by have := B0.out.size; simp <;> omega) (.cells #[.string ⟨cv1.toArray⟩, .string ⟨ca1.toArray⟩] 23)))).mono ?_; rintro e w1 ⟨rfl, b1⟩; have B1 := Lib.hid ((((B0.out).alloc B0.out.size (.cells #[.string ⟨cv0.toArray⟩, .string ⟨ca0.toArray⟩] 23)).alloc (by have := B0.out.size; simp <;> omega) (.cells #[.string ⟨cv1.toArray⟩, .string ⟨ca1.toArray⟩] 23)).trans (b1.mono (by have := B0.out.size; simp <;> omega))); have c1 := Lib.hid (((IsRow.made w 23 #[.string ⟨cv0.toArray⟩, .string ⟨ca0.toArray⟩]).alloc (.cells #[.string ⟨cv1.toArray⟩, .string ⟨ca1.toArray⟩] 23)).call b1); have d1 := Lib.hid ((IsRow.made (w.alloc (.cells #[.string ⟨cv0.toArray⟩, .string ⟨ca0.toArray⟩] 23)) 23 #[.string ⟨cv1.toArray⟩, .string ⟨ca1.toArray⟩]).call b1); have cc0 : w1.cell? ⟨w.heap.size, 0, none⟩ = some (.string ⟨cv0.toArray⟩) := c1.out.cell 0; have cc1 : w1.cell? ⟨w.heap.size, 1, none⟩ = some (.string ⟨ca0.toArray⟩) := c1.out.cell 1; have clt : w.heap.size < w1.heap.size := c1.out.lt; have dc0 : w1.cell? ⟨w.heap.size + 1, 0, none⟩ = some (.string ⟨cv1.toArray⟩) := (by have h := d1.out.cell 0; simp at h; exact h); have dc1 : w1.cell? ⟨w.heap.size + 1, 1, none⟩ = some (.string ⟨ca1.toArray⟩) := (by have h := d1.out.cell 1; simp at h; exact h); have dlt : w.heap.size + 1 < w1.heap.size := (by have h := d1.out.lt; simp at h; exact h)))
    all_goals (go_ret; exact ⟨by first | rfl | (simp; done) | (simp; omega), B1.out⟩)
  have hq' : ¬ (300 : Int) < (cv1.length : Int) := by omega
  by_cases hr : 300 < ca1.length
  · have hr' : (300 : Int) < (ca1.length : Int) := by omega
    have B0 := Lib.hid (Below.refl w.heap.size w)
    go_enter Tryd.func8, Tryd.ntmps8
    go_wp2_with (first
          | (go_at_call 9; refine (awake_any _ (E.below (((B0.out).alloc B0.out.size (.cells #[.string ⟨cv0.toArray⟩, .string ⟨ca0.toArray⟩] 23)).alloc (by have := B0.out.size; simp <;> omega) (.cells #[.string ⟨cv1.toArray⟩, .string ⟨ca1.toArray⟩] 23)))).mono ?_; rintro e w1 ⟨rfl, b1⟩; have B1 := Lib.hid ((((B0.out).alloc B0.out.size (.cells #[.string ⟨cv0.toArray⟩, .string ⟨ca0.toArray⟩] 23)).alloc (by have := B0.out.size; simp <;> omega) (.cells #[.string ⟨cv1.toArray⟩, .string ⟨ca1.toArray⟩] 23)).trans (b1.mono (by have := B0.out.size; simp <;> omega))); have c1 := Lib.hid (((IsRow.made w 23 #[.string ⟨cv0.toArray⟩, .string ⟨ca0.toArray⟩]).alloc (.cells #[.string ⟨cv1.toArray⟩, .string ⟨ca1.toArray⟩] 23)).call b1); have d1 := Lib.hid ((IsRow.made (w.alloc (.cells #[.string ⟨cv0.toArray⟩, .string ⟨ca0.toArray⟩] 23)) 23 #[.string ⟨cv1.toArray⟩, .string ⟨ca1.toArray⟩]).call b1); have cc0 : w1.cell? ⟨w.heap.size, 0, none⟩ = some (.string ⟨cv0.toArray⟩) := c1.out.cell 0; have cc1 : w1.cell? ⟨w.heap.size, 1, none⟩ = some (.string ⟨ca0.toArray⟩) := c1.out.cell 1; have clt : w.heap.size < w1.heap.size := c1.out.lt; have dc0 : w1.cell? ⟨w.heap.size + 1, 0, none⟩ = some (.string ⟨cv1.toArray⟩) := (by have h := d1.out.cell 0; simp at h; exact h); have dc1 : w1.cell? ⟨w.heap.size + 1, 1, none⟩ = some (.string ⟨ca1.toArray⟩) := (by have h := d1.out.cell 1; simp at h; exact h); have dlt : w.heap.size + 1 < w1.heap.size := (by have h := d1.out.lt; simp at h; exact h)))
    all_goals (go_ret; exact ⟨by first | rfl | (simp; done) | (simp; omega), B1.out⟩)
  have hr' : ¬ (300 : Int) < (ca1.length : Int) := by omega
  have HM := Lib.hid (fun W => may_any cv0 ca0 (by omega) (by omega) W)
  have HP := Lib.hid (fun W => print_any cv0 ca0 (by omega) (by omega) W)
  have HQ := Lib.hid (fun W => print_any cv1 ca1 (by omega) (by omega) W)
  have HE := Lib.hid (fun W => equal_cmds cv0 ca0 cv1 ca1 W)
  have HPe : Hid (print cv0 ca0 = if may cv0 ca0 then (line cv0 ca0, true) else ([], false)) := Lib.hid rfl
  have HQe : Hid (print cv1 ca1 = if may cv1 ca1 then (line cv1 ca1, true) else ([], false)) := Lib.hid rfl
  have HLE := Lib.hid (fun h h' e => line_eq (v := cv0) (a := ca0) (v' := cv1) (a' := ca1) h h' e)
  clear hv ha hq hr
  cases hm : may cv0 ca0 with
  | false =>
    generalize print cv1 ca1 = Q at HQ
    obtain ⟨qt, qb⟩ := Q
    rw [show print cv0 ca0 = ([], false) from by rw [HPe.out, hm]; rfl] at HP
    rw [hm] at HM
    simp only at HP HQ
    clear HPe HQe HE HLE hm
    have B0 := Lib.hid (Below.refl w.heap.size w)
    go_enter Tryd.func8, Tryd.ntmps8
    go_wp2_with (first
          | (go_at_call 9; refine (awake_any _ (E.below (((B0.out).alloc B0.out.size (.cells #[.string ⟨cv0.toArray⟩, .string ⟨ca0.toArray⟩] 23)).alloc (by have := B0.out.size; simp <;> omega) (.cells #[.string ⟨cv1.toArray⟩, .string ⟨ca1.toArray⟩] 23)))).mono ?_; rintro e w1 ⟨rfl, b1⟩; have B1 := Lib.hid ((((B0.out).alloc B0.out.size (.cells #[.string ⟨cv0.toArray⟩, .string ⟨ca0.toArray⟩] 23)).alloc (by have := B0.out.size; simp <;> omega) (.cells #[.string ⟨cv1.toArray⟩, .string ⟨ca1.toArray⟩] 23)).trans (b1.mono (by have := B0.out.size; simp <;> omega))); have c1 := Lib.hid (((IsRow.made w 23 #[.string ⟨cv0.toArray⟩, .string ⟨ca0.toArray⟩]).alloc (.cells #[.string ⟨cv1.toArray⟩, .string ⟨ca1.toArray⟩] 23)).call b1); have d1 := Lib.hid ((IsRow.made (w.alloc (.cells #[.string ⟨cv0.toArray⟩, .string ⟨ca0.toArray⟩] 23)) 23 #[.string ⟨cv1.toArray⟩, .string ⟨ca1.toArray⟩]).call b1); have cc0 : w1.cell? ⟨w.heap.size, 0, none⟩ = some (.string ⟨cv0.toArray⟩) := c1.out.cell 0; have cc1 : w1.cell? ⟨w.heap.size, 1, none⟩ = some (.string ⟨ca0.toArray⟩) := c1.out.cell 1; have clt : w.heap.size < w1.heap.size := c1.out.lt; have dc0 : w1.cell? ⟨w.heap.size + 1, 0, none⟩ = some (.string ⟨cv1.toArray⟩) := (by have h := d1.out.cell 0; simp at h; exact h); have dc1 : w1.cell? ⟨w.heap.size + 1, 1, none⟩ = some (.string ⟨ca1.toArray⟩) := (by have h := d1.out.cell 1; simp at h; exact h); have dlt : w.heap.size + 1 < w1.heap.size := (by have h := d1.out.lt; simp at h; exact h))
          | (go_at_call 11; refine (HP.out _).mono ?_; rintro e w2 ⟨rfl, b2⟩; have B2 := Lib.hid (B1.out.trans (b2.mono B1.out.size)); have c2 := Lib.hid (c1.out.call b2); have d2 := Lib.hid (d1.out.call b2); clear cc0 cc1 clt dc0 dc1 dlt; have cc0 : w2.cell? ⟨w.heap.size, 0, none⟩ = some (.string ⟨cv0.toArray⟩) := c2.out.cell 0; have cc1 : w2.cell? ⟨w.heap.size, 1, none⟩ = some (.string ⟨ca0.toArray⟩) := c2.out.cell 1; have clt : w.heap.size < w2.heap.size := c2.out.lt; have dc0 : w2.cell? ⟨w.heap.size + 1, 0, none⟩ = some (.string ⟨cv1.toArray⟩) := (by have h := d2.out.cell 0; simp at h; exact h); have dc1 : w2.cell? ⟨w.heap.size + 1, 1, none⟩ = some (.string ⟨ca1.toArray⟩) := (by have h := d2.out.cell 1; simp at h; exact h); have dlt : w.heap.size + 1 < w2.heap.size := (by have h := d2.out.lt; simp at h; exact h); clear HP; clear c1 d1)
          | (go_at_call 11; refine (HQ.out _).mono ?_; rintro e w3 ⟨rfl, b3⟩; have B3 := Lib.hid (B2.out.trans (b3.mono B2.out.size)); have c3 := Lib.hid (c2.out.call b3); have d3 := Lib.hid (d2.out.call b3); clear cc0 cc1 clt dc0 dc1 dlt; have cc0 : w3.cell? ⟨w.heap.size, 0, none⟩ = some (.string ⟨cv0.toArray⟩) := c3.out.cell 0; have cc1 : w3.cell? ⟨w.heap.size, 1, none⟩ = some (.string ⟨ca0.toArray⟩) := c3.out.cell 1; have clt : w.heap.size < w3.heap.size := c3.out.lt; have dc0 : w3.cell? ⟨w.heap.size + 1, 0, none⟩ = some (.string ⟨cv1.toArray⟩) := (by have h := d3.out.cell 0; simp at h; exact h); have dc1 : w3.cell? ⟨w.heap.size + 1, 1, none⟩ = some (.string ⟨ca1.toArray⟩) := (by have h := d3.out.cell 1; simp at h; exact h); have dlt : w.heap.size + 1 < w3.heap.size := (by have h := d3.out.lt; simp at h; exact h); clear c2 d2)
          | (go_at_call 16; refine (HM.out _).mono ?_; rintro e w4 ⟨rfl, b4⟩; have B4 := Lib.hid (B3.out.trans (b4.mono B3.out.size)); have c4 := Lib.hid (c3.out.call b4); have d4 := Lib.hid (d3.out.call b4); clear cc0 cc1 clt dc0 dc1 dlt; clear c3 d3))
    all_goals (go_ret; exact ⟨by first | rfl | (simp; done) | (simp; omega), B4.out⟩)
  | true =>
    have HPv : Hid (print cv0 ca0 = (line cv0 ca0, true)) := Lib.hid (by rw [HPe.out, hm]; rfl)
    have HM' := Lib.hid hm
    rw [HPv.out] at HP
    simp only at HP
    clear HPe HM hm
    have hbp : cv0.length ≤ (line cv0 ca0).length := by unfold line; split <;> simp
    have hx1 : (ByteArray.mk (line cv0 ca0).toArray).extract 0 cv0.length = ⟨cv0.toArray⟩ := by
      apply ByteArray.ext
      unfold line
      split <;> simp [ByteArray.data_extract]
    cases he : (ca0 == []) with
    | true =>
      have HL : ((line cv0 ca0).length : Int) = (cv0.length : Int) := by have e := beq_iff_eq.1 he; rw [e]; rfl
      have HPT : Hid (line cv0 ca0 = line cv0 ca0) := Lib.hid rfl
      clear HPv
      obtain ⟨pt, hpt⟩ : ∃ pt, pt = line cv0 ca0 := ⟨_, rfl⟩
      rw [← hpt] at HP hbp hx1 HL
      clear HPT
      have HPT := Lib.hid hpt
      clear hpt
      cases hq : may cv1 ca1 with
      | false =>
        rw [show print cv1 ca1 = ([], false) from by rw [HQe.out, hq]; rfl] at HQ
        simp only at HQ
        clear HQe HE HLE hq
        have B0 := Lib.hid (Below.refl w.heap.size w)
        go_enter Tryd.func8, Tryd.ntmps8
        go_wp2_with (first
            | (go_at_call 9; refine (awake_any _ (E.below (((B0.out).alloc B0.out.size (.cells #[.string ⟨cv0.toArray⟩, .string ⟨ca0.toArray⟩] 23)).alloc (by have := B0.out.size; simp <;> omega) (.cells #[.string ⟨cv1.toArray⟩, .string ⟨ca1.toArray⟩] 23)))).mono ?_; rintro e w1 ⟨rfl, b1⟩; have B1 := Lib.hid ((((B0.out).alloc B0.out.size (.cells #[.string ⟨cv0.toArray⟩, .string ⟨ca0.toArray⟩] 23)).alloc (by have := B0.out.size; simp <;> omega) (.cells #[.string ⟨cv1.toArray⟩, .string ⟨ca1.toArray⟩] 23)).trans (b1.mono (by have := B0.out.size; simp <;> omega))); have c1 := Lib.hid (((IsRow.made w 23 #[.string ⟨cv0.toArray⟩, .string ⟨ca0.toArray⟩]).alloc (.cells #[.string ⟨cv1.toArray⟩, .string ⟨ca1.toArray⟩] 23)).call b1); have d1 := Lib.hid ((IsRow.made (w.alloc (.cells #[.string ⟨cv0.toArray⟩, .string ⟨ca0.toArray⟩] 23)) 23 #[.string ⟨cv1.toArray⟩, .string ⟨ca1.toArray⟩]).call b1); have cc0 : w1.cell? ⟨w.heap.size, 0, none⟩ = some (.string ⟨cv0.toArray⟩) := c1.out.cell 0; have cc1 : w1.cell? ⟨w.heap.size, 1, none⟩ = some (.string ⟨ca0.toArray⟩) := c1.out.cell 1; have clt : w.heap.size < w1.heap.size := c1.out.lt; have dc0 : w1.cell? ⟨w.heap.size + 1, 0, none⟩ = some (.string ⟨cv1.toArray⟩) := (by have h := d1.out.cell 0; simp at h; exact h); have dc1 : w1.cell? ⟨w.heap.size + 1, 1, none⟩ = some (.string ⟨ca1.toArray⟩) := (by have h := d1.out.cell 1; simp at h; exact h); have dlt : w.heap.size + 1 < w1.heap.size := (by have h := d1.out.lt; simp at h; exact h))
            | (go_at_call 11; refine (HP.out _).mono ?_; rintro e w2 ⟨rfl, b2⟩; have B2 := Lib.hid (B1.out.trans (b2.mono B1.out.size)); have c2 := Lib.hid (c1.out.call b2); have d2 := Lib.hid (d1.out.call b2); clear cc0 cc1 clt dc0 dc1 dlt; have cc0 : w2.cell? ⟨w.heap.size, 0, none⟩ = some (.string ⟨cv0.toArray⟩) := c2.out.cell 0; have cc1 : w2.cell? ⟨w.heap.size, 1, none⟩ = some (.string ⟨ca0.toArray⟩) := c2.out.cell 1; have clt : w.heap.size < w2.heap.size := c2.out.lt; have dc0 : w2.cell? ⟨w.heap.size + 1, 0, none⟩ = some (.string ⟨cv1.toArray⟩) := (by have h := d2.out.cell 0; simp at h; exact h); have dc1 : w2.cell? ⟨w.heap.size + 1, 1, none⟩ = some (.string ⟨ca1.toArray⟩) := (by have h := d2.out.cell 1; simp at h; exact h); have dlt : w.heap.size + 1 < w2.heap.size := (by have h := d2.out.lt; simp at h; exact h); clear HP; clear c1 d1)
            | (go_at_call 11; refine (HQ.out _).mono ?_; rintro e w3 ⟨rfl, b3⟩; have B3 := Lib.hid (B2.out.trans (b3.mono B2.out.size)); have c3 := Lib.hid (c2.out.call b3); have d3 := Lib.hid (d2.out.call b3); clear cc0 cc1 clt dc0 dc1 dlt; have cc0 : w3.cell? ⟨w.heap.size, 0, none⟩ = some (.string ⟨cv0.toArray⟩) := c3.out.cell 0; have cc1 : w3.cell? ⟨w.heap.size, 1, none⟩ = some (.string ⟨ca0.toArray⟩) := c3.out.cell 1; have clt : w.heap.size < w3.heap.size := c3.out.lt; have dc0 : w3.cell? ⟨w.heap.size + 1, 0, none⟩ = some (.string ⟨cv1.toArray⟩) := (by have h := d3.out.cell 0; simp at h; exact h); have dc1 : w3.cell? ⟨w.heap.size + 1, 1, none⟩ = some (.string ⟨ca1.toArray⟩) := (by have h := d3.out.cell 1; simp at h; exact h); have dlt : w.heap.size + 1 < w3.heap.size := (by have h := d3.out.lt; simp at h; exact h); clear c2 d2))
        go_quiet (fail)
        go_wp2_with fail
        all_goals (go_ret; exact ⟨by first | rfl | (simp; done) | (simp; omega), by first | exact B3.out | exact B3.out.trans ⟨rfl, rfl, rfl, Nat.le_refl _, fun _ _ => rfl⟩⟩)
      | true =>
        rw [show print cv1 ca1 = (line cv1 ca1, true) from by rw [HQe.out, hq]; rfl] at HQ
        simp only at HQ
        have hst : (pt == line cv1 ca1) = decide (cv0 = cv1 ∧ ca0 = ca1) := by
          by_cases h : cv0 = cv1 ∧ ca0 = ca1
          · rw [decide_eq_true h]; obtain ⟨rfl, rfl⟩ := h; exact beq_iff_eq.2 HPT.out
          · rw [decide_eq_false h]; exact beq_eq_false_iff_ne.2 (fun e => h (HLE.out HM'.out hq (by rw [← HPT.out]; exact e)))
        generalize line cv1 ca1 = qt at *
        have eqs := HE.out
        generalize decide (cv0 = cv1 ∧ ca0 = ca1) = x at hst eqs
        clear HQe HE HLE hq
        have B0 := Lib.hid (Below.refl w.heap.size w)
        go_enter Tryd.func8, Tryd.ntmps8
        go_wp2_with (first
            | (go_at_call 9; refine (awake_any _ (E.below (((B0.out).alloc B0.out.size (.cells #[.string ⟨cv0.toArray⟩, .string ⟨ca0.toArray⟩] 23)).alloc (by have := B0.out.size; simp <;> omega) (.cells #[.string ⟨cv1.toArray⟩, .string ⟨ca1.toArray⟩] 23)))).mono ?_; rintro e w1 ⟨rfl, b1⟩; have B1 := Lib.hid ((((B0.out).alloc B0.out.size (.cells #[.string ⟨cv0.toArray⟩, .string ⟨ca0.toArray⟩] 23)).alloc (by have := B0.out.size; simp <;> omega) (.cells #[.string ⟨cv1.toArray⟩, .string ⟨ca1.toArray⟩] 23)).trans (b1.mono (by have := B0.out.size; simp <;> omega))); have c1 := Lib.hid (((IsRow.made w 23 #[.string ⟨cv0.toArray⟩, .string ⟨ca0.toArray⟩]).alloc (.cells #[.string ⟨cv1.toArray⟩, .string ⟨ca1.toArray⟩] 23)).call b1); have d1 := Lib.hid ((IsRow.made (w.alloc (.cells #[.string ⟨cv0.toArray⟩, .string ⟨ca0.toArray⟩] 23)) 23 #[.string ⟨cv1.toArray⟩, .string ⟨ca1.toArray⟩]).call b1); have cc0 : w1.cell? ⟨w.heap.size, 0, none⟩ = some (.string ⟨cv0.toArray⟩) := c1.out.cell 0; have cc1 : w1.cell? ⟨w.heap.size, 1, none⟩ = some (.string ⟨ca0.toArray⟩) := c1.out.cell 1; have clt : w.heap.size < w1.heap.size := c1.out.lt; have dc0 : w1.cell? ⟨w.heap.size + 1, 0, none⟩ = some (.string ⟨cv1.toArray⟩) := (by have h := d1.out.cell 0; simp at h; exact h); have dc1 : w1.cell? ⟨w.heap.size + 1, 1, none⟩ = some (.string ⟨ca1.toArray⟩) := (by have h := d1.out.cell 1; simp at h; exact h); have dlt : w.heap.size + 1 < w1.heap.size := (by have h := d1.out.lt; simp at h; exact h))
            | (go_at_call 11; refine (HP.out _).mono ?_; rintro e w2 ⟨rfl, b2⟩; have B2 := Lib.hid (B1.out.trans (b2.mono B1.out.size)); have c2 := Lib.hid (c1.out.call b2); have d2 := Lib.hid (d1.out.call b2); clear cc0 cc1 clt dc0 dc1 dlt; have cc0 : w2.cell? ⟨w.heap.size, 0, none⟩ = some (.string ⟨cv0.toArray⟩) := c2.out.cell 0; have cc1 : w2.cell? ⟨w.heap.size, 1, none⟩ = some (.string ⟨ca0.toArray⟩) := c2.out.cell 1; have clt : w.heap.size < w2.heap.size := c2.out.lt; have dc0 : w2.cell? ⟨w.heap.size + 1, 0, none⟩ = some (.string ⟨cv1.toArray⟩) := (by have h := d2.out.cell 0; simp at h; exact h); have dc1 : w2.cell? ⟨w.heap.size + 1, 1, none⟩ = some (.string ⟨ca1.toArray⟩) := (by have h := d2.out.cell 1; simp at h; exact h); have dlt : w.heap.size + 1 < w2.heap.size := (by have h := d2.out.lt; simp at h; exact h); clear HP; clear c1 d1)
            | (go_at_call 11; refine (HQ.out _).mono ?_; rintro e w3 ⟨rfl, b3⟩; have B3 := Lib.hid (B2.out.trans (b3.mono B2.out.size)); have c3 := Lib.hid (c2.out.call b3); have d3 := Lib.hid (d2.out.call b3); clear cc0 cc1 clt dc0 dc1 dlt; have cc0 : w3.cell? ⟨w.heap.size, 0, none⟩ = some (.string ⟨cv0.toArray⟩) := c3.out.cell 0; have cc1 : w3.cell? ⟨w.heap.size, 1, none⟩ = some (.string ⟨ca0.toArray⟩) := c3.out.cell 1; have clt : w.heap.size < w3.heap.size := c3.out.lt; have dc0 : w3.cell? ⟨w.heap.size + 1, 0, none⟩ = some (.string ⟨cv1.toArray⟩) := (by have h := d3.out.cell 0; simp at h; exact h); have dc1 : w3.cell? ⟨w.heap.size + 1, 1, none⟩ = some (.string ⟨ca1.toArray⟩) := (by have h := d3.out.cell 1; simp at h; exact h); have dlt : w.heap.size + 1 < w3.heap.size := (by have h := d3.out.lt; simp at h; exact h); clear c2 d2))
        go_quiet (fail)
        go_wp2_with fail
        all_goals (go_ret; exact ⟨by first | rfl | (simp; done) | (simp; omega), by first | exact B3.out | exact B3.out.trans ⟨rfl, rfl, rfl, Nat.le_refl _, fun _ _ => rfl⟩⟩)
    | false =>
      have HL : (ByteArray.mk (line cv0 ca0).toArray).extract cv0.length (line cv0 ca0).length = ⟨(32 :: ca0).toArray⟩ := by
        have e := beq_eq_false_iff_ne.1 he
        apply ByteArray.ext
        unfold line
        rw [if_neg e]
        simp [ByteArray.data_extract]
      have hx3 : (ByteArray.mk #[32] ++ ByteArray.mk ca0.toArray) = ⟨(32 :: ca0).toArray⟩ := by apply ByteArray.ext; simp [ByteArray.data_append]
      have HPT : Hid (line cv0 ca0 = line cv0 ca0) := Lib.hid rfl
      clear HPv
      obtain ⟨pt, hpt⟩ : ∃ pt, pt = line cv0 ca0 := ⟨_, rfl⟩
      rw [← hpt] at HP hbp hx1 HL
      clear HPT
      have HPT := Lib.hid hpt
      clear hpt
      cases hq : may cv1 ca1 with
      | false =>
        rw [show print cv1 ca1 = ([], false) from by rw [HQe.out, hq]; rfl] at HQ
        simp only at HQ
        clear HQe HE HLE hq
        have B0 := Lib.hid (Below.refl w.heap.size w)
        go_enter Tryd.func8, Tryd.ntmps8
        go_wp2_with (first
            | (go_at_call 9; refine (awake_any _ (E.below (((B0.out).alloc B0.out.size (.cells #[.string ⟨cv0.toArray⟩, .string ⟨ca0.toArray⟩] 23)).alloc (by have := B0.out.size; simp <;> omega) (.cells #[.string ⟨cv1.toArray⟩, .string ⟨ca1.toArray⟩] 23)))).mono ?_; rintro e w1 ⟨rfl, b1⟩; have B1 := Lib.hid ((((B0.out).alloc B0.out.size (.cells #[.string ⟨cv0.toArray⟩, .string ⟨ca0.toArray⟩] 23)).alloc (by have := B0.out.size; simp <;> omega) (.cells #[.string ⟨cv1.toArray⟩, .string ⟨ca1.toArray⟩] 23)).trans (b1.mono (by have := B0.out.size; simp <;> omega))); have c1 := Lib.hid (((IsRow.made w 23 #[.string ⟨cv0.toArray⟩, .string ⟨ca0.toArray⟩]).alloc (.cells #[.string ⟨cv1.toArray⟩, .string ⟨ca1.toArray⟩] 23)).call b1); have d1 := Lib.hid ((IsRow.made (w.alloc (.cells #[.string ⟨cv0.toArray⟩, .string ⟨ca0.toArray⟩] 23)) 23 #[.string ⟨cv1.toArray⟩, .string ⟨ca1.toArray⟩]).call b1); have cc0 : w1.cell? ⟨w.heap.size, 0, none⟩ = some (.string ⟨cv0.toArray⟩) := c1.out.cell 0; have cc1 : w1.cell? ⟨w.heap.size, 1, none⟩ = some (.string ⟨ca0.toArray⟩) := c1.out.cell 1; have clt : w.heap.size < w1.heap.size := c1.out.lt; have dc0 : w1.cell? ⟨w.heap.size + 1, 0, none⟩ = some (.string ⟨cv1.toArray⟩) := (by have h := d1.out.cell 0; simp at h; exact h); have dc1 : w1.cell? ⟨w.heap.size + 1, 1, none⟩ = some (.string ⟨ca1.toArray⟩) := (by have h := d1.out.cell 1; simp at h; exact h); have dlt : w.heap.size + 1 < w1.heap.size := (by have h := d1.out.lt; simp at h; exact h))
            | (go_at_call 11; refine (HP.out _).mono ?_; rintro e w2 ⟨rfl, b2⟩; have B2 := Lib.hid (B1.out.trans (b2.mono B1.out.size)); have c2 := Lib.hid (c1.out.call b2); have d2 := Lib.hid (d1.out.call b2); clear cc0 cc1 clt dc0 dc1 dlt; have cc0 : w2.cell? ⟨w.heap.size, 0, none⟩ = some (.string ⟨cv0.toArray⟩) := c2.out.cell 0; have cc1 : w2.cell? ⟨w.heap.size, 1, none⟩ = some (.string ⟨ca0.toArray⟩) := c2.out.cell 1; have clt : w.heap.size < w2.heap.size := c2.out.lt; have dc0 : w2.cell? ⟨w.heap.size + 1, 0, none⟩ = some (.string ⟨cv1.toArray⟩) := (by have h := d2.out.cell 0; simp at h; exact h); have dc1 : w2.cell? ⟨w.heap.size + 1, 1, none⟩ = some (.string ⟨ca1.toArray⟩) := (by have h := d2.out.cell 1; simp at h; exact h); have dlt : w.heap.size + 1 < w2.heap.size := (by have h := d2.out.lt; simp at h; exact h); clear HP; clear c1 d1)
            | (go_at_call 11; refine (HQ.out _).mono ?_; rintro e w3 ⟨rfl, b3⟩; have B3 := Lib.hid (B2.out.trans (b3.mono B2.out.size)); have c3 := Lib.hid (c2.out.call b3); have d3 := Lib.hid (d2.out.call b3); clear cc0 cc1 clt dc0 dc1 dlt; have cc0 : w3.cell? ⟨w.heap.size, 0, none⟩ = some (.string ⟨cv0.toArray⟩) := c3.out.cell 0; have cc1 : w3.cell? ⟨w.heap.size, 1, none⟩ = some (.string ⟨ca0.toArray⟩) := c3.out.cell 1; have clt : w.heap.size < w3.heap.size := c3.out.lt; have dc0 : w3.cell? ⟨w.heap.size + 1, 0, none⟩ = some (.string ⟨cv1.toArray⟩) := (by have h := d3.out.cell 0; simp at h; exact h); have dc1 : w3.cell? ⟨w.heap.size + 1, 1, none⟩ = some (.string ⟨ca1.toArray⟩) := (by have h := d3.out.cell 1; simp at h; exact h); have dlt : w.heap.size + 1 < w3.heap.size := (by have h := d3.out.lt; simp at h; exact h); clear c2 d2))
        go_quiet (fail)
        go_wp2_with fail
        all_goals (go_ret; exact ⟨by first | rfl | (simp; done) | (simp; omega), by first | exact B3.out | exact B3.out.trans ⟨rfl, rfl, rfl, Nat.le_refl _, fun _ _ => rfl⟩⟩)
      | true =>
        rw [show print cv1 ca1 = (line cv1 ca1, true) from by rw [HQe.out, hq]; rfl] at HQ
        simp only at HQ
        have hst : (pt == line cv1 ca1) = decide (cv0 = cv1 ∧ ca0 = ca1) := by
          by_cases h : cv0 = cv1 ∧ ca0 = ca1
          · rw [decide_eq_true h]; obtain ⟨rfl, rfl⟩ := h; exact beq_iff_eq.2 HPT.out
          · rw [decide_eq_false h]; exact beq_eq_false_iff_ne.2 (fun e => h (HLE.out HM'.out hq (by rw [← HPT.out]; exact e)))
        generalize line cv1 ca1 = qt at *
        have eqs := HE.out
        generalize decide (cv0 = cv1 ∧ ca0 = ca1) = x at hst eqs
        clear HQe HE HLE hq
        have B0 := Lib.hid (Below.refl w.heap.size w)
        go_enter Tryd.func8, Tryd.ntmps8
        go_wp2_with (first
            | (go_at_call 9; refine (awake_any _ (E.below (((B0.out).alloc B0.out.size (.cells #[.string ⟨cv0.toArray⟩, .string ⟨ca0.toArray⟩] 23)).alloc (by have := B0.out.size; simp <;> omega) (.cells #[.string ⟨cv1.toArray⟩, .string ⟨ca1.toArray⟩] 23)))).mono ?_; rintro e w1 ⟨rfl, b1⟩; have B1 := Lib.hid ((((B0.out).alloc B0.out.size (.cells #[.string ⟨cv0.toArray⟩, .string ⟨ca0.toArray⟩] 23)).alloc (by have := B0.out.size; simp <;> omega) (.cells #[.string ⟨cv1.toArray⟩, .string ⟨ca1.toArray⟩] 23)).trans (b1.mono (by have := B0.out.size; simp <;> omega))); have c1 := Lib.hid (((IsRow.made w 23 #[.string ⟨cv0.toArray⟩, .string ⟨ca0.toArray⟩]).alloc (.cells #[.string ⟨cv1.toArray⟩, .string ⟨ca1.toArray⟩] 23)).call b1); have d1 := Lib.hid ((IsRow.made (w.alloc (.cells #[.string ⟨cv0.toArray⟩, .string ⟨ca0.toArray⟩] 23)) 23 #[.string ⟨cv1.toArray⟩, .string ⟨ca1.toArray⟩]).call b1); have cc0 : w1.cell? ⟨w.heap.size, 0, none⟩ = some (.string ⟨cv0.toArray⟩) := c1.out.cell 0; have cc1 : w1.cell? ⟨w.heap.size, 1, none⟩ = some (.string ⟨ca0.toArray⟩) := c1.out.cell 1; have clt : w.heap.size < w1.heap.size := c1.out.lt; have dc0 : w1.cell? ⟨w.heap.size + 1, 0, none⟩ = some (.string ⟨cv1.toArray⟩) := (by have h := d1.out.cell 0; simp at h; exact h); have dc1 : w1.cell? ⟨w.heap.size + 1, 1, none⟩ = some (.string ⟨ca1.toArray⟩) := (by have h := d1.out.cell 1; simp at h; exact h); have dlt : w.heap.size + 1 < w1.heap.size := (by have h := d1.out.lt; simp at h; exact h))
            | (go_at_call 11; refine (HP.out _).mono ?_; rintro e w2 ⟨rfl, b2⟩; have B2 := Lib.hid (B1.out.trans (b2.mono B1.out.size)); have c2 := Lib.hid (c1.out.call b2); have d2 := Lib.hid (d1.out.call b2); clear cc0 cc1 clt dc0 dc1 dlt; have cc0 : w2.cell? ⟨w.heap.size, 0, none⟩ = some (.string ⟨cv0.toArray⟩) := c2.out.cell 0; have cc1 : w2.cell? ⟨w.heap.size, 1, none⟩ = some (.string ⟨ca0.toArray⟩) := c2.out.cell 1; have clt : w.heap.size < w2.heap.size := c2.out.lt; have dc0 : w2.cell? ⟨w.heap.size + 1, 0, none⟩ = some (.string ⟨cv1.toArray⟩) := (by have h := d2.out.cell 0; simp at h; exact h); have dc1 : w2.cell? ⟨w.heap.size + 1, 1, none⟩ = some (.string ⟨ca1.toArray⟩) := (by have h := d2.out.cell 1; simp at h; exact h); have dlt : w.heap.size + 1 < w2.heap.size := (by have h := d2.out.lt; simp at h; exact h); clear HP; clear c1 d1)
            | (go_at_call 11; refine (HQ.out _).mono ?_; rintro e w3 ⟨rfl, b3⟩; have B3 := Lib.hid (B2.out.trans (b3.mono B2.out.size)); have c3 := Lib.hid (c2.out.call b3); have d3 := Lib.hid (d2.out.call b3); clear cc0 cc1 clt dc0 dc1 dlt; have cc0 : w3.cell? ⟨w.heap.size, 0, none⟩ = some (.string ⟨cv0.toArray⟩) := c3.out.cell 0; have cc1 : w3.cell? ⟨w.heap.size, 1, none⟩ = some (.string ⟨ca0.toArray⟩) := c3.out.cell 1; have clt : w.heap.size < w3.heap.size := c3.out.lt; have dc0 : w3.cell? ⟨w.heap.size + 1, 0, none⟩ = some (.string ⟨cv1.toArray⟩) := (by have h := d3.out.cell 0; simp at h; exact h); have dc1 : w3.cell? ⟨w.heap.size + 1, 1, none⟩ = some (.string ⟨ca1.toArray⟩) := (by have h := d3.out.cell 1; simp at h; exact h); have dlt : w.heap.size + 1 < w3.heap.size := (by have h := d3.out.lt; simp at h; exact h); clear c2 d2))
        go_quiet (fail)
        go_wp2_with fail
        all_goals (go_ret; exact ⟨by first | rfl | (simp; done) | (simp; omega), by first | exact B3.out | exact B3.out.trans ⟨rfl, rfl, rfl, Nat.le_refl _, fun _ _ => rfl⟩⟩)

set_option maxRecDepth 100000 in
theorem lifted (os : Os) (started : os.Started) (H : Type) (enc : TypeId × Value → H) :
    ReturnsInHanded {} Tryd.checked os 8 .any (fun w args => (Rows.cmdOnlySpec.pre enc Tryd.prog Tryd.f8 [] false w args ∧ laidMetH Tryd.prog laidHere w) ∧ sizedMet enc Tryd.prog Tryd.f8 (OpenSpec.ofChange Rows.cmdOnlySpec) false w args)
      (Rows.cmdOnlySpec.post enc Tryd.prog Tryd.f8 false true false false) := by
  refine handed started (by kernel_rfl) Tryd.func8 #[.agg #[.string ⟨#[]⟩, .string ⟨#[]⟩], .agg #[.string ⟨#[]⟩, .string ⟨#[]⟩]] (by kernel_rfl) (by kernel_rfl) (by kernel_rfl) (World.shaped_of_ZipB (by kernel_rfl) (by kernel_rfl)) ?_
  intro W base args ds gs before hval0 hW E
  have hval : ∀ (j : Nat) t v, Tryd.f8.params[j]? = some t → args[j]? = some v → Value.okWide Tryd.prog W .any base t v := hval0
  have hW' := hW
  obtain ⟨p, q, hA0, hV, rfl, _, _⟩ := hW
  have hA : DataW.TrodAll enc Tryd.prog W 0 (fun _ => true) true Tryd.f8.params.toList args.toList ds p := hA0
  rw [Tryd.params8] at hA hval
  obtain ⟨v0, vs0, d0, ds0, p0, q0, hargs, rfl, rfl, r0, t0⟩ := trodAll_cons hA
  obtain ⟨v1, vs1, d1, ds1, p1, q1, rfl, rfl, rfl, r1, t1⟩ := trodAll_cons t0
  obtain ⟨rfl, rfl, rfl⟩ := trodAll_nil t1
  obtain rfl : args = #[v0, v1] := by cases args; simp_all
  obtain ⟨rfl, rfl⟩ := trodVars_none hV
  obtain ⟨cv0, ca0, rfl, rfl, rfl, wv0, wa0⟩ := open_cmd (hval 0 23 v0 rfl rfl) r0
  obtain ⟨cv1, ca1, rfl, rfl, rfl, wv1, wa1⟩ := open_cmd (hval 1 23 v1 rfl rfl) r1
  clear hA0 hval0
  simp only [List.append_nil] at hW'
  refine (walk cv0 ca0 (by have := wv0; unfold maxLen at this; exact this) (by have := wa0; unfold maxLen at this; exact this) cv1 ca1 (by have := wv1; unfold maxLen at this; exact this) (by have := wa1; unfold maxLen at this; exact this) W  E).mono fun e W' ⟨he, hb⟩ => ?_
  subst he
  exact ⟨_, rfl, told hW' (fun _ _ _ => trodAll_cons_mk (shut_bool Tryd.underlying4 _) trodAll_mk0) (trodAll_cons_mk (shut_cmd wv0 wa0) (trodAll_cons_mk (shut_cmd wv1 wa1) trodAll_mk0)) (fun _ => rfl) hb⟩

theorem over : Rows.CmdOnlySaid :=
  OpenClaim.holds_of_wide 8 Tryd.f8 rfl rfl rfl rfl rfl rfl rfl ⟨rfl, rfl, rfl, rfl, rfl⟩ rfl rfl rfl rfl rfl (by kernel_rfl) Tryd.func8 (by kernel_rfl)
    (of_decide_eq_true (by kernel_rfl)) (by unfold Func.isWrapper; first | (rw [if_pos (by decide +kernel)]; kernel_rfl) | (rw [if_neg (by decide +kernel)]; exact ⟨rfl, rfl⟩))
    (fun os started H enc _ => lifted os started H enc)

theorem proved : Rows.CmdOnlyCardSaid :=
  Claim7.holds_tied_plain_at .later [] Rows.cmdOnlyCard.laidKinds true Rows.cmdOnlyCard.stood.harness Rows.cmdOnlyCard.stood.looks
    over (fun _ h => by cases h) (by kernel_rfl) (fun _ h => by cases h) cmdOnly_row_tie rfl ⟨rfl, rfl⟩ (by kernel_rfl) rfl
    (fun f fn hf hfn => by
      obtain rfl : f = 8 := Option.some.inj ((show Tryd.prog.funcNamed "wharfinger/wharfingerlaw08.CmdOnly" = some 8 by kernel_rfl).symm.trans hf) |>.symm
      obtain rfl : fn = Tryd.f8 := (Option.some.inj (Tryd.func8.symm.trans hfn)).symm
      exact ⟨by kernel_rfl, fun j t ht => by
        rw [Tryd.params8] at ht
        have hm : t ∈ [23, 23] := by simpa using Array.mem_of_getElem? ht
        have hall : ([23, 23].all fun u => !Tryd.prog.wantsStandIn u) = true := by kernel_rfl
        exact (show Tryd.prog.wantsStandIn t = false by simpa using List.all_eq_true.1 hall t hm)⟩)
    (by kernel_rfl)
#print axioms proved
end Go.Proofs.YtginmhmeepjbhaaDoor.cmdOnly
