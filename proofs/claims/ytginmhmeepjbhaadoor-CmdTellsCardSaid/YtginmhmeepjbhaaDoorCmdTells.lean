/- Proved: for every command and every text the law CmdTells of layer 8 answers true. Conditions: none beyond the row's own (the library's variables start as the program's text lays them: the card ties them). -/
import Derived.Test.YtginmhmeepjbhaaDoorCmdAwake
import Derived.BigQuiet

namespace Go.Proofs.YtginmhmeepjbhaaDoor.cmdTells
open Go.Proofs.YtginmhmeepjbhaaDoor Go.Proofs.YtginmhmeepjbhaaDoor.Cm Go.Proofs.YtginmhmeepjbhaaDoor.Vb
open Go.ChangeShapes Go.WideShapes Go.ChangeAt Go.RowKit Go.Sort Go.ChangeMaps

set_option linter.unusedVariables false in
set_option maxHeartbeats 2000000 in
set_option maxRecDepth 100000 in
theorem walk (cv0 ca0 : List UInt8) (yv0 : cv0.length ≤ 9223372036854775807) (ya0 : ca0.length ≤ 9223372036854775807) (s1 : List UInt8) (z1 : s1.length ≤ 9223372036854775807) (w : World)  (E : Env w) :
    Calls Tryd.prog 3 #[cmdV cv0 ca0, str s1] w fun e w' => e = .returned (.bool true) ∧ Below w.heap.size w w' := by
  by_cases hv : 300 < cv0.length
  · have hv' : (300 : Int) < (cv0.length : Int) := by omega
    have B0 := Lib.hid (Below.refl w.heap.size w)
    go_enter Tryd.func3, Tryd.ntmps3
    go_wp2_with (first
          | (go_at_call 9; refine (awake_any _ (E.below ((B0.out).alloc B0.out.size (.cells #[.string ⟨cv0.toArray⟩, .string ⟨ca0.toArray⟩] 23)))).mono ?_; rintro e w1 ⟨rfl, b1⟩; have B1 := Lib.hid (((B0.out).alloc B0.out.size (.cells #[.string ⟨cv0.toArray⟩, .string ⟨ca0.toArray⟩] 23)).trans (b1.mono (by have := B0.out.size; simp <;> omega))); have c1 := Lib.hid ((IsRow.made w 23 #[.string ⟨cv0.toArray⟩, .string ⟨ca0.toArray⟩]).call b1); have cc0 : w1.cell? ⟨w.heap.size, 0, none⟩ = some (.string ⟨cv0.toArray⟩) := c1.out.cell 0; have cc1 : w1.cell? ⟨w.heap.size, 1, none⟩ = some (.string ⟨ca0.toArray⟩) := c1.out.cell 1; have clt : w.heap.size < w1.heap.size := c1.out.lt))
    all_goals (go_ret; exact ⟨by first | rfl | (simp; done) | (simp; omega), B1.out⟩)
  have hv' : ¬ (300 : Int) < (cv0.length : Int) := by omega
  by_cases ha : 300 < ca0.length
  · have ha' : (300 : Int) < (ca0.length : Int) := by omega
    have B0 := Lib.hid (Below.refl w.heap.size w)
    go_enter Tryd.func3, Tryd.ntmps3
    go_wp2_with (first
          | (go_at_call 9; refine (awake_any _ (E.below ((B0.out).alloc B0.out.size (.cells #[.string ⟨cv0.toArray⟩, .string ⟨ca0.toArray⟩] 23)))).mono ?_; rintro e w1 ⟨rfl, b1⟩; have B1 := Lib.hid (((B0.out).alloc B0.out.size (.cells #[.string ⟨cv0.toArray⟩, .string ⟨ca0.toArray⟩] 23)).trans (b1.mono (by have := B0.out.size; simp <;> omega))); have c1 := Lib.hid ((IsRow.made w 23 #[.string ⟨cv0.toArray⟩, .string ⟨ca0.toArray⟩]).call b1); have cc0 : w1.cell? ⟨w.heap.size, 0, none⟩ = some (.string ⟨cv0.toArray⟩) := c1.out.cell 0; have cc1 : w1.cell? ⟨w.heap.size, 1, none⟩ = some (.string ⟨ca0.toArray⟩) := c1.out.cell 1; have clt : w.heap.size < w1.heap.size := c1.out.lt))
    all_goals (go_ret; exact ⟨by first | rfl | (simp; done) | (simp; omega), B1.out⟩)
  have ha' : ¬ (300 : Int) < (ca0.length : Int) := by omega
  by_cases hs : 300 < s1.length
  · have hs' : (300 : Int) < (s1.length : Int) := by omega
    have B0 := Lib.hid (Below.refl w.heap.size w)
    go_enter Tryd.func3, Tryd.ntmps3
    go_wp2_with (first
          | (go_at_call 9; refine (awake_any _ (E.below ((B0.out).alloc B0.out.size (.cells #[.string ⟨cv0.toArray⟩, .string ⟨ca0.toArray⟩] 23)))).mono ?_; rintro e w1 ⟨rfl, b1⟩; have B1 := Lib.hid (((B0.out).alloc B0.out.size (.cells #[.string ⟨cv0.toArray⟩, .string ⟨ca0.toArray⟩] 23)).trans (b1.mono (by have := B0.out.size; simp <;> omega))); have c1 := Lib.hid ((IsRow.made w 23 #[.string ⟨cv0.toArray⟩, .string ⟨ca0.toArray⟩]).call b1); have cc0 : w1.cell? ⟨w.heap.size, 0, none⟩ = some (.string ⟨cv0.toArray⟩) := c1.out.cell 0; have cc1 : w1.cell? ⟨w.heap.size, 1, none⟩ = some (.string ⟨ca0.toArray⟩) := c1.out.cell 1; have clt : w.heap.size < w1.heap.size := c1.out.lt))
    all_goals (go_ret; exact ⟨by first | rfl | (simp; done) | (simp; omega), B1.out⟩)
  have hs' : ¬ (300 : Int) < (s1.length : Int) := by omega
  have HM := Lib.hid (fun W => may_any cv0 ca0 (by omega) (by omega) W)
  have HMr := Lib.hid (fun W => rmay_any cv0 ca0 (by omega) (by omega) W)
  have HP := Lib.hid (fun W => print_any cv0 ca0 (by omega) (by omega) W)
  have HPr := Lib.hid (fun W => rprint_any cv0 ca0 (by omega) (by omega) W)
  have HR := Lib.hid (fun W EW => read_any s1 (by omega) W EW)
  have HRr := Lib.hid (fun W => rread_any s1 (by omega) W)
  have HC := Lib.hid (fun W => clean_any s1 (by omega) W)
  have HCr := Lib.hid (fun W => rclean_any s1 (by omega) W)
  generalize print cv0 ca0 = P at HP HPr
  obtain ⟨pt, pb⟩ := P
  generalize read s1 = X at HR HRr
  obtain ⟨⟨xv, xa⟩, xe⟩ := X
  generalize may cv0 ca0 = m at HM HMr
  generalize clean s1 = cl at HC HCr
  simp only at HP HPr HR HRr
  have eqs : ∀ W, (Op.equalIn 10000 23 (.agg #[.string ⟨xv.toArray⟩, .string ⟨xa.toArray⟩]) (.agg #[.string ⟨xv.toArray⟩, .string ⟨xa.toArray⟩])).run Tryd.prog W = .ok true W := fun W => by
    have := equal_cmds xv xa xv xa W
    rw [decide_eq_true ⟨rfl, rfl⟩] at this
    exact this
  clear hv ha hs
  have B0 := Lib.hid (Below.refl w.heap.size w)
  go_enter Tryd.func3, Tryd.ntmps3
  go_wp2_with (first
        | (go_at_call 9; refine (awake_any _ (E.below ((B0.out).alloc B0.out.size (.cells #[.string ⟨cv0.toArray⟩, .string ⟨ca0.toArray⟩] 23)))).mono ?_; rintro e w1 ⟨rfl, b1⟩; have B1 := Lib.hid (((B0.out).alloc B0.out.size (.cells #[.string ⟨cv0.toArray⟩, .string ⟨ca0.toArray⟩] 23)).trans (b1.mono (by have := B0.out.size; simp <;> omega))); have c1 := Lib.hid ((IsRow.made w 23 #[.string ⟨cv0.toArray⟩, .string ⟨ca0.toArray⟩]).call b1); have cc0 : w1.cell? ⟨w.heap.size, 0, none⟩ = some (.string ⟨cv0.toArray⟩) := c1.out.cell 0; have cc1 : w1.cell? ⟨w.heap.size, 1, none⟩ = some (.string ⟨ca0.toArray⟩) := c1.out.cell 1; have clt : w.heap.size < w1.heap.size := c1.out.lt)
        | (go_at_call 10; refine (HMr.out _).mono ?_; rintro e w2 ⟨rfl, b2⟩; have B2 := Lib.hid (B1.out.trans (b2.mono B1.out.size)); have c2 := Lib.hid (c1.out.call b2); clear cc0 cc1 clt; have cc0 : w2.cell? ⟨w.heap.size, 0, none⟩ = some (.string ⟨cv0.toArray⟩) := c2.out.cell 0; have cc1 : w2.cell? ⟨w.heap.size, 1, none⟩ = some (.string ⟨ca0.toArray⟩) := c2.out.cell 1; have clt : w.heap.size < w2.heap.size := c2.out.lt; clear c1)
        | (go_at_call 11; refine (HP.out _).mono ?_; rintro e w3 ⟨rfl, b3⟩; have B3 := Lib.hid (B2.out.trans (b3.mono B2.out.size)); have c3 := Lib.hid (c2.out.call b3); clear cc0 cc1 clt; have cc0 : w3.cell? ⟨w.heap.size, 0, none⟩ = some (.string ⟨cv0.toArray⟩) := c3.out.cell 0; have cc1 : w3.cell? ⟨w.heap.size, 1, none⟩ = some (.string ⟨ca0.toArray⟩) := c3.out.cell 1; have clt : w.heap.size < w3.heap.size := c3.out.lt; clear c2)
        | (go_at_call 12; refine (HPr.out _).mono ?_; rintro e w4 ⟨rfl, b4⟩; have B4 := Lib.hid (B3.out.trans (b4.mono B3.out.size)); have c4 := Lib.hid (c3.out.call b4); clear cc0 cc1 clt; have cc0 : w4.cell? ⟨w.heap.size, 0, none⟩ = some (.string ⟨cv0.toArray⟩) := c4.out.cell 0; have cc1 : w4.cell? ⟨w.heap.size, 1, none⟩ = some (.string ⟨ca0.toArray⟩) := c4.out.cell 1; have clt : w.heap.size < w4.heap.size := c4.out.lt; clear c3)
        | (go_at_call 13; refine (HR.out _ (E.below (B4.out))).mono ?_; rintro e w5 ⟨rfl, b5⟩; have B5 := Lib.hid (B4.out.trans (b5.mono B4.out.size)); have c5 := Lib.hid (c4.out.call b5); clear cc0 cc1 clt; have cc0 : w5.cell? ⟨w.heap.size, 0, none⟩ = some (.string ⟨cv0.toArray⟩) := c5.out.cell 0; have cc1 : w5.cell? ⟨w.heap.size, 1, none⟩ = some (.string ⟨ca0.toArray⟩) := c5.out.cell 1; have clt : w.heap.size < w5.heap.size := c5.out.lt; clear c4)
        | (go_at_call 14; refine (HRr.out _).mono ?_; rintro e w6 ⟨rfl, b6⟩; have B6 := Lib.hid (((B5.out).alloc B5.out.size (.cells #[.string ⟨xv.toArray⟩, .string ⟨xa.toArray⟩] 23)).trans (b6.mono (by have := B5.out.size; simp <;> omega))); have c6 := Lib.hid ((c5.out.alloc (.cells #[.string ⟨xv.toArray⟩, .string ⟨xa.toArray⟩] 23)).call b6); have a6 := Lib.hid ((IsRow.made w5 23 #[.string ⟨xv.toArray⟩, .string ⟨xa.toArray⟩]).call b6); clear cc0 cc1 clt; have cc0 : w6.cell? ⟨w.heap.size, 0, none⟩ = some (.string ⟨cv0.toArray⟩) := c6.out.cell 0; have cc1 : w6.cell? ⟨w.heap.size, 1, none⟩ = some (.string ⟨ca0.toArray⟩) := c6.out.cell 1; have clt : w.heap.size < w6.heap.size := c6.out.lt; clear c5)
        | (go_at_call 15; refine (HCr.out _).mono ?_; rintro e w7 ⟨rfl, b7⟩; have B7 := Lib.hid (((B6.out).alloc B6.out.size (.cells #[.string ⟨xv.toArray⟩, .string ⟨xa.toArray⟩] 23)).trans (b7.mono (by have := B6.out.size; simp <;> omega))); have c7 := Lib.hid ((c6.out.alloc (.cells #[.string ⟨xv.toArray⟩, .string ⟨xa.toArray⟩] 23)).call b7); have a7 := Lib.hid ((a6.out.alloc (.cells #[.string ⟨xv.toArray⟩, .string ⟨xa.toArray⟩] 23)).call b7); have b7 := Lib.hid ((IsRow.made w6 23 #[.string ⟨xv.toArray⟩, .string ⟨xa.toArray⟩]).call b7); clear cc0 cc1 clt; have cc0 : w7.cell? ⟨w.heap.size, 0, none⟩ = some (.string ⟨cv0.toArray⟩) := c7.out.cell 0; have cc1 : w7.cell? ⟨w.heap.size, 1, none⟩ = some (.string ⟨ca0.toArray⟩) := c7.out.cell 1; have clt : w.heap.size < w7.heap.size := c7.out.lt; have ac0 : w7.cell? ⟨w5.heap.size, 0, none⟩ = some (.string ⟨xv.toArray⟩) := a7.out.cell 0; have ac1 : w7.cell? ⟨w5.heap.size, 1, none⟩ = some (.string ⟨xa.toArray⟩) := a7.out.cell 1; have alt : w5.heap.size < w7.heap.size := a7.out.lt; have bc0 : w7.cell? ⟨w6.heap.size, 0, none⟩ = some (.string ⟨xv.toArray⟩) := b7.out.cell 0; have bc1 : w7.cell? ⟨w6.heap.size, 1, none⟩ = some (.string ⟨xa.toArray⟩) := b7.out.cell 1; have blt : w6.heap.size < w7.heap.size := b7.out.lt; clear c6 a6)
        | (go_at_call 16; refine (HM.out _).mono ?_; rintro e w8 ⟨rfl, b8⟩; have B8 := Lib.hid (B7.out.trans (b8.mono B7.out.size)); have c8 := Lib.hid (c7.out.call b8); have a8 := Lib.hid (a7.out.call b8); have b8 := Lib.hid (b7.out.call b8); clear cc0 cc1 clt ac0 ac1 alt bc0 bc1 blt; have ac0 : w8.cell? ⟨w5.heap.size, 0, none⟩ = some (.string ⟨xv.toArray⟩) := a8.out.cell 0; have ac1 : w8.cell? ⟨w5.heap.size, 1, none⟩ = some (.string ⟨xa.toArray⟩) := a8.out.cell 1; have alt : w5.heap.size < w8.heap.size := a8.out.lt; have bc0 : w8.cell? ⟨w6.heap.size, 0, none⟩ = some (.string ⟨xv.toArray⟩) := b8.out.cell 0; have bc1 : w8.cell? ⟨w6.heap.size, 1, none⟩ = some (.string ⟨xa.toArray⟩) := b8.out.cell 1; have blt : w6.heap.size < w8.heap.size := b8.out.lt; clear c7 a7 b7)
        | (go_at_call 17; refine (HC.out _).mono ?_; rintro e w9 ⟨rfl, b9⟩; have B9 := Lib.hid (B8.out.trans (b9.mono B8.out.size)); have c9 := Lib.hid (c8.out.call b9); have a9 := Lib.hid (a8.out.call b9); have b9 := Lib.hid (b8.out.call b9); clear ac0 ac1 alt bc0 bc1 blt; clear c8 a8 b8))
  all_goals (go_ret; exact ⟨by first | rfl | (simp; done) | (simp; omega), B9.out⟩)

set_option maxRecDepth 100000 in
theorem lifted (os : Os) (started : os.Started) (H : Type) (enc : TypeId × Value → H) :
    ReturnsInHanded {} Tryd.checked os 3 .any (fun w args => (Rows.cmdTellsSpec.pre enc Tryd.prog Tryd.f3 [] false w args ∧ laidMetH Tryd.prog laidHere w) ∧ sizedMet enc Tryd.prog Tryd.f3 (OpenSpec.ofChange Rows.cmdTellsSpec) false w args)
      (Rows.cmdTellsSpec.post enc Tryd.prog Tryd.f3 false true false false) := by
  refine handed started (by kernel_rfl) Tryd.func3 #[.agg #[.string ⟨#[]⟩, .string ⟨#[]⟩], .string ⟨#[]⟩] (by kernel_rfl) (by kernel_rfl) (by kernel_rfl) (World.shaped_of_ZipB (by kernel_rfl) (by kernel_rfl)) ?_
  intro W base args ds gs before hval0 hW E
  have hval : ∀ (j : Nat) t v, Tryd.f3.params[j]? = some t → args[j]? = some v → Value.okWide Tryd.prog W .any base t v := hval0
  have hW' := hW
  obtain ⟨p, q, hA0, hV, rfl, _, _⟩ := hW
  have hA : DataW.TrodAll enc Tryd.prog W 0 (fun _ => true) true Tryd.f3.params.toList args.toList ds p := hA0
  rw [Tryd.params3] at hA hval
  obtain ⟨v0, vs0, d0, ds0, p0, q0, hargs, rfl, rfl, r0, t0⟩ := trodAll_cons hA
  obtain ⟨v1, vs1, d1, ds1, p1, q1, rfl, rfl, rfl, r1, t1⟩ := trodAll_cons t0
  obtain ⟨rfl, rfl, rfl⟩ := trodAll_nil t1
  obtain rfl : args = #[v0, v1] := by cases args; simp_all
  obtain ⟨rfl, rfl⟩ := trodVars_none hV
  obtain ⟨cv0, ca0, rfl, rfl, rfl, wv0, wa0⟩ := open_cmd (hval 0 23 v0 rfl rfl) r0
  obtain ⟨x1, rfl, rfl, rfl, w1⟩ := open_string Tryd.underlying9 (hval 1 9 v1 rfl rfl) r1
  obtain ⟨s1, rfl⟩ : ∃ l : List UInt8, x1 = ⟨l.toArray⟩ := ⟨x1.data.toList, by simp⟩
  clear hA0 hval0
  simp only [List.append_nil] at hW'
  refine (walk cv0 ca0 (by have := wv0; unfold maxLen at this; exact this) (by have := wa0; unfold maxLen at this; exact this) s1 (by have := w1; rw [size_mk] at this; unfold maxLen at this; exact this) W  E).mono fun e W' ⟨he, hb⟩ => ?_
  subst he
  exact ⟨_, rfl, told hW' (fun _ _ _ => trodAll_cons_mk (shut_bool Tryd.underlying4 _) trodAll_mk0) (trodAll_cons_mk (shut_cmd wv0 wa0) (trodAll_cons_mk (shut_string Tryd.underlying9 w1) trodAll_mk0)) (fun _ => rfl) hb⟩

theorem over : Rows.CmdTellsSaid :=
  OpenClaim.holds_of_wide 3 Tryd.f3 rfl rfl rfl rfl rfl rfl rfl ⟨rfl, rfl, rfl, rfl, rfl⟩ rfl rfl rfl rfl rfl (by kernel_rfl) Tryd.func3 (by kernel_rfl)
    (of_decide_eq_true (by kernel_rfl)) (by unfold Func.isWrapper; first | (rw [if_pos (by decide +kernel)]; kernel_rfl) | (rw [if_neg (by decide +kernel)]; exact ⟨rfl, rfl⟩))
    (fun os started H enc _ => lifted os started H enc)

theorem proved : Rows.CmdTellsCardSaid :=
  Claim7.holds_tied_plain_at .later [] Rows.cmdTellsCard.laidKinds true Rows.cmdTellsCard.stood.harness Rows.cmdTellsCard.stood.looks
    over (fun _ h => by cases h) (by kernel_rfl) (fun _ h => by cases h) cmdTells_row_tie rfl ⟨rfl, rfl⟩ (by kernel_rfl) rfl
    (fun f fn hf hfn => by
      obtain rfl : f = 3 := Option.some.inj ((show Tryd.prog.funcNamed "wharfinger/wharfingerlaw08.CmdTells" = some 3 by kernel_rfl).symm.trans hf) |>.symm
      obtain rfl : fn = Tryd.f3 := (Option.some.inj (Tryd.func3.symm.trans hfn)).symm
      exact ⟨by kernel_rfl, fun j t ht => by
        rw [Tryd.params3] at ht
        have hm : t ∈ [23, 9] := by simpa using Array.mem_of_getElem? ht
        have hall : ([23, 9].all fun u => !Tryd.prog.wantsStandIn u) = true := by kernel_rfl
        exact (show Tryd.prog.wantsStandIn t = false by simpa using List.all_eq_true.1 hall t hm)⟩)
    (by kernel_rfl)
#print axioms proved
end Go.Proofs.YtginmhmeepjbhaaDoor.cmdTells
