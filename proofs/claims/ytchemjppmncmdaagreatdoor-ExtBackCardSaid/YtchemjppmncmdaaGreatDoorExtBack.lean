/- Proved: for every end and every text ahead the law ExtBack answers true: an end, and a port, that may be, is read, and found, as it is written. Conditions: none beyond the row's own (the library's variables start as the program's text lays them: the card ties them). -/
import Derived.Test.YtchemjppmncmdaaGreatDoorExtAwake
import Derived.Test.YtchemjppmncmdaaGreatDoorEndArg
import Derived.Test.YtchemjppmncmdaaGreatDoorCards
namespace Go.Proofs.YtchemjppmncmdaaGreatDoor.extBack
open Go.Proofs.YtchemjppmncmdaaGreatDoor Go.Proofs.YtchemjppmncmdaaGreatDoor.Quad Go.Proofs.YtchemjppmncmdaaGreatDoor.Six Go.Proofs.YtchemjppmncmdaaGreatDoor.Ext
open Go.ChangeShapes Go.WideShapes Go.ChangeAt Go.RowKit Go.Sort Go.ChangeMaps
theorem app_of (a b : List UInt8) : (ByteArray.mk a.toArray ++ ByteArray.mk b.toArray) = ⟨(a ++ b).toArray⟩ := by
  apply ByteArray.ext
  simp
theorem piece_at (l : List UInt8) (a b : Nat) : (ByteArray.mk l.toArray).extract a b = ⟨((l.drop a).take (b - a)).toArray⟩ := by
  apply ByteArray.ext
  simp
theorem shape_text (a b c d p : Int) : ∃ m, extL a b c d p = [124, 49, 124] ++ m ++ [124] := ⟨textL a b c d ++ [124] ++ Lib.itoa p, by unfold extL; simp⟩
theorem shape_port (n : Int) : ∃ m, portL n = [40, 124, 124, 124] ++ m ++ [124, 41] := ⟨_, rfl⟩
theorem extL_long {a b c d p : Int} (ha : 0 ≤ a ∧ a ≤ 255) (hb : 0 ≤ b ∧ b ≤ 255) (hc : 0 ≤ c ∧ c ≤ 255) (hd : 0 ≤ d ∧ d ≤ 255) (hp : 1 ≤ p ∧ p ≤ 65535) : (extL a b c d p).length ≤ 100 := by
  have h1 := itoa_short ha.1 ha.2; have h2 := itoa_short hb.1 hb.2; have h3 := itoa_short hc.1 hc.2; have h4 := itoa_short hd.1 hd.2
  have h5 := port_long (n := p) (by omega) hp.2
  unfold extL textL; simp; omega
theorem portL_long {p : Int} (hp : 1 ≤ p ∧ p ≤ 65535) : (portL p).length ≤ 100 := by
  have h5 := port_long (n := p) (by omega) hp.2
  unfold portL; simp; omega

set_option linter.unusedVariables false in
set_option maxHeartbeats 2000000 in
set_option maxRecDepth 100000 in
theorem walk (a0 b0 c0 d0 o0 : Int) (a0l : 0 ≤ a0) (a0h : a0 ≤ 255) (b0l : 0 ≤ b0) (b0h : b0 ≤ 255) (c0l : 0 ≤ c0) (c0h : c0 ≤ 255) (d0l : 0 ≤ d0) (d0h : d0 ≤ 255) (o0l : -9223372036854775808 ≤ o0) (o0h : o0 ≤ 9223372036854775807) (s1 : List UInt8) (z1 : s1.length ≤ 9223372036854775807) (w : World) (E : Env w) :
    Calls Tryz.prog 4 #[endV a0 b0 c0 d0 o0, str s1] w fun e w' => e = .returned (.bool true) ∧ Below w.heap.size w w' := by
  by_cases c100 : 100 < s1.length
  · go_enter Tryz.func4, Tryz.ntmps4
    go_wp2_with (go_at_call 8; refine (awake_any _ ?_).mono ?_)
    · exact E.alloc _
    rintro e w1 ⟨rfl, b1⟩
    go_wp2_with fail
    go_ret
    exact ⟨rfl, ((Below.refl _ _).alloc (Nat.le_refl _) _).trans (b1.mono (by simp))⟩
  go_enter Tryz.func4, Tryz.ntmps4
  go_wp2_with (go_at_call 8; refine (awake_any _ ?_).mono ?_)
  · exact E.alloc _
  rintro e w1 ⟨rfl, b1⟩
  have B1 : Below w.heap.size w w1 := ((Below.refl _ _).alloc (Nat.le_refl _) _).trans (b1.mono (by simp))
  have R1 : IsRow w1 w.heap.size 25 #[.int .u8 a0, .int .u8 b0, .int .u8 c0, .int .u8 d0, .int .i64 o0] := (IsRow.made w _ _).call b1
  have z1 := B1.size
  clear b1
  go_wp2_with fail
  go_loop [6] (fun i => ∃ k : Nat, k ≤ s1.length ∧ i = .int .i64 k ∧ Hid ((40 : UInt8) ∉ s1.take k)) (fun i => s1.length - (intOf i).toNat)
  case atStart => exact ⟨0, Nat.zero_le _, rfl, Lib.hid (by simp)⟩
  case round =>
    obtain ⟨k, hk, rfl, hno⟩ := hrel
    by_cases hlt : k < s1.length
    · have hsz : k < (ByteArray.mk s1.toArray).size := by rw [size_of]; exact hlt
      have hx : (ByteArray.mk s1.toArray)[k]'hsz = s1[k] := rfl
      by_cases hc : s1[k] = 40
      · have hq : ((((ByteArray.mk s1.toArray)[k]'hsz).toNat : Int) == 40) = true := by rw [hx, hc]; rfl
        clear hx hc
        go_wp2_with fail
        go_ret
        exact ⟨rfl, B1⟩
      · have hq : ((((ByteArray.mk s1.toArray)[k]'hsz).toNat : Int) == 40) = false := by
          rw [hx, beq_eq_false_iff_ne]; intro e; exact hc (UInt8.toNat.inj (by show s1[k].toNat = 40; omega))
        have HN := Lib.hid (no_next0 hno.out hlt hc)
        clear hx hc
        go_wp2_with fail
        go_round
        case rel => exact ⟨k + 1, by omega, by go_num, HN⟩
        case measure => simp [intOf]; omega
    · obtain rfl : k = s1.length := by omega
      have hn0 : Hid ((40 : UInt8) ∉ s1) := by
        have h := hno.out
        rw [List.take_length] at h
        exact Lib.hid h
      clear hno hlt hk
      by_cases hp : 1 ≤ o0 ∧ o0 ≤ 65535
      · have CT := Lib.hid (fun W (EW : Env W) => text_yes a0 b0 c0 d0 o0 a0l a0h b0l b0h c0l c0h d0l d0h hp.1 hp.2 W EW)
        have CP := Lib.hid (fun W (EW : Env W) => port_yes o0 hp.1 hp.2 W EW)
        have ll : (extL a0 b0 c0 d0 o0).length ≤ 100 := extL_long ⟨a0l, a0h⟩ ⟨b0l, b0h⟩ ⟨c0l, c0h⟩ ⟨d0l, d0h⟩ hp
        have lp : (portL o0).length ≤ 100 := portL_long hp
        have CX := Lib.hid (fun W (EW : Env W) => show Calls Tryz.prog 11 #[str (extL a0 b0 c0 d0 o0)] W fun e w' => e = .returned (.tuple #[endV a0 b0 c0 d0 o0, .int .i64 0]) ∧ Below W.heap.size W w' by
          have c := Ext.read_any (extL a0 b0 c0 d0 o0) (by omega) W EW
          obtain ⟨h, h0, h1, h2, h3, h4⟩ := ext_text (a := a0) (b := b0) (c := c0) (d := d0) (p := o0) ⟨a0l, a0h⟩ ⟨b0l, b0h⟩ ⟨c0l, c0h⟩ ⟨d0l, d0h⟩ hp
          unfold readX at c
          rw [h, h0, h1, h2, h3, h4] at c; exact c)
        have CY := Lib.hid (fun W (EW : Env W) => show Calls Tryz.prog 15 #[.string (ByteArray.mk s1.toArray ++ ByteArray.mk (portL o0).toArray ++ ByteArray.mk #[46])] W fun e w' => e = .returned (.tuple #[.int .i64 o0, .bool true]) ∧ Below W.heap.size W w' by
          have e46 : (ByteArray.mk #[46]) = ⟨([46] : List UInt8).toArray⟩ := rfl
          have c := Ext.find_any (s1 ++ portL o0 ++ [46]) (by simp; omega) W EW
          rw [find_port hn0.out (by omega), (hold_port hp.1 hp.2).1, (hold_port hp.1 hp.2).2] at c
          rw [e46, app_of, app_of]; exact c)
        have hz : ∀ W, (Op.equalIn 10000 25 (endV a0 b0 c0 d0 o0) (endV a0 b0 c0 d0 o0)).run Tryz.prog W = .ok true W := fun W => by rw [equal_ends]; simp
        generalize extL a0 b0 c0 d0 o0 = tt at CT CX ll
        generalize portL o0 = pp at CP CY lp
        have m0 : ¬ 9223372036854775807 < s1.length + pp.length := by omega
        have m1 : ¬ 9223372036854775807 < s1.length + pp.length + 1 := by omega
        clear ll lp
        have x0 : w1.cell? ⟨w.heap.size, 0, none⟩ = some (.int .u8 a0) := R1.cell 0
        have x1 : w1.cell? ⟨w.heap.size, 1, none⟩ = some (.int .u8 b0) := R1.cell 1
        have x2 : w1.cell? ⟨w.heap.size, 2, none⟩ = some (.int .u8 c0) := R1.cell 2
        have x3 : w1.cell? ⟨w.heap.size, 3, none⟩ = some (.int .u8 d0) := R1.cell 3
        have x4 : w1.cell? ⟨w.heap.size, 4, none⟩ = some (.int .i64 o0) := R1.cell 4
        go_wp2_with (go_at_call 9; refine (CT.out _ ?_).mono ?_)
        · exact E.below B1
        intro e w2 hh
        first | (have b2 := hh.2; obtain rfl := hh.1; clear hh) | (intro b2; subst hh)
        have B2 : Below w.heap.size w w2 := below_trans B1 b2
        have z2 := B2.size
        have R2 := R1.call b2
        clear b2 x0 x1 x2 x3 x4 R1
        have x4 : w2.cell? ⟨w.heap.size, 4, none⟩ = some (.int .i64 o0) := R2.cell 4
        go_wp2_with (go_at_call 13; refine (CP.out _ ?_).mono ?_)
        · exact E.below B2
        intro e w3 hh
        first | (have b3 := hh.2; obtain rfl := hh.1; clear hh) | (intro b3; subst hh)
        have B3 : Below w.heap.size w w3 := below_trans B2 b3
        have z3 := B3.size
        have R3 := R2.call b3
        clear b3 x4 R2
        go_wp2_with (go_at_call 11; refine (CX.out _ ?_).mono ?_)
        · exact E.below B3
        intro e w4 hh
        first | (have b4 := hh.2; obtain rfl := hh.1; clear hh) | (intro b4; subst hh)
        have B4 : Below w.heap.size w w4 := below_trans B3 b4
        have z4 := B4.size
        have R4 := R3.call b4
        clear b4 R3
        go_wp2_with (go_at_call 15; refine (CY.out _ ?_).mono ?_)
        · exact (E.below B4).alloc _
        intro e w5 hh
        first | (have b5 := hh.2; obtain rfl := hh.1; clear hh) | (intro b5; subst hh)
        have B5 : Below w.heap.size w w5 := (B4.alloc z4 _).trans (b5.mono (by first | omega | (simp; omega)))
        have z5 := B5.size
        have R5 := (R4.alloc _).call b5
        have G5 : IsRow w5 w4.heap.size 25 #[.int .u8 a0, .int .u8 b0, .int .u8 c0, .int .u8 d0, .int .i64 o0] := (IsRow.made w4 _ _).call b5
        have L5 := R5.lt
        have K5 := G5.lt
        clear b5 R4
        have x0 : w5.cell? ⟨w.heap.size, 0, none⟩ = some (.int .u8 a0) := R5.cell 0
        have x1 : w5.cell? ⟨w.heap.size, 1, none⟩ = some (.int .u8 b0) := R5.cell 1
        have x2 : w5.cell? ⟨w.heap.size, 2, none⟩ = some (.int .u8 c0) := R5.cell 2
        have x3 : w5.cell? ⟨w.heap.size, 3, none⟩ = some (.int .u8 d0) := R5.cell 3
        have x4 : w5.cell? ⟨w.heap.size, 4, none⟩ = some (.int .i64 o0) := R5.cell 4
        have y0 : w5.cell? ⟨w4.heap.size, 0, none⟩ = some (.int .u8 a0) := G5.cell 0
        have y1 : w5.cell? ⟨w4.heap.size, 1, none⟩ = some (.int .u8 b0) := G5.cell 1
        have y2 : w5.cell? ⟨w4.heap.size, 2, none⟩ = some (.int .u8 c0) := G5.cell 2
        have y3 : w5.cell? ⟨w4.heap.size, 3, none⟩ = some (.int .u8 d0) := G5.cell 3
        have y4 : w5.cell? ⟨w4.heap.size, 4, none⟩ = some (.int .i64 o0) := G5.cell 4
        go_wp2_with fail
        go_ret
        exact ⟨rfl, B5⟩
      · by_cases hlow : o0 < 1
        · have CT := Lib.hid (fun W => text_no a0 b0 c0 d0 o0 (by omega) W)
          have CP := Lib.hid (fun W => port_no o0 (by omega) W)
          have x0 : w1.cell? ⟨w.heap.size, 0, none⟩ = some (.int .u8 a0) := R1.cell 0
          have x1 : w1.cell? ⟨w.heap.size, 1, none⟩ = some (.int .u8 b0) := R1.cell 1
          have x2 : w1.cell? ⟨w.heap.size, 2, none⟩ = some (.int .u8 c0) := R1.cell 2
          have x3 : w1.cell? ⟨w.heap.size, 3, none⟩ = some (.int .u8 d0) := R1.cell 3
          have x4 : w1.cell? ⟨w.heap.size, 4, none⟩ = some (.int .i64 o0) := R1.cell 4
          go_wp2_with (go_at_call 9; refine (CT.out _).mono ?_)
          intro e w2 hh
          first | (have b2 := hh.2; obtain rfl := hh.1; clear hh) | (intro b2; subst hh)
          have B2 : Below w.heap.size w w2 := below_trans B1 b2
          have z2 := B2.size
          have R2 := R1.call b2
          clear b2 x0 x1 x2 x3 x4 R1
          have x4 : w2.cell? ⟨w.heap.size, 4, none⟩ = some (.int .i64 o0) := R2.cell 4
          go_wp2_with (go_at_call 13; refine (CP.out _).mono ?_)
          intro e w3 hh
          first | (have b3 := hh.2; obtain rfl := hh.1; clear hh) | (intro b3; subst hh)
          have B3 : Below w.heap.size w w3 := below_trans B2 b3
          have z3 := B3.size
          have R3 := R2.call b3
          have L3 := R3.lt
          clear b3 x4 R2
          have x4 : w3.cell? ⟨w.heap.size, 4, none⟩ = some (.int .i64 o0) := R3.cell 4
          go_wp2_with fail
          go_ret
          exact ⟨rfl, B3⟩
        · have hhigh : 65535 < o0 := by omega
          have CT := Lib.hid (fun W => text_no a0 b0 c0 d0 o0 (by omega) W)
          have CP := Lib.hid (fun W => port_no o0 (by omega) W)
          have x0 : w1.cell? ⟨w.heap.size, 0, none⟩ = some (.int .u8 a0) := R1.cell 0
          have x1 : w1.cell? ⟨w.heap.size, 1, none⟩ = some (.int .u8 b0) := R1.cell 1
          have x2 : w1.cell? ⟨w.heap.size, 2, none⟩ = some (.int .u8 c0) := R1.cell 2
          have x3 : w1.cell? ⟨w.heap.size, 3, none⟩ = some (.int .u8 d0) := R1.cell 3
          have x4 : w1.cell? ⟨w.heap.size, 4, none⟩ = some (.int .i64 o0) := R1.cell 4
          go_wp2_with (go_at_call 9; refine (CT.out _).mono ?_)
          intro e w2 hh
          first | (have b2 := hh.2; obtain rfl := hh.1; clear hh) | (intro b2; subst hh)
          have B2 : Below w.heap.size w w2 := below_trans B1 b2
          have z2 := B2.size
          have R2 := R1.call b2
          clear b2 x0 x1 x2 x3 x4 R1
          have x4 : w2.cell? ⟨w.heap.size, 4, none⟩ = some (.int .i64 o0) := R2.cell 4
          go_wp2_with (go_at_call 13; refine (CP.out _).mono ?_)
          intro e w3 hh
          first | (have b3 := hh.2; obtain rfl := hh.1; clear hh) | (intro b3; subst hh)
          have B3 : Below w.heap.size w w3 := below_trans B2 b3
          have z3 := B3.size
          have R3 := R2.call b3
          have L3 := R3.lt
          clear b3 x4 R2
          have x4 : w3.cell? ⟨w.heap.size, 4, none⟩ = some (.int .i64 o0) := R3.cell 4
          go_wp2_with fail
          go_ret
          exact ⟨rfl, B3⟩

set_option maxRecDepth 100000 in
theorem lifted (os : Os) (started : os.Started) (H : Type) (enc : TypeId × Value → H) :
    ReturnsInHanded {} Tryz.checked os 4 .any (fun w args => (Rows.extBackSpec.pre enc Tryz.prog Tryz.f4 [] false w args ∧ laidMetH Tryz.prog laidHere w) ∧ sizedMet enc Tryz.prog Tryz.f4 (OpenSpec.ofChange Rows.extBackSpec) false w args)
      (Rows.extBackSpec.post enc Tryz.prog Tryz.f4 false true false false) := by
  refine handed started (by kernel_rfl) Tryz.func4 #[.agg #[.int .u8 0, .int .u8 0, .int .u8 0, .int .u8 0, .int .i64 0], .string ⟨#[]⟩] (by kernel_rfl) (by kernel_rfl) (by kernel_rfl) (World.shaped_of_ZipB (by kernel_rfl) (by kernel_rfl)) ?_
  intro W base args ds gs before hval0 hW E
  have hval : ∀ (j : Nat) t v, Tryz.f4.params[j]? = some t → args[j]? = some v → Value.okWide Tryz.prog W .any base t v := hval0
  have hW' := hW
  obtain ⟨p, q, hA0, hV, rfl, _, _⟩ := hW
  have hA : DataW.TrodAll enc Tryz.prog W 0 (fun _ => true) true Tryz.f4.params.toList args.toList ds p := hA0
  rw [Tryz.params4] at hA hval
  obtain ⟨v0, vs0, d0, ds0, p0, q0, hargs, rfl, rfl, r0, t0⟩ := trodAll_cons hA
  obtain ⟨v1, vs1, d1, ds1, p1, q1, rfl, rfl, rfl, r1, t1⟩ := trodAll_cons t0
  obtain ⟨rfl, rfl, rfl⟩ := trodAll_nil t1
  obtain rfl : args = #[v0, v1] := by cases args; simp_all
  obtain ⟨rfl, rfl⟩ := trodVars_none hV
  obtain ⟨a0, b0, c0, d0, o0, rfl, rfl, rfl, wa0, wb0, wc0, wd0, wo0⟩ := open_end (hval 0 25 v0 rfl rfl) r0
  obtain ⟨x1, rfl, rfl, rfl, w1⟩ := open_string Tryz.underlying9 (hval 1 9 v1 rfl rfl) r1
  obtain ⟨s1, rfl⟩ : ∃ l : List UInt8, x1 = ⟨l.toArray⟩ := ⟨x1.data.toList, by simp⟩
  clear hA0 hval0
  simp only [List.append_nil] at hW'
  refine (walk a0 b0 c0 d0 o0 (byte_wf wa0).1 (byte_wf wa0).2 (byte_wf wb0).1 (byte_wf wb0).2 (byte_wf wc0).1 (byte_wf wc0).2 (byte_wf wd0).1 (byte_wf wd0).2 (int_wf wo0).1 (int_wf wo0).2 s1 (by have := w1; rw [size_mk] at this; unfold maxLen at this; exact this) W E).mono fun e W' ⟨he, hb⟩ => ?_
  subst he
  exact ⟨_, rfl, told hW' (fun _ _ _ => trodAll_cons_mk (shut_bool Tryz.underlying4 _) trodAll_mk0) (fun _ => trodAll_cons_mk (shut_end wa0 wb0 wc0 wd0 wo0) (trodAll_cons_mk (shut_string Tryz.underlying9 w1) trodAll_mk0)) (fun _ => rfl) hb⟩

theorem over : Rows.ExtBackSaid :=
  OpenClaim.holds_of_wide 4 Tryz.f4 rfl rfl rfl rfl rfl rfl rfl ⟨rfl, rfl, rfl, rfl, rfl⟩ rfl rfl rfl rfl rfl (by kernel_rfl) Tryz.func4 (by kernel_rfl)
    (of_decide_eq_true (by kernel_rfl)) (by unfold Func.isWrapper; first | (rw [if_pos (by decide +kernel)]; kernel_rfl) | (rw [if_neg (by decide +kernel)]; exact ⟨rfl, rfl⟩))
    (fun os started H enc _ => lifted os started H enc)

theorem proved : Rows.ExtBackCardSaid :=
  Claim7.holds_tied_plain_at .later [] Rows.extBackCard.laidKinds true Rows.extBackCard.stood.harness true
    over (fun _ h => by cases h) (by kernel_rfl) (fun _ h => by cases h) extBack_row_tie rfl ⟨rfl, rfl⟩ (by kernel_rfl) rfl
    (fun f fn hf hfn => by
      obtain rfl : f = 4 := Option.some.inj ((show Tryz.prog.funcNamed "wharfinger/wharfingerlaw04.ExtBack" = some 4 by kernel_rfl).symm.trans hf) |>.symm
      obtain rfl : fn = Tryz.f4 := (Option.some.inj (Tryz.func4.symm.trans hfn)).symm
      exact ⟨by kernel_rfl, fun j t ht => by
        rw [Tryz.params4] at ht
        have hm : t ∈ [25, 9] := by simpa using Array.mem_of_getElem? ht
        have hall : ([25, 9].all fun u => !Tryz.prog.wantsStandIn u) = true := by kernel_rfl
        exact (show Tryz.prog.wantsStandIn t = false by simpa using List.all_eq_true.1 hall t hm)⟩)
    (by kernel_rfl)
#print axioms proved
end Go.Proofs.YtchemjppmncmdaaGreatDoor.extBack
