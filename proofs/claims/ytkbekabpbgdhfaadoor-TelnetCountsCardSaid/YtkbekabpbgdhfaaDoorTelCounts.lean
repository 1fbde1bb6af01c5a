/- Proved: for all bytes, every wish and every number the law TelnetCounts of layer 5 answers true. Conditions: none beyond the row's own (the library's variables start as the program's text lays them: the card ties them). -/
import Derived.Test.YtkbekabpbgdhfaaDoorTelAwake

namespace Go.Proofs.YtkbekabpbgdhfaaDoor.telnetCounts
open Go.Proofs.YtkbekabpbgdhfaaDoor Go.Proofs.YtkbekabpbgdhfaaDoor.Tel Go.Proofs.YtkbekabpbgdhfaaDoor
open Go.ChangeShapes Go.WideShapes Go.ChangeAt Go.RowKit Go.Sort Go.ChangeMaps

set_option linter.unusedVariables false in
set_option maxHeartbeats 2000000 in
set_option maxRecDepth 100000 in
theorem walk (u0 : Value) (s0 : List UInt8) (n1 : Int) (l1 : 0 ≤ n1) (h1 : n1 ≤ 255) (n2 : Int) (l2 : -9223372036854775808 ≤ n2) (h2 : n2 ≤ 9223372036854775807) (w : World) (y0 : BytesIs w u0 s0) (E : Env w) :
    Calls Tryd.prog 6 #[u0, .int .u8 n1, .int .i64 n2] w fun e w' => e = .returned (.bool true) ∧ Below w.heap.size w w' := by
  by_cases hlen : 200 < s0.length
  · obtain ⟨pb, cb, rfl⟩ := y0.form
    have hl' : (200 : Int) < (s0.length : Int) := by omega
    clear y0
    go_enter Tryd.func6, Tryd.ntmps6
    go_wp2_with (go_at_call 8; refine (awake_any _).mono ?_; rintro e w1 ⟨rfl, b1⟩)
    go_ret
    exact ⟨rfl, b1⟩
  have hl0 : ¬ (200 : Int) < (s0.length : Int) := by omega
  by_cases hneg : n2 < 0
  · obtain ⟨pb, cb, rfl⟩ := y0.form
    clear y0
    go_enter Tryd.func6, Tryd.ntmps6
    go_wp2_with (go_at_call 8; refine (awake_any _).mono ?_; rintro e w1 ⟨rfl, b1⟩)
    go_ret
    exact ⟨rfl, b1⟩
  by_cases hover : 20 < n2
  · obtain ⟨pb, cb, rfl⟩ := y0.form
    clear y0
    go_enter Tryd.func6, Tryd.ntmps6
    go_wp2_with (go_at_call 8; refine (awake_any _).mono ?_; rintro e w1 ⟨rfl, b1⟩)
    go_ret
    exact ⟨rfl, b1⟩
  obtain ⟨n, rfl⟩ : ∃ k : Nat, n2 = (k : Int) := ⟨n2.toNat, by omega⟩
  obtain ⟨v, hv⟩ : ∃ v : UInt8, v = UInt8.ofNat (251 + n1.toNat % 4) := ⟨_, rfl⟩
  have hvn : v.toNat = 251 + n1.toNat % 4 := by rw [hv, UInt8.toNat_ofNat_of_lt' (by show 251 + n1.toNat % 4 < 256; omega)]
  have hvi : (v.toNat : Int) = 251 + n1 % 4 := by rw [hvn]; omega
  have hv0 : 251 ≤ v.toNat := by omega
  have hv1 : v.toNat ≤ 254 := by omega
  clear hv hvn
  have S1 := Lib.hid (fun W (u : Value) (h : BytesIs W u (s0 ++ wishes v 7 n ++ s0)) => strip_any 0 u (s0 ++ wishes v 7 n ++ s0) (by simp [wishes_length]; omega) W h)
  have Y0 := Lib.hid y0
  obtain ⟨pb, cb, rfl⟩ := y0.form
  clear y0
  have hlim : n ≤ 20 := by omega
  go_enter Tryd.func6, Tryd.ntmps6
  go_wp2_with (go_at_call 8; refine (awake_any _).mono ?_; rintro e w1 ⟨rfl, b1⟩)
  have B1 := Lib.hid b1
  have Y1 := Lib.hid (Y0.out.call b1)
  clear b1 Y0
  go_loop [8] (fun x8 => ∃ (k : Nat), x8 = .int .i64 (k : Int) ∧ k ≤ s0.length ∧ Hid ((255 : UInt8) ∉ s0.take k)) (fun i => s0.length - (intOf i).toNat)
  case atStart => exact ⟨0, rfl, Nat.zero_le _, Lib.hid (by simp)⟩
  case round =>
    obtain ⟨k, rfl, hk, hno⟩ := hrel
    by_cases hlt : k < s0.length
    · obtain ⟨a, rfl, hal, hcell⟩ := bytes_some Y1.out (by intro e; have h0 : s0.length = 0 := List.length_eq_zero_iff.2 e; omega)
      have hc := hcell k hlt
      have HN : Hid (s0[k] ≠ 255 → (255 : UInt8) ∉ s0.take (k + 1)) := Lib.hid (fun h => by
        rw [List.take_succ_eq_append_getElem hlt]
        simp only [List.mem_append, List.mem_singleton, not_or]
        exact ⟨hno.out, fun e => h e.symm⟩)
      clear hcell hno
      generalize s0[k] = c at *
      by_cases h255 : c = 255
      · subst h255
        go_wp2_with fail
        go_ret
        exact ⟨rfl, B1.out⟩
      · have q255 : ((c.toNat : Int) == 255) = false := byte_ne h255
        have hn := Lib.hid (HN.out h255)
        clear HN
        go_wp2_with fail
        go_round
        case rel => exact ⟨k + 1, by go_num, by omega, hn⟩
        case measure => simp [intOf]; omega
    · obtain rfl : k = s0.length := by omega
      rw [List.take_length] at hno
      have hrc := run_counts (n := n) (x := 7) hv0 hv1 hno.out
      unfold StripPost at S1
      rw [show norm 0 = 0 from rfl, hrc] at S1
      clear hrc hno
      go_wp2_with (at_builtin; refine wpList_append_bytes rfl _ _ rfl w1.heap.size (.slice none 0 0) [] rfl (World.ownsRow_nil _ _ _ _) _ s0 rfl Y1.out ?c1 ?c2 ?_)
      case c1 => first | omega | (simp; omega)
      try (case c2 => exact Nat.le_refl _)
      intro x2 w2 hown hg
      have b2 : Below w1.heap.size w1 w2 := (Below.refl _ _).grown hg (Nat.le_refl _) (fun k hk => by cases hk)
      have hown2 : w2.ownsRow w1.heap.size 5 1 x2 s0.length (s0.map byteV) := hown
      clear hown hg
      go_wp2_with fail
      go_loopw [9, 10] (fun x9 x44 w3 => ∃ (j : Nat) (x : Value), x9 = x ∧ x44 = .int .i64 (j : Int) ∧ j ≤ n ∧ w3.ownsRow w1.heap.size 5 1 x (s0 ++ wishes v 7 j).length ((s0 ++ wishes v 7 j).map byteV) ∧ Below w1.heap.size w1 w3) (fun _ i _ => n - (intOf i).toNat)
      case atStart => exact ⟨0, x2, rfl, rfl, Nat.zero_le _, by simpa [wishes] using hown2, b2⟩
      case round =>
        clear hown2 b2
        obtain ⟨j, x, rfl, rfl, hj, hown, hb⟩ := hrel
        have hsz := hb.size
        have hwl := wishes_length v 7 j
        by_cases hjn : j < n
        · have H5 : Hid (∀ W : World, BytesIs (W.alloc (.cells #[.int .u8 255, .int .u8 242, .int .u8 255, .int .u8 (251 + n1 % 4), .int .u8 7] 5)) (.slice (some ⟨W.heap.size, 0, none⟩) 5 5) [255, 242, 255, v, 7]) := Lib.hid (fun W => by rw [← hvi]; exact bytes_new W [255, 242, 255, v, 7] (by show 5 ≤ maxLen; decide))
          go_wp2_with (at_builtin; refine wpList_append_bytes rfl _ _ rfl w1.heap.size _ (s0 ++ wishes v 7 j) rfl (hown.alloc _) _ [255, 242, 255, v, 7] rfl (H5.out _) ?d1 ?d2 ?_)
          case d1 => first | omega | (simp; omega)
          try (case d2 => first | omega | (simp; omega))
          intro x4 w4 hown' hg
          have hb' : Below w1.heap.size w1 w4 := (hb.alloc hb.size _).grown hg (by simp; omega) (own_ge hown)
          have hown2 : w4.ownsRow w1.heap.size 5 1 x4 (s0 ++ wishes v 7 (j + 1)).length ((s0 ++ wishes v 7 (j + 1)).map byteV) := by
            rw [show s0 ++ wishes v 7 (j + 1) = (s0 ++ wishes v 7 j) ++ [255, 242, 255, v, 7] from by simp [wishes]]
            simpa [wishes_length] using hown'
          clear hown hg hb H5 hown' hwl
          go_wp2_with fail
          go_roundw
          case rel => exact ⟨j + 1, x4, rfl, by go_num, by omega, hown2, hb'⟩
          case measure => simp [intOf]; omega
        · obtain rfl : j = n := by omega
          have YB := Lib.hid (Y1.out.call hb)
          go_wp2_with (at_builtin; refine wpList_append_bytes rfl _ _ rfl w1.heap.size _ (s0 ++ wishes v 7 j) rfl hown _ s0 rfl YB.out ?e1 ?e2 ?_)
          case e1 => first | omega | (simp; omega)
          try (case e2 => first | omega | (simp; omega))
          intro x4 w4 hown' hg
          have hb' : Below w1.heap.size w1 w4 := hb.grown hg hb.size (own_ge hown)
          have hown2 : w4.ownsRow w1.heap.size 5 1 x4 (s0 ++ wishes v 7 j ++ s0).length ((s0 ++ wishes v 7 j ++ s0).map byteV) := by simpa [wishes_length] using hown'
          have HX := Lib.hid (bytes_of_own hown2)
          have B4 := Lib.hid (B1.out.trans (hb'.mono B1.out.size))
          have Y4 := Lib.hid (Y1.out.call hb')
          have happ := app_list s0 s0
          have hz : ¬ 9223372036854775807 < s0.length + s0.length := by omega
          clear hown hg hb hb' hown' hown2 hwl YB Y1 B1
          go_wp2_with (go_at_call 9; refine (S1.out _ _ HX.out).mono ?_; rintro e w5 ⟨x5, rfl, hx5, b5⟩; obtain ⟨p5, c5, rfl⟩ := hx5.form; have q5 := str_of_bytes hx5; rw [List.length_append] at q5; have q6 := str_of_bytes (Y4.out.call b5); have B5 := Lib.hid (below_then B4.out b5); clear b5 S1 hx5)
          all_goals (go_ret; exact ⟨by first | rfl | simp, B5.out⟩)

set_option maxRecDepth 100000 in
theorem lifted (os : Os) (started : os.Started) (H : Type) (enc : TypeId × Value → H) :
    ReturnsInHanded {} Tryd.checked os 6 .any (fun w args => (Rows.telnetCountsSpec.pre enc Tryd.prog Tryd.f6 [] false w args ∧ laidMetH Tryd.prog laidHere w) ∧ sizedMet enc Tryd.prog Tryd.f6 (OpenSpec.ofChange Rows.telnetCountsSpec) false w args)
      (Rows.telnetCountsSpec.post enc Tryd.prog Tryd.f6 false true false false) := by
  refine handed started (by kernel_rfl) Tryd.func6 #[.slice none 0 0, .int .u8 0, .int .i64 0] (by kernel_rfl) (by kernel_rfl) (by kernel_rfl) (World.shaped_of_ZipB (by kernel_rfl) (by kernel_rfl))
    (by unfold laidHere; rw [MakeChecks.laidMetH_plain _ _ _ (by kernel_rfl)]; exact laidMet_laidAll _ (by kernel_rfl) (by kernel_rfl)) ?_
  intro W base args ds gs before hval0 hW E
  have hval : ∀ (j : Nat) t v, Tryd.f6.params[j]? = some t → args[j]? = some v → Value.okWide Tryd.prog W .any base t v := hval0
  have hW' := hW
  obtain ⟨p, q, hA0, hV, rfl, _, _⟩ := hW
  have hA : DataW.TrodAll enc Tryd.prog W 0 (fun _ => true) true Tryd.f6.params.toList args.toList ds p := hA0
  rw [Tryd.params6] at hA hval
  obtain ⟨v0, vs0, d0, ds0, p0, q0, hargs, rfl, rfl, r0, t0⟩ := trodAll_cons hA
  obtain ⟨v1, vs1, d1, ds1, p1, q1, rfl, rfl, rfl, r1, t1⟩ := trodAll_cons t0
  obtain ⟨v2, vs2, d2, ds2, p2, q2, rfl, rfl, rfl, r2, t2⟩ := trodAll_cons t1
  obtain ⟨rfl, rfl, rfl⟩ := trodAll_nil t2
  obtain rfl : args = #[v0, v1, v2] := by cases args; simp_all
  obtain ⟨rfl, rfl⟩ := trodVars_none hV
  obtain ⟨s0, y0, k0⟩ := open_bytes (hval 0 22 v0 rfl rfl) r0
  obtain ⟨n1, rfl, rfl, rfl, w1⟩ := open_int Tryd.underlying5 (hval 1 5 v1 rfl rfl) r1
  obtain ⟨n2, rfl, rfl, rfl, w2⟩ := open_int Tryd.underlying3 (hval 2 3 v2 rfl rfl) r2
  clear hA0 hval0
  simp only [List.append_nil] at hW'
  refine (walk v0 s0 n1 (byte_wf w1).1 (byte_wf w1).2 n2 (int_wf w2).1 (int_wf w2).2 W y0 E).mono fun e W' ⟨he, hb⟩ => ?_
  subst he
  obtain ⟨pa0, z0⟩ := k0 W' hb
  exact ⟨_, rfl, told hW' (fun _ _ _ => trodAll_cons_mk (shut_bool Tryd.underlying4 _) trodAll_mk0) (trodAll_cons_mk (z0) (trodAll_cons_mk (shut_int Tryd.underlying5 w1) (trodAll_cons_mk (shut_int Tryd.underlying3 w2) trodAll_mk0))) (fun _ => rfl) hb⟩

theorem over : Rows.TelnetCountsSaid :=
  OpenClaim.holds_of_wide 6 Tryd.f6 rfl rfl rfl rfl rfl rfl rfl ⟨rfl, rfl, rfl, rfl, rfl⟩ rfl rfl rfl rfl rfl (by kernel_rfl) Tryd.func6 (by kernel_rfl)
    (of_decide_eq_true (by kernel_rfl)) (by unfold Func.isWrapper; first | (rw [if_pos (by decide +kernel)]; kernel_rfl) | (rw [if_neg (by decide +kernel)]; exact ⟨rfl, rfl⟩))
    (fun os started H enc _ => lifted os started H enc)

theorem proved : Rows.TelnetCountsCardSaid :=
  Claim7.holds_tied_plain_at .later [] Rows.telnetCountsCard.laidKinds true Rows.telnetCountsCard.stood.harness Rows.telnetCountsCard.stood.looks
    over (fun _ h => by cases h) (by kernel_rfl) (fun _ h => by cases h) telnetCounts_row_tie rfl ⟨rfl, rfl⟩ (by kernel_rfl) rfl
    (fun f fn hf hfn => by
      obtain rfl : f = 6 := Option.some.inj ((show Tryd.prog.funcNamed "wharfinger/wharfingerlaw05.TelnetCounts" = some 6 by kernel_rfl).symm.trans hf) |>.symm
      obtain rfl : fn = Tryd.f6 := (Option.some.inj (Tryd.func6.symm.trans hfn)).symm
      exact ⟨by kernel_rfl, fun j t ht => by
        rw [Tryd.params6] at ht
        have hm : t ∈ [22, 5, 3] := by simpa using Array.mem_of_getElem? ht
        have hall : ([22, 5, 3].all fun u => !Tryd.prog.wantsStandIn u) = true := by kernel_rfl
        exact (show Tryd.prog.wantsStandIn t = false by simpa using List.all_eq_true.1 hall t hm)⟩)
    (by kernel_rfl)
#print axioms proved
end Go.Proofs.YtkbekabpbgdhfaaDoor.telnetCounts
