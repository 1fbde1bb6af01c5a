/- Proved: for every byte and every text the law ExtKinds answers true: of another kind than 1 no end is read. Conditions: none beyond the row's own (the library's variables start as the program's text lays them: the card ties them). -/
import Derived.Test.YtchemjppmncmdaaGreatDoorExtAwake
import Derived.Test.YtchemjppmncmdaaGreatDoorEndArg
import Derived.Test.YtchemjppmncmdaaGreatDoorCards
namespace Go.Proofs.YtchemjppmncmdaaGreatDoor.extKinds
open Go.Proofs.YtchemjppmncmdaaGreatDoor Go.Proofs.YtchemjppmncmdaaGreatDoor.Quad Go.Proofs.YtchemjppmncmdaaGreatDoor.Six Go.Proofs.YtchemjppmncmdaaGreatDoor.Ext
open Go.ChangeShapes Go.WideShapes Go.ChangeAt Go.RowKit Go.Sort Go.ChangeMaps
theorem app_of (a b : List UInt8) : (ByteArray.mk a.toArray ++ ByteArray.mk b.toArray) = ⟨(a ++ b).toArray⟩ := by
  apply ByteArray.ext
  simp

set_option linter.unusedVariables false in
set_option maxHeartbeats 2000000 in
set_option maxRecDepth 100000 in
theorem walk (n0 : Int) (l0 : 0 ≤ n0) (h0 : n0 ≤ 255) (s1 : List UInt8) (z1 : s1.length ≤ 9223372036854775807) (w : World) (E : Env w) :
    Calls Tryz.prog 7 #[.int .u8 n0, str s1] w fun e w' => e = .returned (.bool true) ∧ Below w.heap.size w w' := by
  by_cases c60 : 60 < s1.length
  · go_enter Tryz.func7, Tryz.ntmps7
    go_wp2_with (go_at_call 8; refine (awake_any _ E).mono ?_)
    rintro e w1 ⟨rfl, B1⟩
    go_wp2_with fail
    go_ret
    exact ⟨rfl, B1⟩
  obtain ⟨kb, rfl⟩ : ∃ kb : UInt8, n0 = (kb.toNat : Int) := ⟨UInt8.ofNat n0.toNat, by rw [UInt8.toNat_ofNat']; omega⟩
  by_cases c124 : kb = 124
  · have c124' : ((kb.toNat : Int) == 124) = true := by rw [c124]; rfl
    go_enter Tryz.func7, Tryz.ntmps7
    go_wp2_with (go_at_call 8; refine (awake_any _ E).mono ?_)
    rintro e w1 ⟨rfl, B1⟩
    go_wp2_with fail
    go_ret
    exact ⟨rfl, B1⟩
  have q124 : ((kb.toNat : Int) == 124) = false := by rw [beq_eq_false_iff_ne]; intro e; exact c124 (UInt8.toNat.inj (by show kb.toNat = 124; omega))
  go_enter Tryz.func7, Tryz.ntmps7
  go_wp2_with (go_at_call 8; refine (awake_any _ E).mono ?_)
  rintro e w1 ⟨rfl, B1⟩
  have z1 := B1.size
  go_wp2_with fail
  go_loop [6] (fun i => ∃ k : Nat, k ≤ s1.length ∧ i = .int .i64 k ∧ Hid ((124 : UInt8) ∉ s1.take k)) (fun i => s1.length - (intOf i).toNat)
  case atStart => exact ⟨0, Nat.zero_le _, rfl, Lib.hid (by simp)⟩
  case round =>
    obtain ⟨k, hk, rfl, hno⟩ := hrel
    by_cases hlt : k < s1.length
    · have hsz : k < (ByteArray.mk s1.toArray).size := by rw [size_of]; exact hlt
      have hx : (ByteArray.mk s1.toArray)[k]'hsz = s1[k] := rfl
      by_cases hc : s1[k] = 124
      · have hq : ((((ByteArray.mk s1.toArray)[k]'hsz).toNat : Int) == 124) = true := by rw [hx, hc]; rfl
        clear hx hc
        go_wp2_with fail
        go_ret
        exact ⟨rfl, B1⟩
      · have hq : ((((ByteArray.mk s1.toArray)[k]'hsz).toNat : Int) == 124) = false := by
          rw [hx, beq_eq_false_iff_ne]; intro e; exact hc (UInt8.toNat.inj (by show s1[k].toNat = 124; omega))
        have HN := Lib.hid (no_next0 hno.out hlt hc)
        clear hx hc
        go_wp2_with fail
        go_round
        case rel => exact ⟨k + 1, by omega, by go_num, HN⟩
        case measure => simp [intOf]; omega
    · obtain rfl : k = s1.length := by omega
      have hn0 : Hid ((124 : UInt8) ∉ s1) := by
        have h := hno.out
        rw [List.take_length] at h
        exact Lib.hid h
      clear hno hlt hk
      have hcv : (convert 39 9 (.slice (some ⟨w1.heap.size, 0, none⟩) 1 1)).run Tryz.prog (w1.alloc (.cells #[.int .u8 (kb.toNat : Int)] 5)) = .ok (.string ⟨#[kb]⟩) (w1.alloc (.cells #[.int .u8 (kb.toNat : Int)] 5)) :=
        run_convert_bytes_back _ _ _ 5 ⟨w1.heap.size, 0, none⟩ 1 [kb] Tryz.underlying39 Tryz.underlying5 Tryz.underlying9 (fun j hj => by
          obtain rfl : j = 0 := by simp at hj; exact hj
          exact (IsRow.made w1 _ _).cell 0)
      have m0 : ¬ 9223372036854775807 < 3 + s1.length := by omega
      have m1 : ¬ 9223372036854775807 < 3 + s1.length + 4 := by omega
      have e0 : (ByteArray.mk #[124] ++ ByteArray.mk #[kb] ++ ByteArray.mk #[124] ++ ByteArray.mk s1.toArray ++ ByteArray.mk #[124, 56, 48, 124]) = ⟨(124 :: ([kb] ++ 124 :: (s1 ++ 124 :: ([56, 48] ++ [124])))).toArray⟩ := by
        rw [show (ByteArray.mk #[124]) = ⟨([124] : List UInt8).toArray⟩ from rfl, show (ByteArray.mk #[kb]) = ⟨([kb] : List UInt8).toArray⟩ from rfl, show (ByteArray.mk #[124, 56, 48, 124]) = ⟨([124, 56, 48, 124] : List UInt8).toArray⟩ from rfl, app_of, app_of, app_of, app_of]
        simp
      have CX := Lib.hid (fun W (EW : Env W) => show Calls Tryz.prog 11 #[.string (ByteArray.mk #[124] ++ ByteArray.mk #[kb] ++ ByteArray.mk #[124] ++ ByteArray.mk s1.toArray ++ ByteArray.mk #[124, 56, 48, 124])] W fun e w' => e = .returned (readX (124 :: ([kb] ++ 124 :: (s1 ++ 124 :: ([56, 48] ++ [124]))))) ∧ Below W.heap.size W w' by
        rw [e0]; exact Ext.read_any _ (by simp; omega) W EW)
      clear e0
      obtain ⟨kA, kB⟩ := ext_kind (k := kb) (h := s1) c124 hn0.out
      have hz : ∀ W, (Op.equalIn 10000 25 (endV 0 0 0 0 0) (endV 0 0 0 0 0)).run Tryz.prog W = .ok true W := fun W => by rw [equal_ends]; simp
      generalize 124 :: ([kb] ++ 124 :: (s1 ++ 124 :: ([56, 48] ++ [124]))) = tx at CX kA kB
      by_cases h2 : 50 ≤ kb.toNat ∧ kb.toNat ≤ 57
      · rw [readX_no (by rw [kA h2]; decide), kA h2] at CX
        obtain ⟨h2a, h2b⟩ := h2
        clear kA kB
        go_wp2_with (go_at_call 11; refine (CX.out _ ?_).mono ?_)
        · exact (E.below B1).alloc _
        intro e w2 hh
        first | (have b2 := hh.2; obtain rfl := hh.1; clear hh) | (intro b2; subst hh)
        have B2 : Below w.heap.size w w2 := (B1.alloc z1 _).trans (b2.mono (by first | omega | (simp; omega)))
        clear b2
        go_wp2_with fail
        go_ret
        exact ⟨rfl, B2.alloc B2.size _⟩
      · by_cases h1 : kb.toNat = 49
        · have q49 : ((kb.toNat : Int) == 49) = true := by rw [h1]; rfl
          have q50 : ¬ (50 : Int) ≤ (kb.toNat : Int) := by omega
          clear kA kB h2 h1
          unfold readX at CX
          generalize extH tx 0 = r0 at CX
          generalize extH tx 1 = r1 at CX
          generalize extH tx 2 = r2 at CX
          generalize extH tx 3 = r3 at CX
          generalize extP tx = r4 at CX
          generalize extC tx = rc at CX
          go_wp2_with (go_at_call 11; refine (CX.out _ ?_).mono ?_)
          · exact (E.below B1).alloc _
          intro e w2 hh
          first | (have b2 := hh.2; obtain rfl := hh.1; clear hh) | (intro b2; subst hh)
          have B2 : Below w.heap.size w w2 := (B1.alloc z1 _).trans (b2.mono (by first | omega | (simp; omega)))
          clear b2
          go_wp2_with fail
          go_ret
          exact ⟨rfl, B2.alloc B2.size _⟩
        · have q49 : ((kb.toNat : Int) == 49) = false := by rw [beq_eq_false_iff_ne]; omega
          have hr : kb.toNat < 49 ∨ 57 < kb.toNat := by omega
          rw [readX_no (by rw [kB hr]; decide), kB hr] at CX
          clear kA kB h2 h1
          rcases hr with hr | hr
          · have q50 : ¬ (50 : Int) ≤ (kb.toNat : Int) := by omega
            clear hr
            go_wp2_with (go_at_call 11; refine (CX.out _ ?_).mono ?_)
            · exact (E.below B1).alloc _
            intro e w2 hh
            first | (have b2 := hh.2; obtain rfl := hh.1; clear hh) | (intro b2; subst hh)
            have B2 : Below w.heap.size w w2 := (B1.alloc z1 _).trans (b2.mono (by first | omega | (simp; omega)))
            clear b2
            go_wp2_with fail
            go_ret
            exact ⟨rfl, B2.alloc B2.size _⟩
          · have q57 : ¬ (kb.toNat : Int) ≤ 57 := by omega
            have q50 : (50 : Int) ≤ (kb.toNat : Int) := by omega
            clear hr
            go_wp2_with (go_at_call 11; refine (CX.out _ ?_).mono ?_)
            · exact (E.below B1).alloc _
            intro e w2 hh
            first | (have b2 := hh.2; obtain rfl := hh.1; clear hh) | (intro b2; subst hh)
            have B2 : Below w.heap.size w w2 := (B1.alloc z1 _).trans (b2.mono (by first | omega | (simp; omega)))
            clear b2
            go_wp2_with fail
            go_ret
            exact ⟨rfl, B2.alloc B2.size _⟩

set_option maxRecDepth 100000 in
theorem lifted (os : Os) (started : os.Started) (H : Type) (enc : TypeId × Value → H) :
    ReturnsInHanded {} Tryz.checked os 7 .any (fun w args => (Rows.extKindsSpec.pre enc Tryz.prog Tryz.f7 [] false w args ∧ laidMetH Tryz.prog laidHere w) ∧ sizedMet enc Tryz.prog Tryz.f7 (OpenSpec.ofChange Rows.extKindsSpec) false w args)
      (Rows.extKindsSpec.post enc Tryz.prog Tryz.f7 false true false false) := by
  refine handed started (by kernel_rfl) Tryz.func7 #[.int .u8 0, .string ⟨#[]⟩] (by kernel_rfl) (by kernel_rfl) (by kernel_rfl) (World.shaped_of_ZipB (by kernel_rfl) (by kernel_rfl)) ?_
  intro W base args ds gs before hval0 hW E
  have hval : ∀ (j : Nat) t v, Tryz.f7.params[j]? = some t → args[j]? = some v → Value.okWide Tryz.prog W .any base t v := hval0
  have hW' := hW
  obtain ⟨p, q, hA0, hV, rfl, _, _⟩ := hW
  have hA : DataW.TrodAll enc Tryz.prog W 0 (fun _ => true) true Tryz.f7.params.toList args.toList ds p := hA0
  rw [Tryz.params7] at hA hval
  obtain ⟨v0, vs0, d0, ds0, p0, q0, hargs, rfl, rfl, r0, t0⟩ := trodAll_cons hA
  obtain ⟨v1, vs1, d1, ds1, p1, q1, rfl, rfl, rfl, r1, t1⟩ := trodAll_cons t0
  obtain ⟨rfl, rfl, rfl⟩ := trodAll_nil t1
  obtain rfl : args = #[v0, v1] := by cases args; simp_all
  obtain ⟨rfl, rfl⟩ := trodVars_none hV
  obtain ⟨n0, rfl, rfl, rfl, w0⟩ := open_int Tryz.underlying5 (hval 0 5 v0 rfl rfl) r0
  obtain ⟨x1, rfl, rfl, rfl, w1⟩ := open_string Tryz.underlying9 (hval 1 9 v1 rfl rfl) r1
  obtain ⟨s1, rfl⟩ : ∃ l : List UInt8, x1 = ⟨l.toArray⟩ := ⟨x1.data.toList, by simp⟩
  clear hA0 hval0
  simp only [List.append_nil] at hW'
  refine (walk n0 (byte_wf w0).1 (byte_wf w0).2 s1 (by have := w1; rw [size_mk] at this; unfold maxLen at this; exact this) W E).mono fun e W' ⟨he, hb⟩ => ?_
  subst he
  exact ⟨_, rfl, told hW' (fun _ _ _ => trodAll_cons_mk (shut_bool Tryz.underlying4 _) trodAll_mk0) (fun _ => trodAll_cons_mk (shut_int Tryz.underlying5 w0) (trodAll_cons_mk (shut_string Tryz.underlying9 w1) trodAll_mk0)) (fun _ => rfl) hb⟩

theorem over : Rows.ExtKindsSaid :=
  OpenClaim.holds_of_wide 7 Tryz.f7 rfl rfl rfl rfl rfl rfl rfl ⟨rfl, rfl, rfl, rfl, rfl⟩ rfl rfl rfl rfl rfl (by kernel_rfl) Tryz.func7 (by kernel_rfl)
    (of_decide_eq_true (by kernel_rfl)) (by unfold Func.isWrapper; first | (rw [if_pos (by decide +kernel)]; kernel_rfl) | (rw [if_neg (by decide +kernel)]; exact ⟨rfl, rfl⟩))
    (fun os started H enc _ => lifted os started H enc)

theorem proved : Rows.ExtKindsCardSaid :=
  Claim7.holds_tied_plain_at .later [] Rows.extKindsCard.laidKinds true Rows.extKindsCard.stood.harness true
    over (fun _ h => by cases h) (by kernel_rfl) (fun _ h => by cases h) extKinds_row_tie rfl ⟨rfl, rfl⟩ (by kernel_rfl) rfl
    (fun f fn hf hfn => by
      obtain rfl : f = 7 := Option.some.inj ((show Tryz.prog.funcNamed "wharfinger/wharfingerlaw04.ExtKinds" = some 7 by kernel_rfl).symm.trans hf) |>.symm
      obtain rfl : fn = Tryz.f7 := (Option.some.inj (Tryz.func7.symm.trans hfn)).symm
      exact ⟨by kernel_rfl, fun j t ht => by
        rw [Tryz.params7] at ht
        have hm : t ∈ [5, 9] := by simpa using Array.mem_of_getElem? ht
        have hall : ([5, 9].all fun u => !Tryz.prog.wantsStandIn u) = true := by kernel_rfl
        exact (show Tryz.prog.wantsStandIn t = false by simpa using List.all_eq_true.1 hall t hm)⟩)
    (by kernel_rfl)
#print axioms proved
end Go.Proofs.YtchemjppmncmdaaGreatDoor.extKinds
