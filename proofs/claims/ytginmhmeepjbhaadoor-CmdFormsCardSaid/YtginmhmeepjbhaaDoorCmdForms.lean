/- Proved: for every two texts the law CmdForms of layer 8 answers true. Conditions: none beyond the row's own (the library's variables start as the program's text lays them: the card ties them). -/
import Derived.Test.YtginmhmeepjbhaaDoorCmdAwake
import Derived.BigQuiet
import Derived.LoopTactic
import Derived.WalkMore

namespace Go.Proofs.YtginmhmeepjbhaaDoor.cmdForms
open Go.Proofs.YtginmhmeepjbhaaDoor Go.Proofs.YtginmhmeepjbhaaDoor.Cm Go.Proofs.YtginmhmeepjbhaaDoor.Vb
open Go.ChangeShapes Go.WideShapes Go.ChangeAt Go.RowKit Go.Sort Go.ChangeMaps

set_option linter.unusedVariables false in
set_option maxHeartbeats 8000000 in
set_option maxRecDepth 100000 in
theorem walk (s0 : List UInt8) (z0 : s0.length ≤ 9223372036854775807) (s1 : List UInt8) (z1 : s1.length ≤ 9223372036854775807) (w : World)  (E : Env w) :
    Calls Tryd.prog 7 #[str s0, str s1] w fun e w' => e = .returned (.bool true) ∧ Below w.heap.size w w' := by
  by_cases hs : 100 < s0.length
  · have hs' : (100 : Int) < (s0.length : Int) := by omega
    have B0 := Lib.hid (Below.refl w.heap.size w)
    go_enter Tryd.func7, Tryd.ntmps7
    go_wp2_with (first
          | (go_at_call 9; refine (awake_any _ (E.below (B0.out))).mono ?_; rintro e w1 ⟨rfl, b1⟩; have B1 := Lib.hid (B0.out.trans (b1.mono B0.out.size))))
    all_goals (go_ret; exact ⟨by first | rfl | (simp; done) | (simp; omega), B1.out⟩)
  have hs' : ¬ (100 : Int) < (s0.length : Int) := by omega
  by_cases ha : 100 < s1.length
  · have ha' : (100 : Int) < (s1.length : Int) := by omega
    have B0 := Lib.hid (Below.refl w.heap.size w)
    go_enter Tryd.func7, Tryd.ntmps7
    go_wp2_with (first
          | (go_at_call 9; refine (awake_any _ (E.below (B0.out))).mono ?_; rintro e w1 ⟨rfl, b1⟩; have B1 := Lib.hid (B0.out.trans (b1.mono B0.out.size))))
    all_goals (go_ret; exact ⟨by first | rfl | (simp; done) | (simp; omega), B1.out⟩)
  have ha' : ¬ (100 : Int) < (s1.length : Int) := by omega
  have HC := Lib.hid (fun W => clean_any s1 (by omega) W)
  have HF := Lib.hid (fun W => find_any s0 (by omega) W)
  obtain ⟨q, hq⟩ : ∃ q, q = s0 ++ [32] := ⟨_, rfl⟩
  obtain ⟨t, ht⟩ : ∃ t, t = s0 ++ 32 :: s1 := ⟨_, rfl⟩
  have hx1 : ByteArray.mk s0.toArray ++ ByteArray.mk #[32] = ⟨q.toArray⟩ := by rw [hq]; apply ByteArray.ext; simp [ByteArray.data_append]
  have hx2 : ByteArray.mk q.toArray ++ ByteArray.mk s1.toArray = ⟨t.toArray⟩ := by rw [hq, ht]; apply ByteArray.ext; simp [ByteArray.data_append]
  have htl : t.length ≤ 1000 := by rw [ht, List.length_append, List.length_cons]; omega
  have HR := Lib.hid (fun W EW => read_any t (by omega) W EW)
  have HE : Hid ((∀ c ∈ s0, (c != 32) = true) → read t = if fine s0 && clean s1 then (if (found s0).2 then (if may (upper s0) s1 then ((upper s0, s1), 0) else (([], []), 1)) else (([], []), 3)) else (([], []), 2)) := Lib.hid (by rw [ht]; exact read_forms)
  have hsum : ¬ 9223372036854775807 < q.length + s1.length := by rw [hq, List.length_append]; simp <;> omega
  clear hq ht htl hs ha
  have eqn : ∀ W, (Op.equalIn 10000 23 (.agg #[.string ⟨#[]⟩, .string ⟨#[]⟩]) (.agg #[.string ⟨#[]⟩, .string ⟨#[]⟩])).run Tryd.prog W = .ok true W := fun W => by
    have := equal_cmds [] [] [] [] W
    rw [decide_eq_true ⟨rfl, rfl⟩] at this
    exact this
  by_cases l3 : s0.length = 3
  · have d3 : ((s0.length : Int) == 3) = true := by rw [l3]; rfl
    have HOK : Hid (fine s0 = (true && letters (upper s0))) := Lib.hid (by unfold fine; rw [decide_eq_true (Or.inl l3)])
    clear l3
    have B0 := Lib.hid (Below.refl w.heap.size w)
    go_enter Tryd.func7, Tryd.ntmps7
    go_wp2_with (first
        | (go_at_call 9; refine (awake_any _ (E.below (B0.out))).mono ?_; rintro e w1 ⟨rfl, b1⟩; have B1 := Lib.hid (B0.out.trans (b1.mono B0.out.size))))
    go_loopw [6, 7] (fun x6 x7 wr => ∃ (i : Nat) (f : Bool), x6 = .bool f ∧ x7 = .int .i64 (i : Int) ∧ i ≤ s0.length ∧ Hid (f = (true && letters (upper (s0.take i)))) ∧ Hid (∀ c ∈ s0.take i, (c != 32) = true) ∧ Hid (wr = w1)) (fun _ i _ => s0.length - (intOf i).toNat)
    case atStart => exact ⟨0, true, rfl, rfl, Nat.zero_le _, Lib.hid (by simp [letters, upper]), Lib.hid (by simp), by first | exact Lib.hid rfl | exact Lib.hid trivial⟩
    case round =>
      obtain ⟨i, f, rfl, rfl, hi, HI, HNB, HW⟩ := hrel
      obtain rfl := HW.out
      by_cases hlt : i < s0.length
      · have hji : (i : Int) < (s0.length : Int) := by omega
        have hsz : i < (ByteArray.mk s0.toArray).size := by simpa [ByteArray.size] using hlt
        obtain ⟨c, hc⟩ : ∃ c : UInt8, (ByteArray.mk s0.toArray)[i]'hsz = c := ⟨_, rfl⟩
        have hc' : s0[i] = c := hc
        have HN : Hid (letters (upper (s0.take (i + 1))) = (letters (upper (s0.take i)) && letterB c)) := Lib.hid (by rw [letters_up hlt, hc'])
        have HL := Lib.hid (letter_eq c)
        have HB2 : Hid (c ≠ 32 → ∀ x ∈ s0.take (i + 1), (x != 32) = true) := Lib.hid (fun h => noblank_next hlt HNB.out (by rw [hc']; exact h))
        clear hc'
        by_cases hb : c = 32
        · subst hb
          cases f with
          | false =>
            go_wp2_with fail
            go_ret
            exact ⟨rfl, B1.out⟩
          | true =>
            go_wp2_with fail
            go_ret
            exact ⟨rfl, B1.out⟩
        · have hne := byte_ne_32 hb
          have HB3 := Lib.hid (HB2.out hb)
          clear HB2 hb
          cases f with
          | false =>
            go_wp2_with fail
            go_roundw
            case rel => exact ⟨i + 1, false, rfl, by go_num, by omega, Lib.hid (by rw [HN.out, ← Bool.and_assoc, ← HI.out] <;> rfl), HB3, by first | exact Lib.hid rfl | exact Lib.hid trivial⟩
            case measure => simp [intOf]; omega
          | true =>
            by_cases h1 : 97 ≤ c.toNat
            · by_cases h2 : c.toNat ≤ 122
              · have g1 : (97 : Int) ≤ (c.toNat : Int) := by omega
                have g2 : (c.toNat : Int) ≤ 122 := by omega
                have HV : Hid (letterB c = true) := Lib.hid (by rw [HL.out, decide_eq_true (by omega : (97 ≤ c.toNat ∧ c.toNat ≤ 122))] <;> rfl)
                go_wp2_with fail
                go_roundw
                case rel => exact ⟨i + 1, true, rfl, by go_num, by omega, Lib.hid (by rw [HN.out, ← Bool.and_assoc, ← HI.out, HV.out] <;> rfl), HB3, by first | exact Lib.hid rfl | exact Lib.hid trivial⟩
                case measure => simp [intOf]; omega
              · have g1 : (97 : Int) ≤ (c.toNat : Int) := by omega
                have g2 : ¬ (c.toNat : Int) ≤ 122 := by omega
                have g3 : (65 : Int) ≤ (c.toNat : Int) := by omega
                have g4 : ¬ (c.toNat : Int) ≤ 90 := by omega
                have HV : Hid (letterB c = false) := Lib.hid (by rw [HL.out, decide_eq_false (by omega : ¬ (97 ≤ c.toNat ∧ c.toNat ≤ 122)), decide_eq_false (by omega : ¬ (65 ≤ c.toNat ∧ c.toNat ≤ 90))] <;> rfl)
                go_wp2_with fail
                go_roundw
                case rel => exact ⟨i + 1, false, rfl, by go_num, by omega, Lib.hid (by rw [HN.out, ← Bool.and_assoc, ← HI.out, HV.out] <;> rfl), HB3, by first | exact Lib.hid rfl | exact Lib.hid trivial⟩
                case measure => simp [intOf]; omega
            · by_cases h3 : 65 ≤ c.toNat
              · by_cases h4 : c.toNat ≤ 90
                · have g1 : ¬ (97 : Int) ≤ (c.toNat : Int) := by omega
                  have g3 : (65 : Int) ≤ (c.toNat : Int) := by omega
                  have g4 : (c.toNat : Int) ≤ 90 := by omega
                  have HV : Hid (letterB c = true) := Lib.hid (by rw [HL.out, decide_eq_false (by omega : ¬ (97 ≤ c.toNat ∧ c.toNat ≤ 122)), decide_eq_true (by omega : (65 ≤ c.toNat ∧ c.toNat ≤ 90))] <;> rfl)
                  go_wp2_with fail
                  go_roundw
                  case rel => exact ⟨i + 1, true, rfl, by go_num, by omega, Lib.hid (by rw [HN.out, ← Bool.and_assoc, ← HI.out, HV.out] <;> rfl), HB3, by first | exact Lib.hid rfl | exact Lib.hid trivial⟩
                  case measure => simp [intOf]; omega
                · have g1 : ¬ (97 : Int) ≤ (c.toNat : Int) := by omega
                  have g3 : (65 : Int) ≤ (c.toNat : Int) := by omega
                  have g4 : ¬ (c.toNat : Int) ≤ 90 := by omega
                  have HV : Hid (letterB c = false) := Lib.hid (by rw [HL.out, decide_eq_false (by omega : ¬ (97 ≤ c.toNat ∧ c.toNat ≤ 122)), decide_eq_false (by omega : ¬ (65 ≤ c.toNat ∧ c.toNat ≤ 90))] <;> rfl)
                  go_wp2_with fail
                  go_roundw
                  case rel => exact ⟨i + 1, false, rfl, by go_num, by omega, Lib.hid (by rw [HN.out, ← Bool.and_assoc, ← HI.out, HV.out] <;> rfl), HB3, by first | exact Lib.hid rfl | exact Lib.hid trivial⟩
                  case measure => simp [intOf]; omega
              · have g1 : ¬ (97 : Int) ≤ (c.toNat : Int) := by omega
                have g3 : ¬ (65 : Int) ≤ (c.toNat : Int) := by omega
                have HV : Hid (letterB c = false) := Lib.hid (by rw [HL.out, decide_eq_false (by omega : ¬ (97 ≤ c.toNat ∧ c.toNat ≤ 122)), decide_eq_false (by omega : ¬ (65 ≤ c.toNat ∧ c.toNat ≤ 90))] <;> rfl)
                go_wp2_with fail
                go_roundw
                case rel => exact ⟨i + 1, false, rfl, by go_num, by omega, Lib.hid (by rw [HN.out, ← Bool.and_assoc, ← HI.out, HV.out] <;> rfl), HB3, by first | exact Lib.hid rfl | exact Lib.hid trivial⟩
                case measure => simp [intOf]; omega
      · obtain rfl : i = s0.length := by omega
        have hf : f = fine s0 := by
          have h := HI.out
          rw [List.take_length] at h
          rw [h, HOK.out]
        have hr := HE.out (by have h := HNB.out; rw [List.take_length] at h; exact h)
        rw [← hf] at hr
        clear hf HI HNB HE HOK
        cases f with
        | false =>
          rw [show read t = (([], []), 2) from by rw [hr]; rfl] at HR
          clear hr
          simp only at HR
          go_wp2_with (first
              | (go_at_call 13; refine (HR.out _ (E.below (B1.out))).mono ?_; rintro e w2 ⟨rfl, b2⟩; have B2 := Lib.hid (B1.out.trans (b2.mono B1.out.size))))
          all_goals (go_ret; exact ⟨by first | rfl | (simp; done), (B2.out).alloc B2.out.size (.cells #[.string ⟨#[]⟩, .string ⟨#[]⟩] 23)⟩)
        | true =>
          cases hcl : clean s1 with
          | false =>
            rw [show read t = (([], []), 2) from by rw [hr, hcl]; rfl] at HR
            rw [hcl] at HC
            clear hr hcl
            simp only at HR
            go_wp2_with (first
                | (go_at_call 13; refine (HR.out _ (E.below (B1.out))).mono ?_; rintro e w2 ⟨rfl, b2⟩; have B2 := Lib.hid (B1.out.trans (b2.mono B1.out.size)))
                | (go_at_call 17; refine (HC.out _).mono ?_; rintro e w3 ⟨rfl, b3⟩; have B3 := Lib.hid (((B2.out).alloc B2.out.size (.cells #[.string ⟨#[]⟩, .string ⟨#[]⟩] 23)).trans (b3.mono (by have := B2.out.size; simp <;> omega))); have d3 := Lib.hid ((IsRow.made w2 23 #[.string ⟨#[]⟩, .string ⟨#[]⟩]).call b3); have dc0 : w3.cell? ⟨w2.heap.size, 0, none⟩ = some (.string ⟨#[]⟩) := d3.out.cell 0; have dc1 : w3.cell? ⟨w2.heap.size, 1, none⟩ = some (.string ⟨#[]⟩) := d3.out.cell 1; have dlt : w2.heap.size < w3.heap.size := d3.out.lt))
            all_goals (go_ret; exact ⟨by first | rfl | (simp; done), B3.out⟩)
          | true =>
            rw [hcl] at HC hr
            clear hcl
            generalize found s0 = F at HF hr
            obtain ⟨⟨vn, vk, va, vp⟩, is⟩ := F
            simp only at HF hr
            cases is with
            | false =>
              rw [show read t = (([], []), 3) from by rw [hr]; rfl] at HR
              clear hr
              simp only at HR
              go_wp2_with (first
                  | (go_at_call 13; refine (HR.out _ (E.below (B1.out))).mono ?_; rintro e w2 ⟨rfl, b2⟩; have B2 := Lib.hid (B1.out.trans (b2.mono B1.out.size)))
                  | (go_at_call 17; refine (HC.out _).mono ?_; rintro e w3 ⟨rfl, b3⟩; have B3 := Lib.hid (((B2.out).alloc B2.out.size (.cells #[.string ⟨#[]⟩, .string ⟨#[]⟩] 23)).trans (b3.mono (by have := B2.out.size; simp <;> omega))); have d3 := Lib.hid ((IsRow.made w2 23 #[.string ⟨#[]⟩, .string ⟨#[]⟩]).call b3))
                  | (go_at_call 20; refine (HF.out _).mono ?_; rintro e w4 ⟨rfl, b4⟩; have B4 := Lib.hid (B3.out.trans (b4.mono B3.out.size)); have d4 := Lib.hid (d3.out.call b4); clear d3))
              all_goals (go_ret; exact ⟨by first | rfl | (simp; done), (B4.out).alloc B4.out.size (.cells #[.string ⟨vn.toArray⟩, .int .i64 vk, .int .i64 va, .bool vp] 37)⟩)
            | true =>
              cases hm : may (upper s0) s1 with
              | true =>
                rw [show read t = ((upper s0, s1), 0) from by rw [hr, hm]; rfl] at HR
                clear hr hm
                generalize upper s0 = u at HR
                simp only at HR
                go_wp2_with (first
                    | (go_at_call 13; refine (HR.out _ (E.below (B1.out))).mono ?_; rintro e w2 ⟨rfl, b2⟩; have B2 := Lib.hid (B1.out.trans (b2.mono B1.out.size)))
                    | (go_at_call 17; refine (HC.out _).mono ?_; rintro e w3 ⟨rfl, b3⟩; have B3 := Lib.hid (((B2.out).alloc B2.out.size (.cells #[.string ⟨u.toArray⟩, .string ⟨s1.toArray⟩] 23)).trans (b3.mono (by have := B2.out.size; simp <;> omega))); have d3 := Lib.hid ((IsRow.made w2 23 #[.string ⟨u.toArray⟩, .string ⟨s1.toArray⟩]).call b3))
                    | (go_at_call 20; refine (HF.out _).mono ?_; rintro e w4 ⟨rfl, b4⟩; have B4 := Lib.hid (B3.out.trans (b4.mono B3.out.size)); have d4 := Lib.hid (d3.out.call b4); clear d3))
                all_goals (go_ret; exact ⟨by first | rfl | (simp; done), (B4.out).alloc B4.out.size (.cells #[.string ⟨vn.toArray⟩, .int .i64 vk, .int .i64 va, .bool vp] 37)⟩)
              | false =>
                rw [show read t = (([], []), 1) from by rw [hr, hm]; rfl] at HR
                clear hr hm
                simp only at HR
                go_wp2_with (first
                    | (go_at_call 13; refine (HR.out _ (E.below (B1.out))).mono ?_; rintro e w2 ⟨rfl, b2⟩; have B2 := Lib.hid (B1.out.trans (b2.mono B1.out.size)))
                    | (go_at_call 17; refine (HC.out _).mono ?_; rintro e w3 ⟨rfl, b3⟩; have B3 := Lib.hid (((B2.out).alloc B2.out.size (.cells #[.string ⟨#[]⟩, .string ⟨#[]⟩] 23)).trans (b3.mono (by have := B2.out.size; simp <;> omega))); have d3 := Lib.hid ((IsRow.made w2 23 #[.string ⟨#[]⟩, .string ⟨#[]⟩]).call b3))
                    | (go_at_call 20; refine (HF.out _).mono ?_; rintro e w4 ⟨rfl, b4⟩; have B4 := Lib.hid (B3.out.trans (b4.mono B3.out.size)); have d4 := Lib.hid (d3.out.call b4); clear d3))
                all_goals (go_ret; exact ⟨by first | rfl | (simp; done), (B4.out).alloc B4.out.size (.cells #[.string ⟨vn.toArray⟩, .int .i64 vk, .int .i64 va, .bool vp] 37)⟩)
  · by_cases l4 : s0.length = 4
    · have d3 : ((s0.length : Int) == 3) = false := by rw [l4]; rfl
      have d4 : ((s0.length : Int) == 4) = true := by rw [l4]; rfl
      have HOK : Hid (fine s0 = (true && letters (upper s0))) := Lib.hid (by unfold fine; rw [decide_eq_true (Or.inr l4)])
      clear l3 l4
      have B0 := Lib.hid (Below.refl w.heap.size w)
      go_enter Tryd.func7, Tryd.ntmps7
      go_wp2_with (first
          | (go_at_call 9; refine (awake_any _ (E.below (B0.out))).mono ?_; rintro e w1 ⟨rfl, b1⟩; have B1 := Lib.hid (B0.out.trans (b1.mono B0.out.size))))
      go_loopw [6, 7] (fun x6 x7 wr => ∃ (i : Nat) (f : Bool), x6 = .bool f ∧ x7 = .int .i64 (i : Int) ∧ i ≤ s0.length ∧ Hid (f = (true && letters (upper (s0.take i)))) ∧ Hid (∀ c ∈ s0.take i, (c != 32) = true) ∧ Hid (wr = w1)) (fun _ i _ => s0.length - (intOf i).toNat)
      case atStart => exact ⟨0, true, rfl, rfl, Nat.zero_le _, Lib.hid (by simp [letters, upper]), Lib.hid (by simp), by first | exact Lib.hid rfl | exact Lib.hid trivial⟩
      case round =>
        obtain ⟨i, f, rfl, rfl, hi, HI, HNB, HW⟩ := hrel
        obtain rfl := HW.out
        by_cases hlt : i < s0.length
        · have hji : (i : Int) < (s0.length : Int) := by omega
          have hsz : i < (ByteArray.mk s0.toArray).size := by simpa [ByteArray.size] using hlt
          obtain ⟨c, hc⟩ : ∃ c : UInt8, (ByteArray.mk s0.toArray)[i]'hsz = c := ⟨_, rfl⟩
          have hc' : s0[i] = c := hc
          have HN : Hid (letters (upper (s0.take (i + 1))) = (letters (upper (s0.take i)) && letterB c)) := Lib.hid (by rw [letters_up hlt, hc'])
          have HL := Lib.hid (letter_eq c)
          have HB2 : Hid (c ≠ 32 → ∀ x ∈ s0.take (i + 1), (x != 32) = true) := Lib.hid (fun h => noblank_next hlt HNB.out (by rw [hc']; exact h))
          clear hc'
          by_cases hb : c = 32
          · subst hb
            cases f with
            | false =>
              go_wp2_with fail
              go_ret
              exact ⟨rfl, B1.out⟩
            | true =>
              go_wp2_with fail
              go_ret
              exact ⟨rfl, B1.out⟩
          · have hne := byte_ne_32 hb
            have HB3 := Lib.hid (HB2.out hb)
            clear HB2 hb
            cases f with
            | false =>
              go_wp2_with fail
              go_roundw
              case rel => exact ⟨i + 1, false, rfl, by go_num, by omega, Lib.hid (by rw [HN.out, ← Bool.and_assoc, ← HI.out] <;> rfl), HB3, by first | exact Lib.hid rfl | exact Lib.hid trivial⟩
              case measure => simp [intOf]; omega
            | true =>
              by_cases h1 : 97 ≤ c.toNat
              · by_cases h2 : c.toNat ≤ 122
                · have g1 : (97 : Int) ≤ (c.toNat : Int) := by omega
                  have g2 : (c.toNat : Int) ≤ 122 := by omega
                  have HV : Hid (letterB c = true) := Lib.hid (by rw [HL.out, decide_eq_true (by omega : (97 ≤ c.toNat ∧ c.toNat ≤ 122))] <;> rfl)
                  go_wp2_with fail
                  go_roundw
                  case rel => exact ⟨i + 1, true, rfl, by go_num, by omega, Lib.hid (by rw [HN.out, ← Bool.and_assoc, ← HI.out, HV.out] <;> rfl), HB3, by first | exact Lib.hid rfl | exact Lib.hid trivial⟩
                  case measure => simp [intOf]; omega
                · have g1 : (97 : Int) ≤ (c.toNat : Int) := by omega
                  have g2 : ¬ (c.toNat : Int) ≤ 122 := by omega
                  have g3 : (65 : Int) ≤ (c.toNat : Int) := by omega
                  have g4 : ¬ (c.toNat : Int) ≤ 90 := by omega
                  have HV : Hid (letterB c = false) := Lib.hid (by rw [HL.out, decide_eq_false (by omega : ¬ (97 ≤ c.toNat ∧ c.toNat ≤ 122)), decide_eq_false (by omega : ¬ (65 ≤ c.toNat ∧ c.toNat ≤ 90))] <;> rfl)
                  go_wp2_with fail
                  go_roundw
                  case rel => exact ⟨i + 1, false, rfl, by go_num, by omega, Lib.hid (by rw [HN.out, ← Bool.and_assoc, ← HI.out, HV.out] <;> rfl), HB3, by first | exact Lib.hid rfl | exact Lib.hid trivial⟩
                  case measure => simp [intOf]; omega
              · by_cases h3 : 65 ≤ c.toNat
                · by_cases h4 : c.toNat ≤ 90
                  · have g1 : ¬ (97 : Int) ≤ (c.toNat : Int) := by omega
                    have g3 : (65 : Int) ≤ (c.toNat : Int) := by omega
                    have g4 : (c.toNat : Int) ≤ 90 := by omega
                    have HV : Hid (letterB c = true) := Lib.hid (by rw [HL.out, decide_eq_false (by omega : ¬ (97 ≤ c.toNat ∧ c.toNat ≤ 122)), decide_eq_true (by omega : (65 ≤ c.toNat ∧ c.toNat ≤ 90))] <;> rfl)
                    go_wp2_with fail
                    go_roundw
                    case rel => exact ⟨i + 1, true, rfl, by go_num, by omega, Lib.hid (by rw [HN.out, ← Bool.and_assoc, ← HI.out, HV.out] <;> rfl), HB3, by first | exact Lib.hid rfl | exact Lib.hid trivial⟩
                    case measure => simp [intOf]; omega
                  · have g1 : ¬ (97 : Int) ≤ (c.toNat : Int) := by omega
                    have g3 : (65 : Int) ≤ (c.toNat : Int) := by omega
                    have g4 : ¬ (c.toNat : Int) ≤ 90 := by omega
                    have HV : Hid (letterB c = false) := Lib.hid (by rw [HL.out, decide_eq_false (by omega : ¬ (97 ≤ c.toNat ∧ c.toNat ≤ 122)), decide_eq_false (by omega : ¬ (65 ≤ c.toNat ∧ c.toNat ≤ 90))] <;> rfl)
                    go_wp2_with fail
                    go_roundw
                    case rel => exact ⟨i + 1, false, rfl, by go_num, by omega, Lib.hid (by rw [HN.out, ← Bool.and_assoc, ← HI.out, HV.out] <;> rfl), HB3, by first | exact Lib.hid rfl | exact Lib.hid trivial⟩
                    case measure => simp [intOf]; omega
                · have g1 : ¬ (97 : Int) ≤ (c.toNat : Int) := by omega
                  have g3 : ¬ (65 : Int) ≤ (c.toNat : Int) := by omega
                  have HV : Hid (letterB c = false) := Lib.hid (by rw [HL.out, decide_eq_false (by omega : ¬ (97 ≤ c.toNat ∧ c.toNat ≤ 122)), decide_eq_false (by omega : ¬ (65 ≤ c.toNat ∧ c.toNat ≤ 90))] <;> rfl)
                  go_wp2_with fail
                  go_roundw
                  case rel => exact ⟨i + 1, false, rfl, by go_num, by omega, Lib.hid (by rw [HN.out, ← Bool.and_assoc, ← HI.out, HV.out] <;> rfl), HB3, by first | exact Lib.hid rfl | exact Lib.hid trivial⟩
                  case measure => simp [intOf]; omega
        · obtain rfl : i = s0.length := by omega
          have hf : f = fine s0 := by
            have h := HI.out
            rw [List.take_length] at h
            rw [h, HOK.out]
          have hr := HE.out (by have h := HNB.out; rw [List.take_length] at h; exact h)
          rw [← hf] at hr
          clear hf HI HNB HE HOK
          cases f with
          | false =>
            rw [show read t = (([], []), 2) from by rw [hr]; rfl] at HR
            clear hr
            simp only at HR
            go_wp2_with (first
                | (go_at_call 13; refine (HR.out _ (E.below (B1.out))).mono ?_; rintro e w2 ⟨rfl, b2⟩; have B2 := Lib.hid (B1.out.trans (b2.mono B1.out.size))))
            all_goals (go_ret; exact ⟨by first | rfl | (simp; done), (B2.out).alloc B2.out.size (.cells #[.string ⟨#[]⟩, .string ⟨#[]⟩] 23)⟩)
          | true =>
            cases hcl : clean s1 with
            | false =>
              rw [show read t = (([], []), 2) from by rw [hr, hcl]; rfl] at HR
              rw [hcl] at HC
              clear hr hcl
              simp only at HR
              go_wp2_with (first
                  | (go_at_call 13; refine (HR.out _ (E.below (B1.out))).mono ?_; rintro e w2 ⟨rfl, b2⟩; have B2 := Lib.hid (B1.out.trans (b2.mono B1.out.size)))
                  | (go_at_call 17; refine (HC.out _).mono ?_; rintro e w3 ⟨rfl, b3⟩; have B3 := Lib.hid (((B2.out).alloc B2.out.size (.cells #[.string ⟨#[]⟩, .string ⟨#[]⟩] 23)).trans (b3.mono (by have := B2.out.size; simp <;> omega))); have d3 := Lib.hid ((IsRow.made w2 23 #[.string ⟨#[]⟩, .string ⟨#[]⟩]).call b3); have dc0 : w3.cell? ⟨w2.heap.size, 0, none⟩ = some (.string ⟨#[]⟩) := d3.out.cell 0; have dc1 : w3.cell? ⟨w2.heap.size, 1, none⟩ = some (.string ⟨#[]⟩) := d3.out.cell 1; have dlt : w2.heap.size < w3.heap.size := d3.out.lt))
              all_goals (go_ret; exact ⟨by first | rfl | (simp; done), B3.out⟩)
            | true =>
              rw [hcl] at HC hr
              clear hcl
              generalize found s0 = F at HF hr
              obtain ⟨⟨vn, vk, va, vp⟩, is⟩ := F
              simp only at HF hr
              cases is with
              | false =>
                rw [show read t = (([], []), 3) from by rw [hr]; rfl] at HR
                clear hr
                simp only at HR
                go_wp2_with (first
                    | (go_at_call 13; refine (HR.out _ (E.below (B1.out))).mono ?_; rintro e w2 ⟨rfl, b2⟩; have B2 := Lib.hid (B1.out.trans (b2.mono B1.out.size)))
                    | (go_at_call 17; refine (HC.out _).mono ?_; rintro e w3 ⟨rfl, b3⟩; have B3 := Lib.hid (((B2.out).alloc B2.out.size (.cells #[.string ⟨#[]⟩, .string ⟨#[]⟩] 23)).trans (b3.mono (by have := B2.out.size; simp <;> omega))); have d3 := Lib.hid ((IsRow.made w2 23 #[.string ⟨#[]⟩, .string ⟨#[]⟩]).call b3))
                    | (go_at_call 20; refine (HF.out _).mono ?_; rintro e w4 ⟨rfl, b4⟩; have B4 := Lib.hid (B3.out.trans (b4.mono B3.out.size)); have d4 := Lib.hid (d3.out.call b4); clear d3))
                all_goals (go_ret; exact ⟨by first | rfl | (simp; done), (B4.out).alloc B4.out.size (.cells #[.string ⟨vn.toArray⟩, .int .i64 vk, .int .i64 va, .bool vp] 37)⟩)
              | true =>
                cases hm : may (upper s0) s1 with
                | true =>
                  rw [show read t = ((upper s0, s1), 0) from by rw [hr, hm]; rfl] at HR
                  clear hr hm
                  generalize upper s0 = u at HR
                  simp only at HR
                  go_wp2_with (first
                      | (go_at_call 13; refine (HR.out _ (E.below (B1.out))).mono ?_; rintro e w2 ⟨rfl, b2⟩; have B2 := Lib.hid (B1.out.trans (b2.mono B1.out.size)))
                      | (go_at_call 17; refine (HC.out _).mono ?_; rintro e w3 ⟨rfl, b3⟩; have B3 := Lib.hid (((B2.out).alloc B2.out.size (.cells #[.string ⟨u.toArray⟩, .string ⟨s1.toArray⟩] 23)).trans (b3.mono (by have := B2.out.size; simp <;> omega))); have d3 := Lib.hid ((IsRow.made w2 23 #[.string ⟨u.toArray⟩, .string ⟨s1.toArray⟩]).call b3))
                      | (go_at_call 20; refine (HF.out _).mono ?_; rintro e w4 ⟨rfl, b4⟩; have B4 := Lib.hid (B3.out.trans (b4.mono B3.out.size)); have d4 := Lib.hid (d3.out.call b4); clear d3))
                  all_goals (go_ret; exact ⟨by first | rfl | (simp; done), (B4.out).alloc B4.out.size (.cells #[.string ⟨vn.toArray⟩, .int .i64 vk, .int .i64 va, .bool vp] 37)⟩)
                | false =>
                  rw [show read t = (([], []), 1) from by rw [hr, hm]; rfl] at HR
                  clear hr hm
                  simp only at HR
                  go_wp2_with (first
                      | (go_at_call 13; refine (HR.out _ (E.below (B1.out))).mono ?_; rintro e w2 ⟨rfl, b2⟩; have B2 := Lib.hid (B1.out.trans (b2.mono B1.out.size)))
                      | (go_at_call 17; refine (HC.out _).mono ?_; rintro e w3 ⟨rfl, b3⟩; have B3 := Lib.hid (((B2.out).alloc B2.out.size (.cells #[.string ⟨#[]⟩, .string ⟨#[]⟩] 23)).trans (b3.mono (by have := B2.out.size; simp <;> omega))); have d3 := Lib.hid ((IsRow.made w2 23 #[.string ⟨#[]⟩, .string ⟨#[]⟩]).call b3))
                      | (go_at_call 20; refine (HF.out _).mono ?_; rintro e w4 ⟨rfl, b4⟩; have B4 := Lib.hid (B3.out.trans (b4.mono B3.out.size)); have d4 := Lib.hid (d3.out.call b4); clear d3))
                  all_goals (go_ret; exact ⟨by first | rfl | (simp; done), (B4.out).alloc B4.out.size (.cells #[.string ⟨vn.toArray⟩, .int .i64 vk, .int .i64 va, .bool vp] 37)⟩)
    · have d3 : ((s0.length : Int) == 3) = false := by simpa using (by omega : ¬ (s0.length : Int) = 3)
      have d4 : ((s0.length : Int) == 4) = false := by simpa using (by omega : ¬ (s0.length : Int) = 4)
      have HOK : Hid (fine s0 = (false && letters (upper s0))) := Lib.hid (by unfold fine; rw [decide_eq_false (by omega : ¬ (s0.length = 3 ∨ s0.length = 4))])
      clear l3 l4
      have B0 := Lib.hid (Below.refl w.heap.size w)
      go_enter Tryd.func7, Tryd.ntmps7
      go_wp2_with (first
          | (go_at_call 9; refine (awake_any _ (E.below (B0.out))).mono ?_; rintro e w1 ⟨rfl, b1⟩; have B1 := Lib.hid (B0.out.trans (b1.mono B0.out.size))))
      go_loopw [6, 7] (fun x6 x7 wr => ∃ (i : Nat) (f : Bool), x6 = .bool f ∧ x7 = .int .i64 (i : Int) ∧ i ≤ s0.length ∧ Hid (f = (false && letters (upper (s0.take i)))) ∧ Hid (∀ c ∈ s0.take i, (c != 32) = true) ∧ Hid (wr = w1)) (fun _ i _ => s0.length - (intOf i).toNat)
      case atStart => exact ⟨0, false, rfl, rfl, Nat.zero_le _, Lib.hid (by simp [letters, upper]), Lib.hid (by simp), by first | exact Lib.hid rfl | exact Lib.hid trivial⟩
      case round =>
        obtain ⟨i, f, rfl, rfl, hi, HI, HNB, HW⟩ := hrel
        obtain rfl := HW.out
        by_cases hlt : i < s0.length
        · have hji : (i : Int) < (s0.length : Int) := by omega
          have hsz : i < (ByteArray.mk s0.toArray).size := by simpa [ByteArray.size] using hlt
          obtain ⟨c, hc⟩ : ∃ c : UInt8, (ByteArray.mk s0.toArray)[i]'hsz = c := ⟨_, rfl⟩
          have hc' : s0[i] = c := hc
          have HN : Hid (letters (upper (s0.take (i + 1))) = (letters (upper (s0.take i)) && letterB c)) := Lib.hid (by rw [letters_up hlt, hc'])
          have HL := Lib.hid (letter_eq c)
          have HB2 : Hid (c ≠ 32 → ∀ x ∈ s0.take (i + 1), (x != 32) = true) := Lib.hid (fun h => noblank_next hlt HNB.out (by rw [hc']; exact h))
          clear hc'
          by_cases hb : c = 32
          · subst hb
            cases f with
            | false =>
              go_wp2_with fail
              go_ret
              exact ⟨rfl, B1.out⟩
            | true =>
              go_wp2_with fail
              go_ret
              exact ⟨rfl, B1.out⟩
          · have hne := byte_ne_32 hb
            have HB3 := Lib.hid (HB2.out hb)
            clear HB2 hb
            cases f with
            | false =>
              go_wp2_with fail
              go_roundw
              case rel => exact ⟨i + 1, false, rfl, by go_num, by omega, Lib.hid (by rw [HN.out, ← Bool.and_assoc, ← HI.out] <;> rfl), HB3, by first | exact Lib.hid rfl | exact Lib.hid trivial⟩
              case measure => simp [intOf]; omega
            | true =>
              by_cases h1 : 97 ≤ c.toNat
              · by_cases h2 : c.toNat ≤ 122
                · have g1 : (97 : Int) ≤ (c.toNat : Int) := by omega
                  have g2 : (c.toNat : Int) ≤ 122 := by omega
                  have HV : Hid (letterB c = true) := Lib.hid (by rw [HL.out, decide_eq_true (by omega : (97 ≤ c.toNat ∧ c.toNat ≤ 122))] <;> rfl)
                  go_wp2_with fail
                  go_roundw
                  case rel => exact ⟨i + 1, true, rfl, by go_num, by omega, Lib.hid (by rw [HN.out, ← Bool.and_assoc, ← HI.out, HV.out] <;> rfl), HB3, by first | exact Lib.hid rfl | exact Lib.hid trivial⟩
                  case measure => simp [intOf]; omega
                · have g1 : (97 : Int) ≤ (c.toNat : Int) := by omega
                  have g2 : ¬ (c.toNat : Int) ≤ 122 := by omega
                  have g3 : (65 : Int) ≤ (c.toNat : Int) := by omega
                  have g4 : ¬ (c.toNat : Int) ≤ 90 := by omega
                  have HV : Hid (letterB c = false) := Lib.hid (by rw [HL.out, decide_eq_false (by omega : ¬ (97 ≤ c.toNat ∧ c.toNat ≤ 122)), decide_eq_false (by omega : ¬ (65 ≤ c.toNat ∧ c.toNat ≤ 90))] <;> rfl)
                  go_wp2_with fail
                  go_roundw
                  case rel => exact ⟨i + 1, false, rfl, by go_num, by omega, Lib.hid (by rw [HN.out, ← Bool.and_assoc, ← HI.out, HV.out] <;> rfl), HB3, by first | exact Lib.hid rfl | exact Lib.hid trivial⟩
                  case measure => simp [intOf]; omega
              · by_cases h3 : 65 ≤ c.toNat
                · by_cases h4 : c.toNat ≤ 90
                  · have g1 : ¬ (97 : Int) ≤ (c.toNat : Int) := by omega
                    have g3 : (65 : Int) ≤ (c.toNat : Int) := by omega
                    have g4 : (c.toNat : Int) ≤ 90 := by omega
                    have HV : Hid (letterB c = true) := Lib.hid (by rw [HL.out, decide_eq_false (by omega : ¬ (97 ≤ c.toNat ∧ c.toNat ≤ 122)), decide_eq_true (by omega : (65 ≤ c.toNat ∧ c.toNat ≤ 90))] <;> rfl)
                    go_wp2_with fail
                    go_roundw
                    case rel => exact ⟨i + 1, true, rfl, by go_num, by omega, Lib.hid (by rw [HN.out, ← Bool.and_assoc, ← HI.out, HV.out] <;> rfl), HB3, by first | exact Lib.hid rfl | exact Lib.hid trivial⟩
                    case measure => simp [intOf]; omega
                  · have g1 : ¬ (97 : Int) ≤ (c.toNat : Int) := by omega
                    have g3 : (65 : Int) ≤ (c.toNat : Int) := by omega
                    have g4 : ¬ (c.toNat : Int) ≤ 90 := by omega
                    have HV : Hid (letterB c = false) := Lib.hid (by rw [HL.out, decide_eq_false (by omega : ¬ (97 ≤ c.toNat ∧ c.toNat ≤ 122)), decide_eq_false (by omega : ¬ (65 ≤ c.toNat ∧ c.toNat ≤ 90))] <;> rfl)
                    go_wp2_with fail
                    go_roundw
                    case rel => exact ⟨i + 1, false, rfl, by go_num, by omega, Lib.hid (by rw [HN.out, ← Bool.and_assoc, ← HI.out, HV.out] <;> rfl), HB3, by first | exact Lib.hid rfl | exact Lib.hid trivial⟩
                    case measure => simp [intOf]; omega
                · have g1 : ¬ (97 : Int) ≤ (c.toNat : Int) := by omega
                  have g3 : ¬ (65 : Int) ≤ (c.toNat : Int) := by omega
                  have HV : Hid (letterB c = false) := Lib.hid (by rw [HL.out, decide_eq_false (by omega : ¬ (97 ≤ c.toNat ∧ c.toNat ≤ 122)), decide_eq_false (by omega : ¬ (65 ≤ c.toNat ∧ c.toNat ≤ 90))] <;> rfl)
                  go_wp2_with fail
                  go_roundw
                  case rel => exact ⟨i + 1, false, rfl, by go_num, by omega, Lib.hid (by rw [HN.out, ← Bool.and_assoc, ← HI.out, HV.out] <;> rfl), HB3, by first | exact Lib.hid rfl | exact Lib.hid trivial⟩
                  case measure => simp [intOf]; omega
        · obtain rfl : i = s0.length := by omega
          have hf : f = fine s0 := by
            have h := HI.out
            rw [List.take_length] at h
            rw [h, HOK.out]
          have hr := HE.out (by have h := HNB.out; rw [List.take_length] at h; exact h)
          rw [← hf] at hr
          clear hf HI HNB HE HOK
          cases f with
          | false =>
            rw [show read t = (([], []), 2) from by rw [hr]; rfl] at HR
            clear hr
            simp only at HR
            go_wp2_with (first
                | (go_at_call 13; refine (HR.out _ (E.below (B1.out))).mono ?_; rintro e w2 ⟨rfl, b2⟩; have B2 := Lib.hid (B1.out.trans (b2.mono B1.out.size))))
            all_goals (go_ret; exact ⟨by first | rfl | (simp; done), (B2.out).alloc B2.out.size (.cells #[.string ⟨#[]⟩, .string ⟨#[]⟩] 23)⟩)
          | true =>
            cases hcl : clean s1 with
            | false =>
              rw [show read t = (([], []), 2) from by rw [hr, hcl]; rfl] at HR
              rw [hcl] at HC
              clear hr hcl
              simp only at HR
              go_wp2_with (first
                  | (go_at_call 13; refine (HR.out _ (E.below (B1.out))).mono ?_; rintro e w2 ⟨rfl, b2⟩; have B2 := Lib.hid (B1.out.trans (b2.mono B1.out.size)))
                  | (go_at_call 17; refine (HC.out _).mono ?_; rintro e w3 ⟨rfl, b3⟩; have B3 := Lib.hid (((B2.out).alloc B2.out.size (.cells #[.string ⟨#[]⟩, .string ⟨#[]⟩] 23)).trans (b3.mono (by have := B2.out.size; simp <;> omega))); have d3 := Lib.hid ((IsRow.made w2 23 #[.string ⟨#[]⟩, .string ⟨#[]⟩]).call b3); have dc0 : w3.cell? ⟨w2.heap.size, 0, none⟩ = some (.string ⟨#[]⟩) := d3.out.cell 0; have dc1 : w3.cell? ⟨w2.heap.size, 1, none⟩ = some (.string ⟨#[]⟩) := d3.out.cell 1; have dlt : w2.heap.size < w3.heap.size := d3.out.lt))
              all_goals (go_ret; exact ⟨by first | rfl | (simp; done), B3.out⟩)
            | true =>
              rw [hcl] at HC hr
              clear hcl
              generalize found s0 = F at HF hr
              obtain ⟨⟨vn, vk, va, vp⟩, is⟩ := F
              simp only at HF hr
              cases is with
              | false =>
                rw [show read t = (([], []), 3) from by rw [hr]; rfl] at HR
                clear hr
                simp only at HR
                go_wp2_with (first
                    | (go_at_call 13; refine (HR.out _ (E.below (B1.out))).mono ?_; rintro e w2 ⟨rfl, b2⟩; have B2 := Lib.hid (B1.out.trans (b2.mono B1.out.size)))
                    | (go_at_call 17; refine (HC.out _).mono ?_; rintro e w3 ⟨rfl, b3⟩; have B3 := Lib.hid (((B2.out).alloc B2.out.size (.cells #[.string ⟨#[]⟩, .string ⟨#[]⟩] 23)).trans (b3.mono (by have := B2.out.size; simp <;> omega))); have d3 := Lib.hid ((IsRow.made w2 23 #[.string ⟨#[]⟩, .string ⟨#[]⟩]).call b3))
                    | (go_at_call 20; refine (HF.out _).mono ?_; rintro e w4 ⟨rfl, b4⟩; have B4 := Lib.hid (B3.out.trans (b4.mono B3.out.size)); have d4 := Lib.hid (d3.out.call b4); clear d3))
                all_goals (go_ret; exact ⟨by first | rfl | (simp; done), (B4.out).alloc B4.out.size (.cells #[.string ⟨vn.toArray⟩, .int .i64 vk, .int .i64 va, .bool vp] 37)⟩)
              | true =>
                cases hm : may (upper s0) s1 with
                | true =>
                  rw [show read t = ((upper s0, s1), 0) from by rw [hr, hm]; rfl] at HR
                  clear hr hm
                  generalize upper s0 = u at HR
                  simp only at HR
                  go_wp2_with (first
                      | (go_at_call 13; refine (HR.out _ (E.below (B1.out))).mono ?_; rintro e w2 ⟨rfl, b2⟩; have B2 := Lib.hid (B1.out.trans (b2.mono B1.out.size)))
                      | (go_at_call 17; refine (HC.out _).mono ?_; rintro e w3 ⟨rfl, b3⟩; have B3 := Lib.hid (((B2.out).alloc B2.out.size (.cells #[.string ⟨u.toArray⟩, .string ⟨s1.toArray⟩] 23)).trans (b3.mono (by have := B2.out.size; simp <;> omega))); have d3 := Lib.hid ((IsRow.made w2 23 #[.string ⟨u.toArray⟩, .string ⟨s1.toArray⟩]).call b3))
                      | (go_at_call 20; refine (HF.out _).mono ?_; rintro e w4 ⟨rfl, b4⟩; have B4 := Lib.hid (B3.out.trans (b4.mono B3.out.size)); have d4 := Lib.hid (d3.out.call b4); clear d3))
                  all_goals (go_ret; exact ⟨by first | rfl | (simp; done), (B4.out).alloc B4.out.size (.cells #[.string ⟨vn.toArray⟩, .int .i64 vk, .int .i64 va, .bool vp] 37)⟩)
                | false =>
                  rw [show read t = (([], []), 1) from by rw [hr, hm]; rfl] at HR
                  clear hr hm
                  simp only at HR
                  go_wp2_with (first
                      | (go_at_call 13; refine (HR.out _ (E.below (B1.out))).mono ?_; rintro e w2 ⟨rfl, b2⟩; have B2 := Lib.hid (B1.out.trans (b2.mono B1.out.size)))
                      | (go_at_call 17; refine (HC.out _).mono ?_; rintro e w3 ⟨rfl, b3⟩; have B3 := Lib.hid (((B2.out).alloc B2.out.size (.cells #[.string ⟨#[]⟩, .string ⟨#[]⟩] 23)).trans (b3.mono (by have := B2.out.size; simp <;> omega))); have d3 := Lib.hid ((IsRow.made w2 23 #[.string ⟨#[]⟩, .string ⟨#[]⟩]).call b3))
                      | (go_at_call 20; refine (HF.out _).mono ?_; rintro e w4 ⟨rfl, b4⟩; have B4 := Lib.hid (B3.out.trans (b4.mono B3.out.size)); have d4 := Lib.hid (d3.out.call b4); clear d3))
                  all_goals (go_ret; exact ⟨by first | rfl | (simp; done), (B4.out).alloc B4.out.size (.cells #[.string ⟨vn.toArray⟩, .int .i64 vk, .int .i64 va, .bool vp] 37)⟩)

set_option maxRecDepth 100000 in
theorem lifted (os : Os) (started : os.Started) (H : Type) (enc : TypeId × Value → H) :
    ReturnsInHanded {} Tryd.checked os 7 .any (fun w args => (Rows.cmdFormsSpec.pre enc Tryd.prog Tryd.f7 [] false w args ∧ laidMetH Tryd.prog laidHere w) ∧ sizedMet enc Tryd.prog Tryd.f7 (OpenSpec.ofChange Rows.cmdFormsSpec) false w args)
      (Rows.cmdFormsSpec.post enc Tryd.prog Tryd.f7 false true false false) := by
  refine handed started (by kernel_rfl) Tryd.func7 #[.string ⟨#[]⟩, .string ⟨#[]⟩] (by kernel_rfl) (by kernel_rfl) (by kernel_rfl) (World.shaped_of_ZipB (by kernel_rfl) (by kernel_rfl)) ?_
  intro W base args ds gs before hval0 hW E
  have hval : ∀ (j : Nat) t v, Tryd.f7.params[j]? = some t → args[j]? = some v → Value.okWide Tryd.prog W .any base t v := hval0
  have hW' := hW
  obtain ⟨p, q, hA0, hV, rfl, _, _⟩ := hW
  have hA : DataW.TrodAll enc Tryd.prog W 0 (fun _ => true) true Tryd.f7.params.toList args.toList ds p := hA0
  rw [Tryd.params7] at hA hval
  obtain ⟨v0, vs0, d0, ds0, p0, q0, hargs, rfl, rfl, r0, t0⟩ := trodAll_cons hA
  obtain ⟨v1, vs1, d1, ds1, p1, q1, rfl, rfl, rfl, r1, t1⟩ := trodAll_cons t0
  obtain ⟨rfl, rfl, rfl⟩ := trodAll_nil t1
  obtain rfl : args = #[v0, v1] := by cases args; simp_all
  obtain ⟨rfl, rfl⟩ := trodVars_none hV
  obtain ⟨x0, rfl, rfl, rfl, w0⟩ := open_string Tryd.underlying9 (hval 0 9 v0 rfl rfl) r0
  obtain ⟨s0, rfl⟩ : ∃ l : List UInt8, x0 = ⟨l.toArray⟩ := ⟨x0.data.toList, by simp⟩
  obtain ⟨x1, rfl, rfl, rfl, w1⟩ := open_string Tryd.underlying9 (hval 1 9 v1 rfl rfl) r1
  obtain ⟨s1, rfl⟩ : ∃ l : List UInt8, x1 = ⟨l.toArray⟩ := ⟨x1.data.toList, by simp⟩
  clear hA0 hval0
  simp only [List.append_nil] at hW'
  refine (walk s0 (by have := w0; rw [size_mk] at this; unfold maxLen at this; exact this) s1 (by have := w1; rw [size_mk] at this; unfold maxLen at this; exact this) W  E).mono fun e W' ⟨he, hb⟩ => ?_
  subst he
  exact ⟨_, rfl, told hW' (fun _ _ _ => trodAll_cons_mk (shut_bool Tryd.underlying4 _) trodAll_mk0) (trodAll_cons_mk (shut_string Tryd.underlying9 w0) (trodAll_cons_mk (shut_string Tryd.underlying9 w1) trodAll_mk0)) (fun _ => rfl) hb⟩

theorem over : Rows.CmdFormsSaid :=
  OpenClaim.holds_of_wide 7 Tryd.f7 rfl rfl rfl rfl rfl rfl rfl ⟨rfl, rfl, rfl, rfl, rfl⟩ rfl rfl rfl rfl rfl (by kernel_rfl) Tryd.func7 (by kernel_rfl)
    (of_decide_eq_true (by kernel_rfl)) (by unfold Func.isWrapper; first | (rw [if_pos (by decide +kernel)]; kernel_rfl) | (rw [if_neg (by decide +kernel)]; exact ⟨rfl, rfl⟩))
    (fun os started H enc _ => lifted os started H enc)

theorem proved : Rows.CmdFormsCardSaid :=
  Claim7.holds_tied_plain_at .later [] Rows.cmdFormsCard.laidKinds true Rows.cmdFormsCard.stood.harness Rows.cmdFormsCard.stood.looks
    over (fun _ h => by cases h) (by kernel_rfl) (fun _ h => by cases h) cmdForms_row_tie rfl ⟨rfl, rfl⟩ (by kernel_rfl) rfl
    (fun f fn hf hfn => by
      obtain rfl : f = 7 := Option.some.inj ((show Tryd.prog.funcNamed "wharfinger/wharfingerlaw08.CmdForms" = some 7 by kernel_rfl).symm.trans hf) |>.symm
      obtain rfl : fn = Tryd.f7 := (Option.some.inj (Tryd.func7.symm.trans hfn)).symm
      exact ⟨by kernel_rfl, fun j t ht => by
        rw [Tryd.params7] at ht
        have hm : t ∈ [9, 9] := by simpa using Array.mem_of_getElem? ht
        have hall : ([9, 9].all fun u => !Tryd.prog.wantsStandIn u) = true := by kernel_rfl
        exact (show Tryd.prog.wantsStandIn t = false by simpa using List.all_eq_true.1 hall t hm)⟩)
    (by kernel_rfl)
#print axioms proved
end Go.Proofs.YtginmhmeepjbhaaDoor.cmdForms
