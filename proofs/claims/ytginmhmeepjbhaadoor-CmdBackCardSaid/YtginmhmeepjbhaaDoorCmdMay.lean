/- The contracts of package cmd, second half: May, Print, isLetter, isName. -/
import Derived.Test.YtginmhmeepjbhaaDoorCmdOwn
namespace Go.Proofs.YtginmhmeepjbhaaDoor.Cm
open Go.Proofs.YtginmhmeepjbhaaDoor Go.Proofs.YtginmhmeepjbhaaDoor.Vb
open Go.ChangeShapes Go.WideShapes Go.ChangeAt Go.RowKit
set_option maxRecDepth 100000
set_option linter.unusedSimpArgs false

theorem may_own (v a : List UInt8) (x : Vb) (is : Bool) (h : found v = (x, is)) : may v a = (is && (x.name == v) && clean a && takesB x.arg a) := by
  rw [may_eq v a x is h]
  unfold takesB
  cases is <;> cases (x.name == v) <;> cases clean a <;> simp

set_option maxHeartbeats 4000000 in
theorem may_any (v a : List UInt8) (hv : v.length ≤ 100000) (ha : a.length ≤ 100000) (w : World) : Calls Tryd.prog 16 #[cmdV v a] w fun e w' => e = .returned (.bool (may v a)) ∧ Below w.heap.size w w' := by
  obtain ⟨x, is, hx⟩ : ∃ x is, found v = (x, is) := ⟨_, _, rfl⟩
  have HM := Lib.hid (may_own v a x is hx)
  have HF : Hid (∀ W, Calls Tryd.prog 20 #[.string ⟨v.toArray⟩] W fun e w' => e = .returned (.tuple #[verbV x, .bool is]) ∧ Below W.heap.size W w') := Lib.hid (fun W => by
    have h := find_any v hv W
    rw [hx] at h
    exact h)
  have HC := Lib.hid (fun W => clean_same a ha W)
  have HT := Lib.hid (fun W => takes_any x a W)
  clear hx
  generalize clean a = cl at HM HC
  obtain ⟨vn, vk, va, vp⟩ := x
  simp only at HM HT
  generalize takesB va a = tk at HM HT
  have R0 : IsRow (w.alloc (.cells #[.string ⟨v.toArray⟩, .string ⟨a.toArray⟩] 23)) w.heap.size 23 #[.string ⟨v.toArray⟩, .string ⟨a.toArray⟩] := IsRow.made w _ _
  have b0 : Below w.heap.size w (w.alloc (.cells #[.string ⟨v.toArray⟩, .string ⟨a.toArray⟩] 23)) := (Below.refl _ w).alloc (Nat.le_refl _) _
  cases is with
  | false =>
    go_enter Tryd.func16, Tryd.ntmps16
    go_wp2_with (first
      | (go_at_call 20; refine (HF.out _).mono ?_; rintro e w1 ⟨rfl, b1⟩; have R1 := R0.call b1; have c0 := R1.cell 0; have c1 := R1.cell 1; have hlt := R1.lt; have B1 := Lib.hid (b0.trans (b1.mono b0.size))))
    go_ret
    exact ⟨by rw [HM.out] <;> rfl, B1.out.alloc B1.out.size (.cells #[.string ⟨vn.toArray⟩, .int .i64 vk, .int .i64 va, .bool vp] 37)⟩
  | true =>
    cases hn : (vn == v) with
    | false =>
      rw [hn] at HM
      go_enter Tryd.func16, Tryd.ntmps16
      go_wp2_with (first
        | (go_at_call 20; refine (HF.out _).mono ?_; rintro e w1 ⟨rfl, b1⟩; have R1 := R0.call b1; have c0 := R1.cell 0; have c1 := R1.cell 1; have hlt := R1.lt; have B1 := Lib.hid (b0.trans (b1.mono b0.size))))
      go_ret
      exact ⟨by rw [HM.out] <;> rfl, B1.out.alloc B1.out.size (.cells #[.string ⟨vn.toArray⟩, .int .i64 vk, .int .i64 va, .bool vp] 37)⟩
    | true =>
      rw [hn] at HM
      cases cl with
      | false =>
        go_enter Tryd.func16, Tryd.ntmps16
        go_wp2_with (first
          | (go_at_call 20; refine (HF.out _).mono ?_; rintro e w1 ⟨rfl, b1⟩; have R1 := R0.call b1; have c0 := R1.cell 0; have c1 := R1.cell 1; have hlt := R1.lt; have B1 := Lib.hid (b0.trans (b1.mono b0.size)))
          | (go_at_call 17; refine (HC.out _).mono ?_; rintro e w2 ⟨rfl, rfl⟩))
        go_ret
        exact ⟨by rw [HM.out] <;> rfl, B1.out.alloc B1.out.size (.cells #[.string ⟨vn.toArray⟩, .int .i64 vk, .int .i64 va, .bool vp] 37)⟩
      | true =>
        go_enter Tryd.func16, Tryd.ntmps16
        go_wp2_with (first
          | (go_at_call 20; refine (HF.out _).mono ?_; rintro e w1 ⟨rfl, b1⟩; have R1 := R0.call b1; have c0 := R1.cell 0; have c1 := R1.cell 1; have hlt := R1.lt; have B1 := Lib.hid (b0.trans (b1.mono b0.size)))
          | (go_at_call 17; refine (HC.out _).mono ?_; rintro e w2 ⟨rfl, rfl⟩)
          | (go_at_call 25; refine (HT.out _).mono ?_; rintro e w3 ⟨rfl, b3⟩; have B3 := Lib.hid ((B1.out.alloc B1.out.size (.cells #[.string ⟨vn.toArray⟩, .int .i64 vk, .int .i64 va, .bool vp] 37)).trans (b3.mono (by have := B1.out.size; simp; omega)))))
        go_ret
        exact ⟨by rw [HM.out] <;> rfl, B3.out⟩

set_option maxHeartbeats 4000000 in
theorem print_any (v a : List UInt8) (hv : v.length ≤ 100000) (ha : a.length ≤ 100000) (w : World) : Calls Tryd.prog 11 #[cmdV v a] w fun e w' => e = .returned (.tuple #[.string ⟨(print v a).1.toArray⟩, .bool (print v a).2]) ∧ Below w.heap.size w w' := by
  have HM := Lib.hid (fun W => may_any v a hv ha W)
  have HP : Hid (print v a = if may v a then (line v a, true) else ([], false)) := Lib.hid rfl
  have HL : Hid (line v a = if a = [] then v else v ++ 32 :: a) := Lib.hid rfl
  have R0 : IsRow (w.alloc (.cells #[.string ⟨v.toArray⟩, .string ⟨a.toArray⟩] 23)) w.heap.size 23 #[.string ⟨v.toArray⟩, .string ⟨a.toArray⟩] := IsRow.made w _ _
  have b0 : Below w.heap.size w (w.alloc (.cells #[.string ⟨v.toArray⟩, .string ⟨a.toArray⟩] 23)) := (Below.refl _ w).alloc (Nat.le_refl _) _
  generalize may v a = m at HM HP
  cases m with
  | false =>
    go_enter Tryd.func11, Tryd.ntmps11
    go_wp2_with (go_at_call 16; refine (HM.out _).mono ?_; rintro e w1 ⟨rfl, b1⟩; have R1 := R0.call b1; have c0 := R1.cell 0; have c1 := R1.cell 1; have hlt := R1.lt; have B1 := Lib.hid (b0.trans (b1.mono b0.size)))
    go_ret2
    exact ⟨by rw [HP.out] <;> rfl, B1.out⟩
  | true =>
    cases he : (a == []) with
    | true =>
      have hl : line v a = v := by rw [HL.out, if_pos (beq_iff_eq.1 he)]
      rw [hl] at HP
      clear hl HL
      go_enter Tryd.func11, Tryd.ntmps11
      go_wp2_with (go_at_call 16; refine (HM.out _).mono ?_; rintro e w1 ⟨rfl, b1⟩; have R1 := R0.call b1; have c0 := R1.cell 0; have c1 := R1.cell 1; have hlt := R1.lt; have B1 := Lib.hid (b0.trans (b1.mono b0.size)))
      go_ret2
      exact ⟨by rw [HP.out] <;> rfl, B1.out⟩
    | false =>
      have hl : line v a = v ++ 32 :: a := by rw [HL.out, if_neg (beq_eq_false_iff_ne.1 he)]
      rw [hl] at HP
      obtain ⟨q, hq⟩ : ∃ q, q = v ++ [32] := ⟨_, rfl⟩
      obtain ⟨t, ht⟩ : ∃ t, t = v ++ 32 :: a := ⟨_, rfl⟩
      have hx1 : ByteArray.mk v.toArray ++ ByteArray.mk #[32] = ⟨q.toArray⟩ := by rw [hq]; apply ByteArray.ext; simp [ByteArray.data_append]
      have hx2 : ByteArray.mk q.toArray ++ ByteArray.mk a.toArray = ⟨t.toArray⟩ := by rw [hq, ht]; apply ByteArray.ext; simp [ByteArray.data_append]
      have n0 : ¬ 9223372036854775807 < v.length + 1 := by omega
      have n1 : ¬ 9223372036854775807 < q.length + a.length := by rw [hq, List.length_append]; simp <;> omega
      rw [← ht] at HP
      clear hq ht hl HL hv ha
      go_enter Tryd.func11, Tryd.ntmps11
      go_wp2_with (go_at_call 16; refine (HM.out _).mono ?_; rintro e w1 ⟨rfl, b1⟩; have R1 := R0.call b1; have c0 := R1.cell 0; have c1 := R1.cell 1; have hlt := R1.lt; have B1 := Lib.hid (b0.trans (b1.mono b0.size)))
      go_ret2
      exact ⟨by rw [HP.out] <;> rfl, B1.out⟩

set_option maxHeartbeats 4000000 in
theorem letter_any (c : UInt8) (w : World) : Calls Tryd.prog 41 #[.int .u8 (c.toNat : Int)] w fun e w' => e = .returned (.bool (letterB c)) ∧ w' = w := by
  have HL := Lib.hid (letter_eq c)
  by_cases h1 : 65 ≤ c.toNat
  · by_cases h2 : c.toNat ≤ 90
    · have g0 : (65 : Int) ≤ (c.toNat : Int) := by omega
      have g1 : (c.toNat : Int) ≤ 90 := by omega
      go_enter Tryd.func41, Tryd.ntmps41
      go_wp2_with fail
      go_ret
      exact ⟨by rw [HL.out, decide_eq_false (by omega : ¬ (97 ≤ c.toNat ∧ c.toNat ≤ 122)), decide_eq_true (by omega : (65 ≤ c.toNat ∧ c.toNat ≤ 90))] <;> rfl, by first | rfl | trivial⟩
    · by_cases h3 : 97 ≤ c.toNat
      · by_cases h4 : c.toNat ≤ 122
        · have g0 : (65 : Int) ≤ (c.toNat : Int) := by omega
          have g1 : ¬ (c.toNat : Int) ≤ 90 := by omega
          have g2 : (97 : Int) ≤ (c.toNat : Int) := by omega
          have g3 : (c.toNat : Int) ≤ 122 := by omega
          go_enter Tryd.func41, Tryd.ntmps41
          go_wp2_with fail
          go_ret
          exact ⟨by rw [HL.out, decide_eq_true (by omega : (97 ≤ c.toNat ∧ c.toNat ≤ 122))] <;> rfl, by first | rfl | trivial⟩
        · have g0 : (65 : Int) ≤ (c.toNat : Int) := by omega
          have g1 : ¬ (c.toNat : Int) ≤ 90 := by omega
          have g2 : (97 : Int) ≤ (c.toNat : Int) := by omega
          have g3 : ¬ (c.toNat : Int) ≤ 122 := by omega
          go_enter Tryd.func41, Tryd.ntmps41
          go_wp2_with fail
          go_ret
          exact ⟨by rw [HL.out, decide_eq_false (by omega : ¬ (97 ≤ c.toNat ∧ c.toNat ≤ 122)), decide_eq_false (by omega : ¬ (65 ≤ c.toNat ∧ c.toNat ≤ 90))] <;> rfl, by first | rfl | trivial⟩
      · have g0 : (65 : Int) ≤ (c.toNat : Int) := by omega
        have g1 : ¬ (c.toNat : Int) ≤ 90 := by omega
        have g2 : ¬ (97 : Int) ≤ (c.toNat : Int) := by omega
        go_enter Tryd.func41, Tryd.ntmps41
        go_wp2_with fail
        go_ret
        exact ⟨by rw [HL.out, decide_eq_false (by omega : ¬ (97 ≤ c.toNat ∧ c.toNat ≤ 122)), decide_eq_false (by omega : ¬ (65 ≤ c.toNat ∧ c.toNat ≤ 90))] <;> rfl, by first | rfl | trivial⟩
  · have g0 : ¬ (65 : Int) ≤ (c.toNat : Int) := by omega
    have g1 : ¬ (97 : Int) ≤ (c.toNat : Int) := by omega
    go_enter Tryd.func41, Tryd.ntmps41
    go_wp2_with fail
    go_ret
    exact ⟨by rw [HL.out, decide_eq_false (by omega : ¬ (97 ≤ c.toNat ∧ c.toNat ≤ 122)), decide_eq_false (by omega : ¬ (65 ≤ c.toNat ∧ c.toNat ≤ 90))] <;> rfl, by first | rfl | trivial⟩

theorem fine_no {s : List UInt8} {k : Nat} (hk : k < s.length) (h : letterB s[k] = false) : fine s = false := by
  have hu : k < (upper s).length := by rw [upper_length]; exact hk
  have e : (upper s)[k] = upB s[k] := by simp [upper]
  have := letters_no hu (by rw [e]; exact of_decide_eq_false h)
  unfold fine
  rw [this, Bool.and_false]

set_option maxHeartbeats 4000000 in
theorem name_any (s : List UInt8) (hl : s.length ≤ 100000) (w : World) : Calls Tryd.prog 32 #[.string ⟨s.toArray⟩] w fun e w' => e = .returned (.bool (fine s)) ∧ w' = w := by
  have HF : Hid (fine s = (decide (s.length = 3 ∨ s.length = 4) && letters (upper s))) := Lib.hid rfl
  by_cases h3 : s.length < 3
  · have g : (s.length : Int) < 3 := by omega
    have HV : Hid (fine s = false) := Lib.hid (by rw [HF.out, decide_eq_false (by omega)]; rfl)
    clear HF
    go_enter Tryd.func32, Tryd.ntmps32
    go_wp2_with fail
    go_ret
    exact ⟨by rw [HV.out] <;> rfl, by first | rfl | trivial⟩
  · have g : ¬ (s.length : Int) < 3 := by omega
    by_cases h4 : 4 < s.length
    · have g4 : (4 : Int) < (s.length : Int) := by omega
      have HV : Hid (fine s = false) := Lib.hid (by rw [HF.out, decide_eq_false (by omega)]; rfl)
      clear HF
      go_enter Tryd.func32, Tryd.ntmps32
      go_wp2_with fail
      go_ret
      exact ⟨by rw [HV.out] <;> rfl, by first | rfl | trivial⟩
    · have g4 : ¬ (4 : Int) < (s.length : Int) := by omega
      have HK : Hid (fine s = letters (upper s)) := Lib.hid (by rw [HF.out, decide_eq_true (by omega), Bool.true_and])
      clear HF h3 h4
      go_enter Tryd.func32, Tryd.ntmps32
      go_wp2_with fail
      go_loopw [14] (fun x14 wr => ∃ (k : Nat), x14 = .int .i64 (k : Int) ∧ k ≤ s.length ∧ Hid (letters (upper (s.take k)) = true) ∧ Hid (wr = w)) (fun i _ => s.length - (intOf i).toNat)
      case atStart => exact ⟨0, rfl, Nat.zero_le _, Lib.hid (by simp [letters, upper]), by first | exact Lib.hid rfl | exact Lib.hid trivial⟩
      case round =>
        obtain ⟨k, rfl, hk, HC, HW⟩ := hrel
        obtain rfl := HW.out
        by_cases hlt : k < s.length
        · have hsz : k < (ByteArray.mk s.toArray).size := by simpa [ByteArray.size] using hlt
          have hji : (k : Int) < (s.length : Int) := by omega
          obtain ⟨c, hc⟩ : ∃ c : UInt8, (ByteArray.mk s.toArray)[k]'hsz = c := ⟨_, rfl⟩
          have hc' : s[k] = c := hc
          have HN : Hid (letters (upper (s.take (k + 1))) = letterB c) := Lib.hid (by rw [letters_up hlt, HC.out, hc']; rfl)
          have HX : Hid (letterB c = false → fine s = false) := Lib.hid (fun h => fine_no hlt (by rw [hc']; exact h))
          have HI := Lib.hid (fun W => letter_any c W)
          clear hc'
          cases hb : letterB c with
          | false =>
            rw [hb] at HI
            have HV := Lib.hid (HX.out hb)
            clear HN HX hb
            go_wp2_with (go_at_call 41; refine (HI.out _).mono ?_; rintro e w2 ⟨rfl, rfl⟩)
            go_ret
            exact ⟨by rw [HV.out] <;> rfl, by first | rfl | trivial⟩
          | true =>
            rw [hb] at HI HN
            clear HX hb
            go_wp2_with (go_at_call 41; refine (HI.out _).mono ?_; rintro e w2 ⟨rfl, rfl⟩)
            go_roundw
            case rel => exact ⟨k + 1, by go_num, by omega, HN, by first | exact Lib.hid rfl | exact Lib.hid trivial⟩
            case measure => simp [intOf]; omega
        · have hk2 : k = s.length := by omega
          have hji : ¬ (k : Int) < (s.length : Int) := by omega
          have HV : Hid (fine s = true) := Lib.hid (by have := HC.out; rw [hk2, List.take_length] at this; rw [HK.out]; exact this)
          go_wp2_with fail
          go_ret
          exact ⟨by rw [HV.out] <;> rfl, by first | rfl | trivial⟩

#print axioms may_any
#print axioms print_any
#print axioms name_any
end Go.Proofs.YtginmhmeepjbhaaDoor.Cm
