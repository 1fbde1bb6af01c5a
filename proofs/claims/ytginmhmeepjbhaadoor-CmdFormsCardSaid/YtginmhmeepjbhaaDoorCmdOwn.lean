/- The contracts of package cmd, first half: Clean, takes, May, Print, isLetter, isName. -/
import Derived.Test.YtginmhmeepjbhaaDoorCmdArg
import Derived.Test.YtginmhmeepjbhaaDoorCmdPlain
import Derived.Test.YtginmhmeepjbhaaDoorCmdRef
import Derived.Test.YtginmhmeepjbhaaDoorVerbCode
import Derived.LoopTactic
import Derived.WalkMore
namespace Go.Proofs.YtginmhmeepjbhaaDoor.Cm
open Go.Proofs.YtginmhmeepjbhaaDoor Go.Proofs.YtginmhmeepjbhaaDoor.Vb
open Go.ChangeShapes Go.WideShapes Go.ChangeAt Go.RowKit
set_option maxRecDepth 100000
set_option linter.unusedSimpArgs false

set_option maxHeartbeats 4000000 in
theorem clean_same (s : List UInt8) (hl : s.length ≤ 100000) (w : World) : Calls Tryd.prog 17 #[.string ⟨s.toArray⟩] w fun e w' => e = .returned (.bool (clean s)) ∧ w' = w := by
  go_enter Tryd.func17, Tryd.ntmps17
  go_wp2_with fail
  go_loopw [6] (fun x6 wr => ∃ (k : Nat), x6 = .int .i64 (k : Int) ∧ k ≤ s.length ∧ Hid (clean (s.take k) = true) ∧ Hid (wr = w)) (fun i _ => s.length - (intOf i).toNat)
  case atStart => exact ⟨0, rfl, Nat.zero_le _, Lib.hid (by simp [clean]), by first | exact Lib.hid rfl | exact Lib.hid trivial⟩
  case round =>
    obtain ⟨k, rfl, hk, HC, HW⟩ := hrel
    obtain rfl := HW.out
    by_cases hlt : k < s.length
    · have hsz : k < (ByteArray.mk s.toArray).size := by simpa [ByteArray.size] using hlt
      have hji : (k : Int) < (s.length : Int) := by omega
      obtain ⟨c, hc⟩ : ∃ c : UInt8, (ByteArray.mk s.toArray)[k]'hsz = c := ⟨_, rfl⟩
      have hc' : s[k] = c := hc
      have HN : Hid (clean (s.take (k + 1)) = cleanB c) := Lib.hid (by rw [clean_next hlt, HC.out, hc']; rfl)
      have HX : Hid (cleanB c = false → clean s = false) := Lib.hid (fun h => clean_no hlt (by rw [hc']; exact h))
      clear hc'
      by_cases h1 : (c.toNat : Int) < 32
      · have HV := Lib.hid (HX.out (decide_eq_false (by omega)))
        clear HN HX
        go_wp2_with fail
        go_ret
        exact ⟨by rw [HV.out] <;> rfl, by first | rfl | trivial⟩
      · by_cases h2 : 126 < (c.toNat : Int)
        · have HV := Lib.hid (HX.out (decide_eq_false (by omega)))
          clear HN HX
          go_wp2_with fail
          go_ret
          exact ⟨by rw [HV.out] <;> rfl, by first | rfl | trivial⟩
        · have HV := Lib.hid (HN.out.trans (decide_eq_true (by omega)))
          clear HN HX
          go_wp2_with fail
          go_roundw
          case rel => exact ⟨k + 1, by go_num, by omega, HV.out, by first | exact Lib.hid rfl | exact Lib.hid trivial⟩
          case measure => simp [intOf]; omega
    · have hk2 : k = s.length := by omega
      have hji : ¬ (k : Int) < (s.length : Int) := by omega
      have HV : Hid (clean s = true) := Lib.hid (by have := HC.out; rw [hk2, List.take_length] at this; exact this)
      go_wp2_with fail
      go_ret
      exact ⟨by rw [HV.out] <;> rfl, by first | rfl | trivial⟩
theorem clean_any (s : List UInt8) (hl : s.length ≤ 100000) (w : World) : Calls Tryd.prog 17 #[.string ⟨s.toArray⟩] w fun e w' => e = .returned (.bool (clean s)) ∧ Below w.heap.size w w' :=
  (clean_same s hl w).mono fun _ _ h => ⟨h.1, h.2 ▸ Below.refl _ _⟩

/-! whether a verb may have such an argument -/
def takesB (n : Int) (a : List UInt8) : Bool := !((n == 0) && (a != [])) && !((n == 2) && (a == []))
set_option maxHeartbeats 4000000 in
theorem takes_any (x : Vb) (a : List UInt8) (w : World) : Calls Tryd.prog 25 #[verbV x, .string ⟨a.toArray⟩] w fun e w' => e = .returned (.bool (takesB x.arg a)) ∧ Below w.heap.size w w' := by
  obtain ⟨vn, vk, va, vp⟩ := x
  have HT : Hid (takesB va a = (!((va == 0) && (a != [])) && !((va == 2) && (a == [])))) := Lib.hid rfl
  have B := Lib.hid ((Below.refl _ w).alloc (Nat.le_refl _) (.cells #[.string ⟨vn.toArray⟩, .int .i64 vk, .int .i64 va, .bool vp] 37))
  cases he : (a == []) with
  | true =>
    have he' : (a != []) = false := by rw [bne, he]; rfl
    rw [he, he'] at HT
    cases h0 : (va == 0) with
    | true =>
      have h2 : (va == 2) = false := by have := beq_iff_eq.1 h0; exact beq_eq_false_iff_ne.2 (by omega)
      rw [h0, h2] at HT
      go_enter Tryd.func25, Tryd.ntmps25
      go_wp2_with fail
      go_ret
      exact ⟨by rw [HT.out] <;> rfl, B.out⟩
    | false =>
      cases h2 : (va == 2) with
      | true =>
        rw [h0, h2] at HT
        go_enter Tryd.func25, Tryd.ntmps25
        go_wp2_with fail
        go_ret
        exact ⟨by rw [HT.out] <;> rfl, B.out⟩
      | false =>
        rw [h0, h2] at HT
        go_enter Tryd.func25, Tryd.ntmps25
        go_wp2_with fail
        go_ret
        exact ⟨by rw [HT.out] <;> rfl, B.out⟩
  | false =>
    have he' : (a != []) = true := by rw [bne, he]; rfl
    rw [he, he'] at HT
    cases h0 : (va == 0) with
    | true =>
      have h2 : (va == 2) = false := by have := beq_iff_eq.1 h0; exact beq_eq_false_iff_ne.2 (by omega)
      rw [h0, h2] at HT
      go_enter Tryd.func25, Tryd.ntmps25
      go_wp2_with fail
      go_ret
      exact ⟨by rw [HT.out] <;> rfl, B.out⟩
    | false =>
      cases h2 : (va == 2) with
      | true =>
        rw [h0, h2] at HT
        go_enter Tryd.func25, Tryd.ntmps25
        go_wp2_with fail
        go_ret
        exact ⟨by rw [HT.out] <;> rfl, B.out⟩
      | false =>
        rw [h0, h2] at HT
        go_enter Tryd.func25, Tryd.ntmps25
        go_wp2_with fail
        go_ret
        exact ⟨by rw [HT.out] <;> rfl, B.out⟩

#print axioms clean_any
#print axioms takes_any
end Go.Proofs.YtginmhmeepjbhaaDoor.Cm
