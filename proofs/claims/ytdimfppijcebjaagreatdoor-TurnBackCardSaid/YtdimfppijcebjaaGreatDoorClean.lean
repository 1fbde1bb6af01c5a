/- The contracts of cmd.Clean, and of the document's answer to it, for seats that hold no more of package cmd. -/
import Derived.Test.YtdimfppijcebjaaGreatDoorPlains
import Derived.Test.YtdimfppijcebjaaGreatDoorBytes
import Derived.WalkKit
import Derived.Lib.Hide
import Derived.Below
import Derived.LoopTactic
import Derived.WalkMore
namespace Go.Proofs.YtdimfppijcebjaaGreatDoor.Cm
open Go.Proofs.YtdimfppijcebjaaGreatDoor Go.Proofs.YtdimfppijcebjaaGreatDoor.Vb
open Go Go.ChangeShapes Go.WideShapes Go.ChangeAt Go.RowKit
set_option maxRecDepth 100000
set_option linter.unusedSimpArgs false

theorem lclean_next {s : List UInt8} {k : Nat} (hk : k < s.length) : clean (s.take (k + 1)) = (clean (s.take k) && cleanB s[k]) := by
  rw [List.take_succ_eq_append_getElem hk, clean_append]
  simp [clean]
theorem lclean_no {s : List UInt8} {k : Nat} (hk : k < s.length) (h : cleanB s[k] = false) : clean s = false := by
  cases hc : clean s with
  | false => rfl
  | true =>
    have := List.all_eq_true.1 hc s[k] (List.getElem_mem hk)
    rw [h] at this
    cases this


set_option maxHeartbeats 4000000 in
theorem lclean_same (s : List UInt8) (hl : s.length ≤ 9223372036854775807) (w : World) : Calls Tryz.prog 37 #[.string ⟨s.toArray⟩] w fun e w' => e = .returned (.bool (clean s)) ∧ w' = w := by
  go_enter Tryz.func37, Tryz.ntmps37
  go_wp2_with fail
  go_loopw [6] (fun x6 wr => ∃ (k : Nat), x6 = .int .i64 (k : Int) ∧ k ≤ s.length ∧ Hid (clean (s.take k) = true) ∧ Hid (wr = w)) (fun i _ => s.length - (intOf i).toNat)
  case atStart => exact ⟨0, rfl, Nat.zero_le _, Lib.hid (by simp [clean]), by first | exact Lib.hid rfl | exact Lib.hid trivial⟩
  case round =>
    obtain ⟨k, rfl, hk, HC, HW⟩ := hrel
    obtain rfl := HW.out
    by_cases hlt : k < s.length
    · have hsz : k < (ByteArray.mk s.toArray).size := by simpa [ByteArray.size] using hlt
      have hji : (k : Int) < (s.length : Int) := by omega
      obtain ⟨c, hc⟩ : ∃ c : UInt8, (ByteArray.mk s.toArray)[k]'hsz = c := ⟨_, rfl⟩
      have hc' : s[k] = c := hc
      have HN : Hid (clean (s.take (k + 1)) = cleanB c) := Lib.hid (by rw [lclean_next hlt, HC.out, hc']; rfl)
      have HX : Hid (cleanB c = false → clean s = false) := Lib.hid (fun h => lclean_no hlt (by rw [hc']; exact h))
      clear hc'
      by_cases h1 : (c.toNat : Int) < 32
      · have HV := Lib.hid (HX.out (decide_eq_false (by omega)))
        clear HN HX
        go_wp2_with fail
        go_ret
        exact ⟨by rw [HV.out] <;> rfl, by first | rfl | trivial⟩
      · by_cases h2 : 126 < (c.toNat : Int)
        · have HV := Lib.hid (HX.out (decide_eq_false (by omega)))
          clear HN HX
          go_wp2_with fail
          go_ret
          exact ⟨by rw [HV.out] <;> rfl, by first | rfl | trivial⟩
        · have HV := Lib.hid (HN.out.trans (decide_eq_true (by omega)))
          clear HN HX
          go_wp2_with fail
          go_roundw
          case rel => exact ⟨k + 1, by go_num, by omega, HV.out, by first | exact Lib.hid rfl | exact Lib.hid trivial⟩
          case measure => simp [intOf]; omega
    · have hk2 : k = s.length := by omega
      have hji : ¬ (k : Int) < (s.length : Int) := by omega
      have HV : Hid (clean s = true) := Lib.hid (by have := HC.out; rw [hk2, List.take_length] at this; exact this)
      go_wp2_with fail
      go_ret
      exact ⟨by rw [HV.out] <;> rfl, by first | rfl | trivial⟩
theorem lclean_any (s : List UInt8) (hl : s.length ≤ 9223372036854775807) (w : World) : Calls Tryz.prog 37 #[.string ⟨s.toArray⟩] w fun e w' => e = .returned (.bool (clean s)) ∧ Below w.heap.size w w' :=
  (lclean_same s hl w).mono fun _ _ h => ⟨h.1, h.2 ▸ Below.refl _ _⟩


#print axioms lclean_any
end Go.Proofs.YtdimfppijcebjaaGreatDoor.Cm
