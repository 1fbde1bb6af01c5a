/- The contracts of the document's answer of layer 12: wharfingerref12's Name, User, Split, Find (gen-route-ref.py). -/
import Derived.Test.YtmodmfkcigibpaaDoorPlains
import Derived.Test.YtmodmfkcigibpaaDoorHosts
import Derived.Test.YtmodmfkcigibpaaDoorClean
import Derived.BigQuiet
import Derived.Deep.QuietTactic
namespace Go.Proofs.YtmodmfkcigibpaaDoor.Ro
open Go.Proofs.YtmodmfkcigibpaaDoor Go.Proofs.YtmodmfkcigibpaaDoor.Cm
open Go Go.ChangeShapes Go.WideShapes Go.ChangeAt Go.RowKit
set_option maxRecDepth 100000
set_option linter.unusedSimpArgs false
set_option linter.unusedVariables false

set_option maxHeartbeats 4000000 in
theorem rname_any (s : List UInt8) (hl : s.length ≤ 9223372036854775807) (w : World) :
    Calls Tryd.prog 35 #[.string ⟨s.toArray⟩] w fun e w' => e = .returned (.bool (nameB s)) ∧ Below w.heap.size w w' := by
  have HA := Lib.hid (name_eq s)
  generalize nameB s = m at HA ⊢
  go_enter Tryd.func35, Tryd.ntmps35
  go_wp2_with fail
  go_loopw [3] (fun x3 wr => ∃ (k : Nat), x3 = .int .i64 (k : Int) ∧ k ≤ s.length ∧ Hid ((s.take k).all nameC = true) ∧ Hid (wr = w)) (fun i _ => s.length - (intOf i).toNat)
  case atStart => exact ⟨0, rfl, Nat.zero_le _, Lib.hid (by simp), by first | exact Lib.hid rfl | exact Lib.hid trivial⟩
  case round =>
    obtain ⟨k, rfl, hk, HO, HW⟩ := hrel
    obtain rfl := HW.out
    by_cases hlt : k < s.length
    · have hsz : k < (ByteArray.mk s.toArray).size := by simpa [ByteArray.size] using hlt
      have hji : (k : Int) < (s.length : Int) := by omega
      have HK : Hid (k + 1 ≤ s.length) := Lib.hid hlt
      obtain ⟨ch, hcx⟩ : ∃ c : UInt8, (ByteArray.mk s.toArray)[k]'hsz = c := ⟨_, rfl⟩
      have hc0 : s[k]'hlt = ch := hcx
      have HX : Hid (nameC ch = false → m = false) := Lib.hid (fun h => by rw [HA.out, each_no hlt (by rw [hc0]; exact h)]; rfl)
      have HN : Hid (nameC ch = true → (s.take (k + 1)).all nameC = true) := Lib.hid (fun h => by rw [each_next hlt, HO.out, hc0, h]; rfl)
      clear hc0
      have hne46 : ∀ (n : Nat), ch.toNat ≠ n → n < 256 → ((ch.toNat : Int) == (n : Int)) = false := fun n h _ => beq_eq_false_iff_ne.2 (by omega)
      by_cases a1 : 97 ≤ ch.toNat
      · have g1 : (97 : Int) ≤ (ch.toNat : Int) := by omega
        by_cases a2 : ch.toNat ≤ 122
        · have g2 : (ch.toNat : Int) ≤ 122 := by omega
          clear hne46
          have hv : nameC ch = true := by unfold nameC; rw [decide_eq_true (show 97 ≤ ch.toNat by omega), decide_eq_true (show ch.toNat ≤ 122 by omega)]; rfl
          have HV := Lib.hid (HN.out hv)
          clear HX HN hv
          go_wp2_with fail
          go_roundw
          case rel => exact ⟨k + 1, by go_num, HK.out, HV, by first | exact Lib.hid rfl | exact Lib.hid trivial⟩
          case measure => have := HK.out; simp [intOf]; omega
        · have g2 : ¬ (ch.toNat : Int) ≤ 122 := by omega
          have g3 : (48 : Int) ≤ (ch.toNat : Int) := by omega
          have g4 : ¬ (ch.toNat : Int) ≤ 57 := by omega
          have g5 : ((ch.toNat : Int) == 46) = false := hne46 46 (by omega) (by omega)
          have g6 : ((ch.toNat : Int) == 45) = false := hne46 45 (by omega) (by omega)
          have e46 : (ch == 46) = false := beq_eq_false_iff_ne.2 (fun e => by subst e; exact absurd a1 (by decide))
          have e45 : (ch == 45) = false := beq_eq_false_iff_ne.2 (fun e => by subst e; exact absurd a1 (by decide))
          clear hne46
          have hv : nameC ch = false := by unfold nameC; rw [e46, e45]; rw [decide_eq_true (show 97 ≤ ch.toNat by omega), decide_eq_false (show ¬ ch.toNat ≤ 122 by omega), decide_eq_true (show 48 ≤ ch.toNat by omega), decide_eq_false (show ¬ ch.toNat ≤ 57 by omega)]; rfl
          have HV := Lib.hid (HX.out hv)
          clear HX HN hv e46 e45
          go_wp2_with fail
          go_ret
          exact ⟨by rw [HV.out] <;> rfl, Below.refl _ _⟩
      · have g1 : ¬ (97 : Int) ≤ (ch.toNat : Int) := by omega
        by_cases b1 : 48 ≤ ch.toNat
        · have g3 : (48 : Int) ≤ (ch.toNat : Int) := by omega
          by_cases b2 : ch.toNat ≤ 57
          · have g4 : (ch.toNat : Int) ≤ 57 := by omega
            clear hne46
            have hv : nameC ch = true := by unfold nameC; rw [decide_eq_false (show ¬ 97 ≤ ch.toNat by omega), decide_eq_true (show 48 ≤ ch.toNat by omega), decide_eq_true (show ch.toNat ≤ 57 by omega)]; rfl
            have HV := Lib.hid (HN.out hv)
            clear HX HN hv
            go_wp2_with fail
            go_roundw
            case rel => exact ⟨k + 1, by go_num, HK.out, HV, by first | exact Lib.hid rfl | exact Lib.hid trivial⟩
            case measure => have := HK.out; simp [intOf]; omega
          · have g4 : ¬ (ch.toNat : Int) ≤ 57 := by omega
            have g5 : ((ch.toNat : Int) == 46) = false := hne46 46 (by omega) (by omega)
            have g6 : ((ch.toNat : Int) == 45) = false := hne46 45 (by omega) (by omega)
            have e46 : (ch == 46) = false := beq_eq_false_iff_ne.2 (fun e => by subst e; exact absurd b1 (by decide))
            have e45 : (ch == 45) = false := beq_eq_false_iff_ne.2 (fun e => by subst e; exact absurd b1 (by decide))
            clear hne46
            have hv : nameC ch = false := by unfold nameC; rw [e46, e45]; rw [decide_eq_false (show ¬ 97 ≤ ch.toNat by omega), decide_eq_true (show 48 ≤ ch.toNat by omega), decide_eq_false (show ¬ ch.toNat ≤ 57 by omega)]; rfl
            have HV := Lib.hid (HX.out hv)
            clear HX HN hv e46 e45
            go_wp2_with fail
            go_ret
            exact ⟨by rw [HV.out] <;> rfl, Below.refl _ _⟩
        · have g3 : ¬ (48 : Int) ≤ (ch.toNat : Int) := by omega
          cases e46 : (ch == 46) with
          | true =>
            have g5 : ((ch.toNat : Int) == 46) = true := by rw [beq_iff_eq] at e46; subst e46; rfl
            clear hne46
            have hv : nameC ch = true := by unfold nameC; rw [e46]; rw [decide_eq_false (show ¬ 97 ≤ ch.toNat by omega), decide_eq_false (show ¬ 48 ≤ ch.toNat by omega)]; rfl
            have HV := Lib.hid (HN.out hv)
            clear HX HN hv e46
            go_wp2_with fail
            go_roundw
            case rel => exact ⟨k + 1, by go_num, HK.out, HV, by first | exact Lib.hid rfl | exact Lib.hid trivial⟩
            case measure => have := HK.out; simp [intOf]; omega
          | false =>
            have g5 : ((ch.toNat : Int) == 46) = false := hne46 46 (fun e => by rw [beq_eq_false_iff_ne] at e46; exact e46 (UInt8.toNat.inj e)) (by omega)
            cases e45 : (ch == 45) with
            | true =>
              have g6 : ((ch.toNat : Int) == 45) = true := by rw [beq_iff_eq] at e45; subst e45; rfl
              clear hne46
              have hv : nameC ch = true := by unfold nameC; rw [e46, e45]; rw [decide_eq_false (show ¬ 97 ≤ ch.toNat by omega), decide_eq_false (show ¬ 48 ≤ ch.toNat by omega)]; rfl
              have HV := Lib.hid (HN.out hv)
              clear HX HN hv e46 e45
              go_wp2_with fail
              go_roundw
              case rel => exact ⟨k + 1, by go_num, HK.out, HV, by first | exact Lib.hid rfl | exact Lib.hid trivial⟩
              case measure => have := HK.out; simp [intOf]; omega
            | false =>
              have g6 : ((ch.toNat : Int) == 45) = false := hne46 45 (fun e => by rw [beq_eq_false_iff_ne] at e45; exact e45 (UInt8.toNat.inj e)) (by omega)
              clear hne46
              have hv : nameC ch = false := by unfold nameC; rw [e46, e45]; rw [decide_eq_false (show ¬ 97 ≤ ch.toNat by omega), decide_eq_false (show ¬ 48 ≤ ch.toNat by omega)]; rfl
              have HV := Lib.hid (HX.out hv)
              clear HX HN hv e46 e45
              go_wp2_with fail
              go_ret
              exact ⟨by rw [HV.out] <;> rfl, Below.refl _ _⟩
    · have hji : ¬ (k : Int) < (s.length : Int) := by omega
      have HM : Hid (m = (decide (1 ≤ s.length) && decide (s.length ≤ 60))) := Lib.hid (by rw [HA.out, ← List.take_of_length_le (l := s) (i := k) (by omega), HO.out, Bool.true_and, List.take_of_length_le (by omega)])
      by_cases h1 : 1 ≤ s.length
      · have g1 : (1 : Int) ≤ (s.length : Int) := by omega
        by_cases h2 : s.length ≤ 60
        · have g2 : (s.length : Int) ≤ 60 := by omega
          have HV : Hid (m = true) := Lib.hid (by rw [HM.out, decide_eq_true h1, decide_eq_true h2]; rfl)
          clear h1 h2
          go_wp2_with fail
          go_ret
          exact ⟨by rw [HV.out] <;> rfl, Below.refl _ _⟩
        · have g2 : ¬ (s.length : Int) ≤ 60 := by omega
          have HV : Hid (m = false) := Lib.hid (by rw [HM.out, decide_eq_true h1, decide_eq_false h2]; rfl)
          clear h1 h2
          go_wp2_with fail
          go_ret
          exact ⟨by rw [HV.out] <;> rfl, Below.refl _ _⟩
      · have g1 : ¬ (1 : Int) ≤ (s.length : Int) := by omega
        have HV : Hid (m = false) := Lib.hid (by rw [HM.out, decide_eq_false h1]; rfl)
        clear h1
        go_wp2_with fail
        go_ret
        exact ⟨by rw [HV.out] <;> rfl, Below.refl _ _⟩

set_option maxHeartbeats 4000000 in
theorem ruser_any (s : List UInt8) (hl : s.length ≤ 9223372036854775807) (w : World) :
    Calls Tryd.prog 34 #[.string ⟨s.toArray⟩] w fun e w' => e = .returned (.bool (userB s)) ∧ Below w.heap.size w w' := by
  have HC := Lib.hid (fun W => rclean_same s hl W)
  have HA := Lib.hid (user_eq s)
  generalize userB s = m at HA ⊢
  generalize clean s = cl at HC HA
  go_enter Tryd.func34, Tryd.ntmps34
  go_wp2_with (go_at_call 46; refine (HC.out _).mono ?_; rintro e w1 ⟨rfl, h⟩; obtain rfl := h.symm)
  go_loopw [4] (fun x3 wr => ∃ (k : Nat), x3 = .int .i64 (k : Int) ∧ k ≤ s.length ∧ Hid ((s.take k).all (· != 32) = true) ∧ Hid (wr = w)) (fun i _ => s.length - (intOf i).toNat)
  case atStart => exact ⟨0, rfl, Nat.zero_le _, Lib.hid (by simp), by first | exact Lib.hid rfl | exact Lib.hid trivial⟩
  case round =>
    obtain ⟨k, rfl, hk, HO, HW⟩ := hrel
    obtain rfl := HW.out
    by_cases hlt : k < s.length
    · have hsz : k < (ByteArray.mk s.toArray).size := by simpa [ByteArray.size] using hlt
      have hji : (k : Int) < (s.length : Int) := by omega
      have HK : Hid (k + 1 ≤ s.length) := Lib.hid hlt
      obtain ⟨ch, hcx⟩ : ∃ c : UInt8, (ByteArray.mk s.toArray)[k]'hsz = c := ⟨_, rfl⟩
      have hc0 : s[k]'hlt = ch := hcx
      have HX : Hid ((ch != 32) = false → m = false) := Lib.hid (fun h => by rw [HA.out, each_no (f := (· != 32)) hlt (by rw [hc0]; exact h)]; simp)
      have HN : Hid ((ch != 32) = true → (s.take (k + 1)).all (· != 32) = true) := Lib.hid (fun h => by rw [each_next hlt, HO.out, hc0, h]; rfl)
      clear hc0
      cases h4 : (ch == (32 : UInt8)) with
      | true =>
        have g4 : ((ch.toNat : Int) == 32) = true := by rw [beq_iff_eq] at h4; subst h4; rfl
        have HV := Lib.hid (HX.out (by rw [bne, h4]; rfl))
        clear HX HN h4
        go_wp2_with fail
        go_ret
        exact ⟨by rw [HV.out] <;> rfl, Below.refl _ _⟩
      | false =>
        have g4 : ((ch.toNat : Int) == 32) = false := by rw [beq_eq_false_iff_ne]; intro e; rw [beq_eq_false_iff_ne] at h4; exact h4 (UInt8.toNat.inj (by show ch.toNat = 32; omega))
        have HV := Lib.hid (HN.out (by rw [bne, h4]; rfl))
        clear HX HN h4
        go_wp2_with fail
        go_roundw
        case rel => exact ⟨k + 1, by go_num, HK.out, HV, by first | exact Lib.hid rfl | exact Lib.hid trivial⟩
        case measure => have := HK.out; simp [intOf]; omega
    · have hji : ¬ (k : Int) < (s.length : Int) := by omega
      have HM0 : Hid (m = (cl && (decide (1 ≤ s.length) && decide (s.length ≤ 60)))) := Lib.hid (by
        have e : s.all (· != 32) = true := by have h := HO.out; rwa [List.take_of_length_le (by omega)] at h
        rw [HA.out, e, Bool.true_and])
      clear HA HO
      cases cl with
      | false =>
        have HV : Hid (m = false) := Lib.hid (by rw [HM0.out]; rfl)
        go_wp2_with fail
        go_ret
        exact ⟨by rw [HV.out] <;> rfl, Below.refl _ _⟩
      | true =>
        have HM : Hid (m = (decide (1 ≤ s.length) && decide (s.length ≤ 60))) := Lib.hid (by rw [HM0.out, Bool.true_and])
        by_cases h1 : 1 ≤ s.length
        · have g1 : (1 : Int) ≤ (s.length : Int) := by omega
          by_cases h2 : s.length ≤ 60
          · have g2 : (s.length : Int) ≤ 60 := by omega
            have HV : Hid (m = true) := Lib.hid (by rw [HM.out, decide_eq_true h1, decide_eq_true h2]; rfl)
            clear h1 h2
            go_wp2_with fail
            go_ret
            exact ⟨by rw [HV.out] <;> rfl, Below.refl _ _⟩
          · have g2 : ¬ (s.length : Int) ≤ 60 := by omega
            have HV : Hid (m = false) := Lib.hid (by rw [HM.out, decide_eq_true h1, decide_eq_false h2]; rfl)
            clear h1 h2
            go_wp2_with fail
            go_ret
            exact ⟨by rw [HV.out] <;> rfl, Below.refl _ _⟩
        · have g1 : ¬ (1 : Int) ≤ (s.length : Int) := by omega
          have HV : Hid (m = false) := Lib.hid (by rw [HM.out, decide_eq_false h1]; rfl)
          clear h1
          go_wp2_with fail
          go_ret
          exact ⟨by rw [HV.out] <;> rfl, Below.refl _ _⟩

abbrev splitV (s : List UInt8) : Value := .tuple #[.string ⟨(splitR s).1.toArray⟩, .string ⟨(splitR s).2.1.toArray⟩, .bool (splitR s).2.2]
theorem split_empty {s : List UInt8} (h : splitR s = ([], [], false)) : splitV s = .tuple #[.string ⟨#[]⟩, .string ⟨#[]⟩, .bool false] := by
  unfold splitV; rw [h]
theorem take_str (s : List UInt8) (j : Nat) : (ByteArray.mk s.toArray).extract 0 j = ⟨(s.take j).toArray⟩ := by
  apply ByteArray.ext
  simp [ByteArray.data_extract]
theorem drop_str (s : List UInt8) (j : Nat) : (ByteArray.mk s.toArray).extract j s.length = ⟨(s.drop j).toArray⟩ := by
  apply ByteArray.ext
  rw [ByteArray.data_extract]
  show s.toArray.extract j s.length = (s.drop j).toArray
  rw [List.extract_toArray, List.extract_eq_take_drop, List.take_of_length_le (by rw [List.length_drop]; omega)]



#print axioms rname_any
#print axioms ruser_any
end Go.Proofs.YtmodmfkcigibpaaDoor.Ro
