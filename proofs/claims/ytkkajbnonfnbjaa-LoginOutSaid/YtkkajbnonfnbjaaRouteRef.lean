/- The contracts of the document's answer of layer 12: wharfingerref12's Name, User, Split, Find (gen-route-ref.py). -/
import Derived.Test.YtkkajbnonfnbjaaRoutePlain
import Derived.Test.YtkkajbnonfnbjaaHosts
import Derived.Test.YtkkajbnonfnbjaaClean
import Derived.BigQuiet
import Derived.Deep.QuietTactic
namespace Go.Proofs.Ytkkajbnonfnbjaa.Ro
open Go.Proofs.Ytkkajbnonfnbjaa Go.Proofs.Ytkkajbnonfnbjaa.Cm
open Go Go.ChangeShapes Go.WideShapes Go.ChangeAt Go.RowKit
set_option maxRecDepth 100000
set_option linter.unusedSimpArgs false
set_option linter.unusedVariables false

set_option maxHeartbeats 4000000 in
theorem rname_any (s : List UInt8) (hl : s.length ≤ 9223372036854775807) (w : World) :
    Calls Try.prog 37 #[.string ⟨s.toArray⟩] w fun e w' => e = .returned (.bool (nameB s)) ∧ Below w.heap.size w w' := by
  have HA := Lib.hid (name_eq s)
  generalize nameB s = m at HA ⊢
  go_enter Try.func37, Try.ntmps37
  go_wp2_with fail
  go_loopw [3] (fun x3 wr => ∃ (k : Nat), x3 = .int .i64 (k : Int) ∧ k ≤ s.length ∧ Hid ((s.take k).all nameC = true) ∧ Hid (wr = w)) (fun i _ => s.length - (intOf i).toNat)
  case atStart => exact ⟨0, rfl, Nat.zero_le _, Lib.hid (by simp), by first | exact Lib.hid rfl | exact Lib.hid trivial⟩
  case round =>
    obtain ⟨k, rfl, hk, HO, HW⟩ := hrel
    obtain rfl := HW.out
    by_cases hlt : k < s.length
    · have hsz : k < (ByteArray.mk s.toArray).size := by simpa [ByteArray.size] using hlt
      have hji : (k : Int) < (s.length : Int) := by omega
      have HK : Hid (k + 1 ≤ s.length) := Lib.hid hlt
      obtain ⟨ch, hcx⟩ : ∃ c : UInt8, (ByteArray.mk s.toArray)[k]'hsz = c := ⟨_, rfl⟩
      have hc0 : s[k]'hlt = ch := hcx
      have HX : Hid (nameC ch = false → m = false) := Lib.hid (fun h => by rw [HA.out, each_no hlt (by rw [hc0]; exact h)]; rfl)
      have HN : Hid (nameC ch = true → (s.take (k + 1)).all nameC = true) := Lib.hid (fun h => by rw [each_next hlt, HO.out, hc0, h]; rfl)
      clear hc0
      have hne46 : ∀ (n : Nat), ch.toNat ≠ n → n < 256 → ((ch.toNat : Int) == (n : Int)) = false := fun n h _ => beq_eq_false_iff_ne.2 (by omega)
      by_cases a1 : 97 ≤ ch.toNat
      · have g1 : (97 : Int) ≤ (ch.toNat : Int) := by omega
        by_cases a2 : ch.toNat ≤ 122
        · have g2 : (ch.toNat : Int) ≤ 122 := by omega
          clear hne46
          have hv : nameC ch = true := by unfold nameC; rw [decide_eq_true (show 97 ≤ ch.toNat by omega), decide_eq_true (show ch.toNat ≤ 122 by omega)]; rfl
          have HV := Lib.hid (HN.out hv)
          clear HX HN hv
          go_wp2_with fail
          go_roundw
          case rel => exact ⟨k + 1, by go_num, HK.out, HV, by first | exact Lib.hid rfl | exact Lib.hid trivial⟩
          case measure => have := HK.out; simp [intOf]; omega
        · have g2 : ¬ (ch.toNat : Int) ≤ 122 := by omega
          have g3 : (48 : Int) ≤ (ch.toNat : Int) := by omega
          have g4 : ¬ (ch.toNat : Int) ≤ 57 := by omega
          have g5 : ((ch.toNat : Int) == 46) = false := hne46 46 (by omega) (by omega)
          have g6 : ((ch.toNat : Int) == 45) = false := hne46 45 (by omega) (by omega)
          have e46 : (ch == 46) = false := beq_eq_false_iff_ne.2 (fun e => by subst e; exact absurd a1 (by decide))
          have e45 : (ch == 45) = false := beq_eq_false_iff_ne.2 (fun e => by subst e; exact absurd a1 (by decide))
          clear hne46
          have hv : nameC ch = false := by unfold nameC; rw [e46, e45]; rw [decide_eq_true (show 97 ≤ ch.toNat by omega), decide_eq_false (show ¬ ch.toNat ≤ 122 by omega), decide_eq_true (show 48 ≤ ch.toNat by omega), decide_eq_false (show ¬ ch.toNat ≤ 57 by omega)]; rfl
          have HV := Lib.hid (HX.out hv)
          clear HX HN hv e46 e45
          go_wp2_with fail
          go_ret
          exact ⟨by rw [HV.out] <;> rfl, Below.refl _ _⟩
      · have g1 : ¬ (97 : Int) ≤ (ch.toNat : Int) := by omega
        by_cases b1 : 48 ≤ ch.toNat
        · have g3 : (48 : Int) ≤ (ch.toNat : Int) := by omega
          by_cases b2 : ch.toNat ≤ 57
          · have g4 : (ch.toNat : Int) ≤ 57 := by omega
            clear hne46
            have hv : nameC ch = true := by unfold nameC; rw [decide_eq_false (show ¬ 97 ≤ ch.toNat by omega), decide_eq_true (show 48 ≤ ch.toNat by omega), decide_eq_true (show ch.toNat ≤ 57 by omega)]; rfl
            have HV := Lib.hid (HN.out hv)
            clear HX HN hv
            go_wp2_with fail
            go_roundw
            case rel => exact ⟨k + 1, by go_num, HK.out, HV, by first | exact Lib.hid rfl | exact Lib.hid trivial⟩
            case measure => have := HK.out; simp [intOf]; omega
          · have g4 : ¬ (ch.toNat : Int) ≤ 57 := by omega
            have g5 : ((ch.toNat : Int) == 46) = false := hne46 46 (by omega) (by omega)
            have g6 : ((ch.toNat : Int) == 45) = false := hne46 45 (by omega) (by omega)
            have e46 : (ch == 46) = false := beq_eq_false_iff_ne.2 (fun e => by subst e; exact absurd b1 (by decide))
            have e45 : (ch == 45) = false := beq_eq_false_iff_ne.2 (fun e => by subst e; exact absurd b1 (by decide))
            clear hne46
            have hv : nameC ch = false := by unfold nameC; rw [e46, e45]; rw [decide_eq_false (show ¬ 97 ≤ ch.toNat by omega), decide_eq_true (show 48 ≤ ch.toNat by omega), decide_eq_false (show ¬ ch.toNat ≤ 57 by omega)]; rfl
            have HV := Lib.hid (HX.out hv)
            clear HX HN hv e46 e45
            go_wp2_with fail
            go_ret
            exact ⟨by rw [HV.out] <;> rfl, Below.refl _ _⟩
        · have g3 : ¬ (48 : Int) ≤ (ch.toNat : Int) := by omega
          cases e46 : (ch == 46) with
          | true =>
            have g5 : ((ch.toNat : Int) == 46) = true := by rw [beq_iff_eq] at e46; subst e46; rfl
            clear hne46
            have hv : nameC ch = true := by unfold nameC; rw [e46]; rw [decide_eq_false (show ¬ 97 ≤ ch.toNat by omega), decide_eq_false (show ¬ 48 ≤ ch.toNat by omega)]; rfl
            have HV := Lib.hid (HN.out hv)
            clear HX HN hv e46
            go_wp2_with fail
            go_roundw
            case rel => exact ⟨k + 1, by go_num, HK.out, HV, by first | exact Lib.hid rfl | exact Lib.hid trivial⟩
            case measure => have := HK.out; simp [intOf]; omega
          | false =>
            have g5 : ((ch.toNat : Int) == 46) = false := hne46 46 (fun e => by rw [beq_eq_false_iff_ne] at e46; exact e46 (UInt8.toNat.inj e)) (by omega)
            cases e45 : (ch == 45) with
            | true =>
              have g6 : ((ch.toNat : Int) == 45) = true := by rw [beq_iff_eq] at e45; subst e45; rfl
              clear hne46
              have hv : nameC ch = true := by unfold nameC; rw [e46, e45]; rw [decide_eq_false (show ¬ 97 ≤ ch.toNat by omega), decide_eq_false (show ¬ 48 ≤ ch.toNat by omega)]; rfl
              have HV := Lib.hid (HN.out hv)
              clear HX HN hv e46 e45
              go_wp2_with fail
              go_roundw
              case rel => exact ⟨k + 1, by go_num, HK.out, HV, by first | exact Lib.hid rfl | exact Lib.hid trivial⟩
              case measure => have := HK.out; simp [intOf]; omega
            | false =>
              have g6 : ((ch.toNat : Int) == 45) = false := hne46 45 (fun e => by rw [beq_eq_false_iff_ne] at e45; exact e45 (UInt8.toNat.inj e)) (by omega)
              clear hne46
              have hv : nameC ch = false := by unfold nameC; rw [e46, e45]; rw [decide_eq_false (show ¬ 97 ≤ ch.toNat by omega), decide_eq_false (show ¬ 48 ≤ ch.toNat by omega)]; rfl
              have HV := Lib.hid (HX.out hv)
              clear HX HN hv e46 e45
              go_wp2_with fail
              go_ret
              exact ⟨by rw [HV.out] <;> rfl, Below.refl _ _⟩
    · have hji : ¬ (k : Int) < (s.length : Int) := by omega
      have HM : Hid (m = (decide (1 ≤ s.length) && decide (s.length ≤ 60))) := Lib.hid (by rw [HA.out, ← List.take_of_length_le (l := s) (i := k) (by omega), HO.out, Bool.true_and, List.take_of_length_le (by omega)])
      by_cases h1 : 1 ≤ s.length
      · have g1 : (1 : Int) ≤ (s.length : Int) := by omega
        by_cases h2 : s.length ≤ 60
        · have g2 : (s.length : Int) ≤ 60 := by omega
          have HV : Hid (m = true) := Lib.hid (by rw [HM.out, decide_eq_true h1, decide_eq_true h2]; rfl)
          clear h1 h2
          go_wp2_with fail
          go_ret
          exact ⟨by rw [HV.out] <;> rfl, Below.refl _ _⟩
        · have g2 : ¬ (s.length : Int) ≤ 60 := by omega
          have HV : Hid (m = false) := Lib.hid (by rw [HM.out, decide_eq_true h1, decide_eq_false h2]; rfl)
          clear h1 h2
          go_wp2_with fail
          go_ret
          exact ⟨by rw [HV.out] <;> rfl, Below.refl _ _⟩
      · have g1 : ¬ (1 : Int) ≤ (s.length : Int) := by omega
        have HV : Hid (m = false) := Lib.hid (by rw [HM.out, decide_eq_false h1]; rfl)
        clear h1
        go_wp2_with fail
        go_ret
        exact ⟨by rw [HV.out] <;> rfl, Below.refl _ _⟩

set_option maxHeartbeats 4000000 in
theorem ruser_any (s : List UInt8) (hl : s.length ≤ 9223372036854775807) (w : World) :
    Calls Try.prog 32 #[.string ⟨s.toArray⟩] w fun e w' => e = .returned (.bool (userB s)) ∧ Below w.heap.size w w' := by
  have HC := Lib.hid (fun W => rclean_same s hl W)
  have HA := Lib.hid (user_eq s)
  generalize userB s = m at HA ⊢
  generalize clean s = cl at HC HA
  go_enter Try.func32, Try.ntmps32
  go_wp2_with (go_at_call 38; refine (HC.out _).mono ?_; rintro e w1 ⟨rfl, h⟩; obtain rfl := h.symm)
  go_loopw [4] (fun x3 wr => ∃ (k : Nat), x3 = .int .i64 (k : Int) ∧ k ≤ s.length ∧ Hid ((s.take k).all (· != 32) = true) ∧ Hid (wr = w)) (fun i _ => s.length - (intOf i).toNat)
  case atStart => exact ⟨0, rfl, Nat.zero_le _, Lib.hid (by simp), by first | exact Lib.hid rfl | exact Lib.hid trivial⟩
  case round =>
    obtain ⟨k, rfl, hk, HO, HW⟩ := hrel
    obtain rfl := HW.out
    by_cases hlt : k < s.length
    · have hsz : k < (ByteArray.mk s.toArray).size := by simpa [ByteArray.size] using hlt
      have hji : (k : Int) < (s.length : Int) := by omega
      have HK : Hid (k + 1 ≤ s.length) := Lib.hid hlt
      obtain ⟨ch, hcx⟩ : ∃ c : UInt8, (ByteArray.mk s.toArray)[k]'hsz = c := ⟨_, rfl⟩
      have hc0 : s[k]'hlt = ch := hcx
      have HX : Hid ((ch != 32) = false → m = false) := Lib.hid (fun h => by rw [HA.out, each_no (f := (· != 32)) hlt (by rw [hc0]; exact h)]; simp)
      have HN : Hid ((ch != 32) = true → (s.take (k + 1)).all (· != 32) = true) := Lib.hid (fun h => by rw [each_next hlt, HO.out, hc0, h]; rfl)
      clear hc0
      cases h4 : (ch == (32 : UInt8)) with
      | true =>
        have g4 : ((ch.toNat : Int) == 32) = true := by rw [beq_iff_eq] at h4; subst h4; rfl
        have HV := Lib.hid (HX.out (by rw [bne, h4]; rfl))
        clear HX HN h4
        go_wp2_with fail
        go_ret
        exact ⟨by rw [HV.out] <;> rfl, Below.refl _ _⟩
      | false =>
        have g4 : ((ch.toNat : Int) == 32) = false := by rw [beq_eq_false_iff_ne]; intro e; rw [beq_eq_false_iff_ne] at h4; exact h4 (UInt8.toNat.inj (by show ch.toNat = 32; omega))
        have HV := Lib.hid (HN.out (by rw [bne, h4]; rfl))
        clear HX HN h4
        go_wp2_with fail
        go_roundw
        case rel => exact ⟨k + 1, by go_num, HK.out, HV, by first | exact Lib.hid rfl | exact Lib.hid trivial⟩
        case measure => have := HK.out; simp [intOf]; omega
    · have hji : ¬ (k : Int) < (s.length : Int) := by omega
      have HM0 : Hid (m = (cl && (decide (1 ≤ s.length) && decide (s.length ≤ 60)))) := Lib.hid (by
        have e : s.all (· != 32) = true := by have h := HO.out; rwa [List.take_of_length_le (by omega)] at h
        rw [HA.out, e, Bool.true_and])
      clear HA HO
      cases cl with
      | false =>
        have HV : Hid (m = false) := Lib.hid (by rw [HM0.out]; rfl)
        go_wp2_with fail
        go_ret
        exact ⟨by rw [HV.out] <;> rfl, Below.refl _ _⟩
      | true =>
        have HM : Hid (m = (decide (1 ≤ s.length) && decide (s.length ≤ 60))) := Lib.hid (by rw [HM0.out, Bool.true_and])
        by_cases h1 : 1 ≤ s.length
        · have g1 : (1 : Int) ≤ (s.length : Int) := by omega
          by_cases h2 : s.length ≤ 60
          · have g2 : (s.length : Int) ≤ 60 := by omega
            have HV : Hid (m = true) := Lib.hid (by rw [HM.out, decide_eq_true h1, decide_eq_true h2]; rfl)
            clear h1 h2
            go_wp2_with fail
            go_ret
            exact ⟨by rw [HV.out] <;> rfl, Below.refl _ _⟩
          · have g2 : ¬ (s.length : Int) ≤ 60 := by omega
            have HV : Hid (m = false) := Lib.hid (by rw [HM.out, decide_eq_true h1, decide_eq_false h2]; rfl)
            clear h1 h2
            go_wp2_with fail
            go_ret
            exact ⟨by rw [HV.out] <;> rfl, Below.refl _ _⟩
        · have g1 : ¬ (1 : Int) ≤ (s.length : Int) := by omega
          have HV : Hid (m = false) := Lib.hid (by rw [HM.out, decide_eq_false h1]; rfl)
          clear h1
          go_wp2_with fail
          go_ret
          exact ⟨by rw [HV.out] <;> rfl, Below.refl _ _⟩

abbrev splitV (s : List UInt8) : Value := .tuple #[.string ⟨(splitR s).1.toArray⟩, .string ⟨(splitR s).2.1.toArray⟩, .bool (splitR s).2.2]
theorem split_empty {s : List UInt8} (h : splitR s = ([], [], false)) : splitV s = .tuple #[.string ⟨#[]⟩, .string ⟨#[]⟩, .bool false] := by
  unfold splitV; rw [h]
theorem take_str (s : List UInt8) (j : Nat) : (ByteArray.mk s.toArray).extract 0 j = ⟨(s.take j).toArray⟩ := by
  apply ByteArray.ext
  simp [ByteArray.data_extract]
theorem drop_str (s : List UInt8) (j : Nat) : (ByteArray.mk s.toArray).extract j s.length = ⟨(s.drop j).toArray⟩ := by
  apply ByteArray.ext
  rw [ByteArray.data_extract]
  show s.toArray.extract j s.length = (s.drop j).toArray
  rw [List.extract_toArray, List.extract_eq_take_drop, List.take_of_length_le (by rw [List.length_drop]; omega)]

set_option maxHeartbeats 8000000 in
theorem rsplit_any (s : List UInt8) (hl : s.length ≤ 100000) (w : World) :
    Calls Try.prog 27 #[.string ⟨s.toArray⟩] w fun e w' => e = .returned (splitV s) ∧ Below w.heap.size w w' := by
  have HN : Hid ((64 : UInt8) ∉ s → splitV s = .tuple #[.string ⟨#[]⟩, .string ⟨#[]⟩, .bool false]) := Lib.hid (fun h => split_empty (split_none (cut_none h)))
  have HT : Hid (∀ j (hj : j < s.length), s[j] = 64 → (64 : UInt8) ∉ s.drop (j + 1) → splitR s = if userB (s.take j) && nameB (s.drop (j + 1)) then (s.take j, s.drop (j + 1), true) else ([], [], false)) := Lib.hid (fun j hj h1 h2 => split_of (cut_at hj h1 h2))
  go_enter Try.func27, Try.ntmps27
  go_wp2_with fail
  go_loopw [5] (fun x5 wr => ∃ (z : Int), x5 = .int .i64 z ∧ -1 ≤ z ∧ z < (s.length : Int) ∧ Hid ((64 : UInt8) ∉ s.drop (z + 1).toNat) ∧ Hid (wr = w)) (fun i _ => (intOf i + 1).toNat)
  case atStart => exact ⟨(s.length : Int) - 1, by go_num, by omega, by omega, Lib.hid (by rw [show ((s.length : Int) - 1 + 1).toNat = s.length from by omega, List.drop_length]; simp), by first | exact Lib.hid rfl | exact Lib.hid trivial⟩
  case round =>
    obtain ⟨z, rfl, hz0, hz1, HF, HW⟩ := hrel
    obtain rfl := HW.out
    by_cases hz : z = -1
    · subst hz
      have HV := Lib.hid (HN.out (by have h := HF.out; rwa [show ((-1 : Int) + 1).toNat = 0 from rfl, List.drop_zero] at h))
      go_wp2_with fail
      go_ret3
      exact ⟨by rw [HV.out] <;> rfl, Below.refl _ _⟩
    · obtain ⟨j, rfl⟩ : ∃ j : Nat, z = (j : Int) := ⟨z.toNat, by omega⟩
      have hj : j < s.length := by omega
      have HF2 : Hid ((64 : UInt8) ∉ s.drop (j + 1)) := Lib.hid (by have h := HF.out; rwa [show ((j : Int) + 1).toNat = j + 1 from by omega] at h)
      have hsz : j < (ByteArray.mk s.toArray).size := by simpa [ByteArray.size] using hj
      have g0 : (0 : Int) ≤ (j : Int) := by omega
      obtain ⟨ch, hcx⟩ : ∃ c : UInt8, (ByteArray.mk s.toArray)[j]'hsz = c := ⟨_, rfl⟩
      have hc0 : s[j]'hj = ch := hcx
      have HC := Lib.hid hc0
      clear HF hz hc0
      cases h4 : (ch == (64 : UInt8)) with
      | false =>
        have g4 : ((ch.toNat : Int) == 64) = false := by rw [beq_eq_false_iff_ne]; intro e; rw [beq_eq_false_iff_ne] at h4; exact h4 (UInt8.toNat.inj (by show ch.toNat = 64; omega))
        have g5 : ((ch.toNat : Int) != 64) = true := by rw [bne, g4]; rfl
        have HV : Hid ((64 : UInt8) ∉ s.drop ((j : Int) - 1 + 1).toNat) := Lib.hid (by
          rw [show ((j : Int) - 1 + 1).toNat = j from by omega, List.drop_eq_getElem_cons hj, HC.out]
          intro h
          rcases List.mem_cons.1 h with h | h
          · rw [← h] at h4; exact absurd h4 (by decide)
          · exact HF2.out h)
        clear h4 g4
        go_wp2_with fail
        go_roundw
        case rel => exact ⟨(j : Int) - 1, by go_num, by omega, by omega, HV, by first | exact Lib.hid rfl | exact Lib.hid trivial⟩
        case measure => simp [intOf] <;> omega
      | true =>
        have g4 : ((ch.toNat : Int) == 64) = true := by rw [beq_iff_eq] at h4; subst h4; rfl
        have g5 : ((ch.toNat : Int) != 64) = false := by rw [bne, g4]; rfl
        have HS := Lib.hid (HT.out j hj (by rw [HC.out]; exact beq_iff_eq.1 h4) HF2.out)
        have hx1 := take_str s j
        have hx2 := drop_str s (j + 1)
        have n1 : j ≤ s.length := by omega
        have n2 : (j : Int) + 1 ≤ (s.length : Int) := by omega
        have n3 : j + 1 ≤ s.length := by omega
        have HU := Lib.hid (fun W => ruser_any (s.take j) (by rw [List.length_take]; omega) W)
        have HM := Lib.hid (fun W => rname_any (s.drop (j + 1)) (by rw [List.length_drop]; omega) W)
        generalize s.take j = a at HS hx1 HU
        generalize s.drop (j + 1) = b at HS hx2 HM
        generalize userB a = p at HS HU
        generalize nameB b = q at HS HM
        clear h4 g4 HN HT HC HF2
        cases p with
        | false =>
          have HV := Lib.hid (split_empty HS.out)
          go_wp2_with (first
            | (go_at_call 32; refine (HU.out _).mono ?_; rintro e w1 ⟨rfl, b1⟩; have B1 := Lib.hid b1; clear HU b1)
            | (go_at_call 37; refine (HM.out _).mono ?_; rintro e w2 ⟨rfl, b2⟩; have B2 := Lib.hid (B1.out.trans (b2.mono B1.out.size)); clear HM b2))
          go_ret3
          exact ⟨by rw [HV.out] <;> rfl, B2.out⟩
        | true =>
          cases q with
          | false =>
            have HV := Lib.hid (split_empty HS.out)
            go_wp2_with (first
              | (go_at_call 32; refine (HU.out _).mono ?_; rintro e w1 ⟨rfl, b1⟩; have B1 := Lib.hid b1; clear HU b1)
              | (go_at_call 37; refine (HM.out _).mono ?_; rintro e w2 ⟨rfl, b2⟩; have B2 := Lib.hid (B1.out.trans (b2.mono B1.out.size)); clear HM b2))
            go_ret3
            exact ⟨by rw [HV.out] <;> rfl, B2.out⟩
          | true =>
            have HV : Hid (splitV s = .tuple #[.string ⟨a.toArray⟩, .string ⟨b.toArray⟩, .bool true]) := Lib.hid (by unfold splitV; rw [HS.out]; rfl)
            go_wp2_with (first
              | (go_at_call 32; refine (HU.out _).mono ?_; rintro e w1 ⟨rfl, b1⟩; have B1 := Lib.hid b1; clear HU b1)
              | (go_at_call 37; refine (HM.out _).mono ?_; rintro e w2 ⟨rfl, b2⟩; have B2 := Lib.hid (B1.out.trans (b2.mono B1.out.size)); clear HM b2))
            go_quiet (fail)
            go_wp2_with fail
            go_ret3
            exact ⟨by rw [HV.out] <;> rfl, B2.out.trans ⟨rfl, rfl, rfl, Nat.le_refl _, fun _ _ => rfl⟩⟩

set_option maxHeartbeats 4000000 in
theorem rfind_any (u : Value) (l : List (List UInt8)) (h : List UInt8) (w : World) (HH : HostsIs w u l) :
    Calls Try.prog 28 #[u, .string ⟨h.toArray⟩] w fun e w' => e = .returned (.int .i64 (findH l h)) ∧ Below w.heap.size w w' := by
  have hmax := HH.max
  obtain ⟨p, n, c, rfl, hn⟩ := HH.form
  have HN := Lib.hid hn
  have HR := Lib.hid HH
  rw [← hn] at hmax
  clear hn HH
  go_enter Try.func28, Try.ntmps28
  go_wp2_with fail
  go_loopw [5] (fun x5 wr => ∃ (i : Nat), x5 = .int .i64 (i : Int) ∧ i ≤ n ∧ Hid (∀ j (hj : j < l.length), j < i → l[j] ≠ h) ∧ Hid (wr = w)) (fun i _ => n - (intOf i).toNat)
  case atStart => exact ⟨0, rfl, Nat.zero_le _, Lib.hid (fun _ _ h => absurd h (by omega)), by first | exact Lib.hid rfl | exact Lib.hid trivial⟩
  case round =>
    obtain ⟨i, rfl, hi, HO, HW⟩ := hrel
    obtain rfl := HW.out
    by_cases hlt : i < n
    · have hil : i < l.length := by rw [← HN.out]; exact hlt
      have hji : (i : Int) < (n : Int) := by omega
      have HK : Hid (i + 1 ≤ n) := Lib.hid hlt
      obtain ⟨b, o, rfl, hbl, hcell⟩ := HR.out.some (by omega)
      have e1 := hcell i hil
      have HX : Hid (l[i] = h → findH l h = (i : Int)) := Lib.hid (fun e => find_at hil e HO.out)
      have HN2 : Hid (l[i] ≠ h → ∀ j (hj : j < l.length), j < i + 1 → l[j] ≠ h) := Lib.hid (fun hne j hj hji => by
        by_cases e : j = i
        · subst e; exact hne
        · exact HO.out j hj (by omega))
      clear hcell
      generalize l[i] = t at *
      cases h1 : (t == h) with
      | true =>
        have HV := Lib.hid (HX.out (beq_iff_eq.1 h1))
        clear HX HN2
        go_wp2_with fail
        go_ret
        exact ⟨by rw [HV.out] <;> rfl, Below.refl _ _⟩
      | false =>
        have HV := Lib.hid (HN2.out (beq_eq_false_iff_ne.1 h1))
        clear HX HN2
        go_wp2_with fail
        go_roundw
        case rel => exact ⟨i + 1, by go_num, HK.out, HV, by first | exact Lib.hid rfl | exact Lib.hid trivial⟩
        case measure => have := HK.out; simp [intOf]; omega
    · have hji : ¬ (i : Int) < (n : Int) := by omega
      have HV : Hid (findH l h = -1) := Lib.hid (find_none (fun j hj => HO.out j hj (by have := HN.out; omega)))
      go_wp2_with fail
      go_ret
      exact ⟨by rw [HV.out] <;> rfl, Below.refl _ _⟩

#print axioms rname_any
#print axioms ruser_any
#print axioms rsplit_any
#print axioms rfind_any
end Go.Proofs.Ytkkajbnonfnbjaa.Ro
