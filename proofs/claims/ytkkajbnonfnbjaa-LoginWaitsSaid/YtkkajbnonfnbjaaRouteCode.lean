/- The contracts of package route: fits, isOfName, Name, User, Split (a loop ended by a goto), Find (gen-route-code.py). -/
import Derived.Test.YtkkajbnonfnbjaaRoutePlain
import Derived.Test.YtkkajbnonfnbjaaRouteRef
import Derived.Test.YtkkajbnonfnbjaaHosts
import Derived.Test.YtkkajbnonfnbjaaEnvBare
import Derived.Test.YtkkajbnonfnbjaaClean
import Derived.Test.YtkkajbnonfnbjaaShelf
import Derived.Lib.IndexAny
import Derived.ScopeJumps
import Derived.BigQuiet
import Derived.Deep.QuietTactic
namespace Go.Proofs.Ytkkajbnonfnbjaa.Ro
open Go.Proofs.Ytkkajbnonfnbjaa Go.Proofs.Ytkkajbnonfnbjaa.Cm
open Go Go.ChangeShapes Go.WideShapes Go.ChangeAt Go.RowKit
set_option maxRecDepth 100000
set_option linter.unusedSimpArgs false
set_option linter.unusedVariables false

@[go_sem] theorem jump_ret {l : Nat} {J : Act → World → Prop} {Q : Exit → Act → World → Prop} {a : Act} {w : World} : Exit.jump l J Q .ret a w = Q .ret a w := rfl
@[go_sem] theorem jump_normal {l : Nat} {J : Act → World → Prop} {Q : Exit → Act → World → Prop} {a : Act} {w : World} : Exit.jump l J Q .normal a w = Q .normal a w := rfl

def fitsB (s : List UInt8) : Bool := decide (1 ≤ s.length) && decide (s.length ≤ 60)
theorem name_fits (s : List UInt8) : nameB s = (fitsB s && s.all nameC) := by unfold nameB fitsB; rw [Bool.and_comm]
theorem user_fits (s : List UInt8) : userB s = (fitsB s && (clean s && s.all (· != 32))) := by
  unfold userB fitsB
  cases clean s <;> cases s.all (· != 32) <;> simp

set_option maxHeartbeats 4000000 in
theorem fits_any (s : List UInt8) (hl : s.length ≤ 9223372036854775807) (w : World) :
    Calls Try.prog 33 #[.string ⟨s.toArray⟩] w fun e w' => e = .returned (.bool (fitsB s)) ∧ w' = w := by
  have HT : Hid (fitsB s = (decide (1 ≤ s.length) && decide (s.length ≤ 60))) := Lib.hid rfl
  generalize fitsB s = m at HT ⊢
  by_cases h1 : 1 ≤ s.length
  · have g1 : (1 : Int) ≤ (s.length : Int) := by omega
    by_cases h2 : s.length ≤ 60
    · have g2 : (s.length : Int) ≤ 60 := by omega
      have HV : Hid (m = true) := Lib.hid (by rw [HT.out, decide_eq_true h1, decide_eq_true h2]; rfl)
      clear HT
      go_enter Try.func33, Try.ntmps33
      go_wp2_with fail
      go_ret
      exact ⟨by rw [HV.out] <;> rfl, by first | rfl | trivial⟩
    · have g2 : ¬ (s.length : Int) ≤ 60 := by omega
      have HV : Hid (m = false) := Lib.hid (by rw [HT.out, decide_eq_true h1, decide_eq_false h2]; rfl)
      clear HT
      go_enter Try.func33, Try.ntmps33
      go_wp2_with fail
      go_ret
      exact ⟨by rw [HV.out] <;> rfl, by first | rfl | trivial⟩
  · have g1 : ¬ (1 : Int) ≤ (s.length : Int) := by omega
    have HV : Hid (m = false) := Lib.hid (by rw [HT.out, decide_eq_false h1]; rfl)
    clear HT
    go_enter Try.func33, Try.ntmps33
    go_wp2_with fail
    go_ret
    exact ⟨by rw [HV.out] <;> rfl, by first | rfl | trivial⟩

set_option maxHeartbeats 8000000 in
theorem ofName_any (ch : UInt8) (w : World) :
    Calls Try.prog 36 #[.int .u8 (ch.toNat : Int)] w fun e w' => e = .returned (.bool (nameC ch)) ∧ w' = w := by
  have HT : Hid (nameC ch = ((decide (97 ≤ ch.toNat) && decide (ch.toNat ≤ 122)) || ((decide (48 ≤ ch.toNat) && decide (ch.toNat ≤ 57)) || ((ch == 46) || (ch == 45))))) := Lib.hid rfl
  generalize nameC ch = m at HT ⊢
  have hne46 : ∀ (n : Nat), ch.toNat ≠ n → n < 256 → ((ch.toNat : Int) == (n : Int)) = false := fun n h _ => beq_eq_false_iff_ne.2 (by omega)
  by_cases a1 : 97 ≤ ch.toNat
  · have g1 : (97 : Int) ≤ (ch.toNat : Int) := by omega
    by_cases a2 : ch.toNat ≤ 122
    · have g2 : (ch.toNat : Int) ≤ 122 := by omega
      have HV : Hid (m = true) := Lib.hid (by rw [HT.out, decide_eq_true a1, decide_eq_true a2]; rfl)
      clear HT
      go_enter Try.func36, Try.ntmps36
      go_wp2_with fail
      go_ret
      exact ⟨by rw [HV.out] <;> rfl, by first | rfl | trivial⟩
    · have g2 : ¬ (ch.toNat : Int) ≤ 122 := by omega
      have g3 : (48 : Int) ≤ (ch.toNat : Int) := by omega
      have g4 : ¬ (ch.toNat : Int) ≤ 57 := by omega
      have g5 : ((ch.toNat : Int) == 46) = false := hne46 46 (by omega) (by omega)
      have g6 : ((ch.toNat : Int) == 45) = false := hne46 45 (by omega) (by omega)
      have e46 : (ch == 46) = false := beq_eq_false_iff_ne.2 (fun e => by subst e; exact absurd a1 (by decide))
      have e45 : (ch == 45) = false := beq_eq_false_iff_ne.2 (fun e => by subst e; exact absurd a1 (by decide))
      have HV : Hid (m = false) := Lib.hid (by rw [HT.out, e46, e45, decide_eq_true a1, decide_eq_false a2, decide_eq_true (show 48 ≤ ch.toNat by omega), decide_eq_false (show ¬ ch.toNat ≤ 57 by omega)]; rfl)
      clear HT
      go_enter Try.func36, Try.ntmps36
      go_wp2_with fail
      go_ret
      exact ⟨by rw [HV.out] <;> rfl, by first | rfl | trivial⟩
  · have g1 : ¬ (97 : Int) ≤ (ch.toNat : Int) := by omega
    by_cases b1 : 48 ≤ ch.toNat
    · have g3 : (48 : Int) ≤ (ch.toNat : Int) := by omega
      by_cases b2 : ch.toNat ≤ 57
      · have g4 : (ch.toNat : Int) ≤ 57 := by omega
        have HV : Hid (m = true) := Lib.hid (by rw [HT.out, decide_eq_false a1, decide_eq_true b1, decide_eq_true b2]; rfl)
        clear HT
        go_enter Try.func36, Try.ntmps36
        go_wp2_with fail
        go_ret
        exact ⟨by rw [HV.out] <;> rfl, by first | rfl | trivial⟩
      · have g4 : ¬ (ch.toNat : Int) ≤ 57 := by omega
        have g5 : ((ch.toNat : Int) == 46) = false := hne46 46 (by omega) (by omega)
        have g6 : ((ch.toNat : Int) == 45) = false := hne46 45 (by omega) (by omega)
        have e46 : (ch == 46) = false := beq_eq_false_iff_ne.2 (fun e => by subst e; exact absurd b1 (by decide))
        have e45 : (ch == 45) = false := beq_eq_false_iff_ne.2 (fun e => by subst e; exact absurd b1 (by decide))
        have HV : Hid (m = false) := Lib.hid (by rw [HT.out, e46, e45, decide_eq_false a1, decide_eq_true b1, decide_eq_false b2]; rfl)
        clear HT
        go_enter Try.func36, Try.ntmps36
        go_wp2_with fail
        go_ret
        exact ⟨by rw [HV.out] <;> rfl, by first | rfl | trivial⟩
    · have g3 : ¬ (48 : Int) ≤ (ch.toNat : Int) := by omega
      cases e46 : (ch == 46) with
      | true =>
        have g5 : ((ch.toNat : Int) == 46) = true := by rw [beq_iff_eq] at e46; subst e46; rfl
        have HV : Hid (m = true) := Lib.hid (by rw [HT.out, e46, decide_eq_false a1, decide_eq_false b1]; rfl)
        clear HT
        go_enter Try.func36, Try.ntmps36
        go_wp2_with fail
        go_ret
        exact ⟨by rw [HV.out] <;> rfl, by first | rfl | trivial⟩
      | false =>
        have g5 : ((ch.toNat : Int) == 46) = false := hne46 46 (fun e => by rw [beq_eq_false_iff_ne] at e46; exact e46 (UInt8.toNat.inj e)) (by omega)
        cases e45 : (ch == 45) with
        | true =>
          have g6 : ((ch.toNat : Int) == 45) = true := by rw [beq_iff_eq] at e45; subst e45; rfl
          have HV : Hid (m = true) := Lib.hid (by rw [HT.out, e46, e45, decide_eq_false a1, decide_eq_false b1]; rfl)
          clear HT
          go_enter Try.func36, Try.ntmps36
          go_wp2_with fail
          go_ret
          exact ⟨by rw [HV.out] <;> rfl, by first | rfl | trivial⟩
        | false =>
          have g6 : ((ch.toNat : Int) == 45) = false := hne46 45 (fun e => by rw [beq_eq_false_iff_ne] at e45; exact e45 (UInt8.toNat.inj e)) (by omega)
          have HV : Hid (m = false) := Lib.hid (by rw [HT.out, e46, e45, decide_eq_false a1, decide_eq_false b1]; rfl)
          clear HT
          go_enter Try.func36, Try.ntmps36
          go_wp2_with fail
          go_ret
          exact ⟨by rw [HV.out] <;> rfl, by first | rfl | trivial⟩

set_option maxHeartbeats 4000000 in
theorem name_same (s : List UInt8) (hl : s.length ≤ 9223372036854775807) (w : World) :
    Calls Try.prog 24 #[.string ⟨s.toArray⟩] w fun e w' => e = .returned (.bool (nameB s)) ∧ w' = w := by
  have HA := Lib.hid (name_fits s)
  have HF := Lib.hid (fun W => fits_any s hl W)
  have HO := Lib.hid (fun c W => ofName_any c W)
  generalize nameB s = m at HA ⊢
  generalize fitsB s = f at HA HF
  cases f with
  | false =>
    have HV : Hid (m = false) := Lib.hid (by rw [HA.out]; rfl)
    go_enter Try.func24, Try.ntmps24
    go_wp2_with (go_at_call 33; refine (HF.out _).mono ?_; rintro e w1 ⟨rfl, h⟩; obtain rfl := h.symm; clear HF)
    go_ret
    exact ⟨by rw [HV.out] <;> rfl, by first | rfl | trivial⟩
  | true =>
    have HM : Hid (m = s.all nameC) := Lib.hid (by rw [HA.out, Bool.true_and])
    clear HA
    go_enter Try.func24, Try.ntmps24
    go_wp2_with (go_at_call 33; refine (HF.out _).mono ?_; rintro e w1 ⟨rfl, h⟩; obtain rfl := h.symm; clear HF)
    go_loopw [9] (fun x9 wr => ∃ (k : Nat), x9 = .int .i64 (k : Int) ∧ k ≤ s.length ∧ Hid ((s.take k).all nameC = true) ∧ Hid (wr = w)) (fun i _ => s.length - (intOf i).toNat)
    case atStart => exact ⟨0, rfl, Nat.zero_le _, Lib.hid (by simp), by first | exact Lib.hid rfl | exact Lib.hid trivial⟩
    case round =>
      obtain ⟨k, rfl, hk, HC, HW⟩ := hrel
      obtain rfl := HW.out
      by_cases hlt : k < s.length
      · have hsz : k < (ByteArray.mk s.toArray).size := by simpa [ByteArray.size] using hlt
        have hji : (k : Int) < (s.length : Int) := by omega
        have HK : Hid (k + 1 ≤ s.length) := Lib.hid hlt
        obtain ⟨ch, hcx⟩ : ∃ c : UInt8, (ByteArray.mk s.toArray)[k]'hsz = c := ⟨_, rfl⟩
        have hc0 : s[k]'hlt = ch := hcx
        have HX : Hid (nameC ch = false → m = false) := Lib.hid (fun h => by rw [HM.out, each_no hlt (by rw [hc0]; exact h)])
        have HN : Hid (nameC ch = true → (s.take (k + 1)).all nameC = true) := Lib.hid (fun h => by rw [each_next hlt, HC.out, hc0, h]; rfl)
        have HQ := Lib.hid (fun W => HO.out ch W)
        clear hc0
        generalize nameC ch = q at HX HN HQ
        cases q with
        | false =>
          have HV := Lib.hid (HX.out rfl)
          clear HX HN
          go_wp2_with (go_at_call 36; refine (HQ.out _).mono ?_; rintro e w1 ⟨rfl, h⟩; obtain rfl := h.symm; clear HQ)
          go_ret
          exact ⟨by rw [HV.out] <;> rfl, by first | rfl | trivial⟩
        | true =>
          have HV := Lib.hid (HN.out rfl)
          clear HX HN
          go_wp2_with (go_at_call 36; refine (HQ.out _).mono ?_; rintro e w1 ⟨rfl, h⟩; obtain rfl := h.symm; clear HQ)
          go_roundw
          case rel => exact ⟨k + 1, by go_num, HK.out, HV, by first | exact Lib.hid rfl | exact Lib.hid trivial⟩
          case measure => have := HK.out; simp [intOf]; omega
      · have hji : ¬ (k : Int) < (s.length : Int) := by omega
        have HV : Hid (m = true) := Lib.hid (by rw [HM.out, ← List.take_of_length_le (l := s) (i := k) (by omega), HC.out])
        go_wp2_with fail
        go_ret
        exact ⟨by rw [HV.out] <;> rfl, by first | rfl | trivial⟩

theorem has_blank (s : List UInt8) : decide (0 ≤ Lib.indexByte s 32) = !(s.all (· != 32)) := by
  rw [← Lib.contains_iff_indexByte]
  induction s with
  | nil => rfl
  | cons c r ih =>
    rw [List.contains_cons, ih, List.all_cons, Bool.not_and, bne, Bool.not_not, Bool.beq_comm]
theorem contains_any (s : List UInt8) (w : World) :
    Calls Try.prog 35 #[.string ⟨s.toArray⟩, .string ⟨#[32]⟩] w fun e w' => e = .returned (.bool (!(s.all (· != 32)))) ∧ w' = w := by
  have h := Try.strings_Contains_one ⟨s.toArray⟩ 32 w
  rw [show (ByteArray.mk s.toArray).data.toList = s from by simp, has_blank] at h
  exact h

set_option maxHeartbeats 4000000 in
theorem user_same (s : List UInt8) (hl : s.length ≤ 9223372036854775807) (w : World) :
    Calls Try.prog 23 #[.string ⟨s.toArray⟩] w fun e w' => e = .returned (.bool (userB s)) ∧ w' = w := by
  have HA := Lib.hid (user_fits s)
  have HF := Lib.hid (fun W => fits_any s hl W)
  have HC := Lib.hid (fun W => clean_same s hl W)
  have HB := Lib.hid (fun W => contains_any s W)
  generalize userB s = m at HA ⊢
  generalize fitsB s = f at HA HF
  generalize clean s = c at HA HC
  generalize s.all (· != 32) = b at HA HB
  cases f with
  | false =>
    have HV : Hid (m = false) := Lib.hid (by rw [HA.out]; rfl)
    go_enter Try.func23, Try.ntmps23
    go_wp2_with (first
      | (go_at_call 33; refine (HF.out _).mono ?_; rintro e w1 ⟨rfl, h⟩; obtain rfl := h.symm; clear HF)
      | (go_at_call 34; refine (HC.out _).mono ?_; rintro e w1 ⟨rfl, h⟩; obtain rfl := h.symm; clear HC)
      | (go_at_call 35; refine (HB.out _).mono ?_; rintro e w1 ⟨rfl, h⟩; obtain rfl := h.symm; clear HB))
    go_ret
    exact ⟨by rw [HV.out] <;> rfl, by first | rfl | trivial⟩
  | true =>
    cases c with
    | false =>
      have HV : Hid (m = false) := Lib.hid (by rw [HA.out]; rfl)
      go_enter Try.func23, Try.ntmps23
      go_wp2_with (first
        | (go_at_call 33; refine (HF.out _).mono ?_; rintro e w1 ⟨rfl, h⟩; obtain rfl := h.symm; clear HF)
        | (go_at_call 34; refine (HC.out _).mono ?_; rintro e w1 ⟨rfl, h⟩; obtain rfl := h.symm; clear HC)
        | (go_at_call 35; refine (HB.out _).mono ?_; rintro e w1 ⟨rfl, h⟩; obtain rfl := h.symm; clear HB))
      go_ret
      exact ⟨by rw [HV.out] <;> rfl, by first | rfl | trivial⟩
    | true =>
      cases b with
      | false =>
        have HV : Hid (m = false) := Lib.hid (by rw [HA.out]; rfl)
        go_enter Try.func23, Try.ntmps23
        go_wp2_with (first
          | (go_at_call 33; refine (HF.out _).mono ?_; rintro e w1 ⟨rfl, h⟩; obtain rfl := h.symm; clear HF)
          | (go_at_call 34; refine (HC.out _).mono ?_; rintro e w1 ⟨rfl, h⟩; obtain rfl := h.symm; clear HC)
          | (go_at_call 35; refine (HB.out _).mono ?_; rintro e w1 ⟨rfl, h⟩; obtain rfl := h.symm; clear HB))
        go_ret
        exact ⟨by rw [HV.out] <;> rfl, by first | rfl | trivial⟩
      | true =>
        have HV : Hid (m = true) := Lib.hid (by rw [HA.out]; rfl)
        go_enter Try.func23, Try.ntmps23
        go_wp2_with (first
          | (go_at_call 33; refine (HF.out _).mono ?_; rintro e w1 ⟨rfl, h⟩; obtain rfl := h.symm; clear HF)
          | (go_at_call 34; refine (HC.out _).mono ?_; rintro e w1 ⟨rfl, h⟩; obtain rfl := h.symm; clear HC)
          | (go_at_call 35; refine (HB.out _).mono ?_; rintro e w1 ⟨rfl, h⟩; obtain rfl := h.symm; clear HB))
        go_ret
        exact ⟨by rw [HV.out] <;> rfl, by first | rfl | trivial⟩

/-- what holds where the loop is left for the label: the text ahead of the last sign, and the one behind it -/
def AtSign (s : List UInt8) (w : World) (a' : Act) (w' : World) : Prop := Below w.heap.size w w' ∧ ∃ (a b : List UInt8) (u1 u7 u8 u9 u10 u11 u12 u13 u14 u15 u16 u17 u18 u19 u20 u21 u22 u23 u24 u25 u26 u27 u28 u29 u30 u31 u32 u33 u34 u35 : Value), Hid (splitR s = if userB a && nameB b then (a, b, true) else ([], [], false)) ∧ a.length ≤ 100000 ∧ b.length ≤ 100000 ∧ a' = { tmps := #[.string ⟨s.toArray⟩, u1, .string ⟨#[]⟩, .string ⟨#[]⟩, .bool false, .string ⟨a.toArray⟩, .string ⟨b.toArray⟩, u7, u8, u9, u10, u11, u12, u13, u14, u15, u16, u17, u18, u19, u20, u21, u22, u23, u24, u25, u26, u27, u28, u29, u30, u31, u32, u33, u34, u35], defers := [] }

set_option maxHeartbeats 8000000 in
theorem split_any (s : List UInt8) (hl : s.length ≤ 100000) (w : World) :
    Calls Try.prog 26 #[.string ⟨s.toArray⟩] w fun e w' => e = .returned (splitV s) ∧ Below w.heap.size w w' := by
  have HN : Hid ((64 : UInt8) ∉ s → splitV s = .tuple #[.string ⟨#[]⟩, .string ⟨#[]⟩, .bool false]) := Lib.hid (fun h => split_empty (split_none (cut_none h)))
  have HT : Hid (∀ j (hj : j < s.length), s[j] = 64 → (64 : UInt8) ∉ s.drop (j + 1) → splitR s = if userB (s.take j) && nameB (s.drop (j + 1)) then (s.take j, s.drop (j + 1), true) else ([], [], false)) := Lib.hid (fun j hj h1 h2 => split_of (cut_at hj h1 h2))
  go_enter Try.func26, Try.ntmps26
  go_wp2_with fail
  refine wp_scope_jumps 0 (AtSign s w) (fun _ _ => 0) rfl ?_ ?_
  · go_wp2_with fail
    go_loopw [7] (fun x7 wr => ∃ (z : Int), x7 = .int .i64 z ∧ -1 ≤ z ∧ z < (s.length : Int) ∧ Hid ((64 : UInt8) ∉ s.drop (z + 1).toNat) ∧ Hid (wr = w)) (fun i _ => (intOf i + 1).toNat)
    case atStart => exact ⟨(s.length : Int) - 1, by go_num, by omega, by omega, Lib.hid (by rw [show ((s.length : Int) - 1 + 1).toNat = s.length from by omega, List.drop_length]; simp), by first | exact Lib.hid rfl | exact Lib.hid trivial⟩
    case round =>
      obtain ⟨z, rfl, hz0, hz1, HF, HW⟩ := hrel
      obtain rfl := HW.out
      by_cases hz : z = -1
      · subst hz
        have HV := Lib.hid (HN.out (by have h := HF.out; rwa [show ((-1 : Int) + 1).toNat = 0 from rfl, List.drop_zero] at h))
        go_wp2_with fail
        go_ret3
        exact ⟨by rw [HV.out] <;> rfl, Below.refl _ _⟩
      · obtain ⟨j, rfl⟩ : ∃ j : Nat, z = (j : Int) := ⟨z.toNat, by omega⟩
        have hj : j < s.length := by omega
        have HF2 : Hid ((64 : UInt8) ∉ s.drop (j + 1)) := Lib.hid (by have h := HF.out; rwa [show ((j : Int) + 1).toNat = j + 1 from by omega] at h)
        have hsz : j < (ByteArray.mk s.toArray).size := by simpa [ByteArray.size] using hj
        have g0 : (0 : Int) ≤ (j : Int) := by omega
        obtain ⟨ch, hcx⟩ : ∃ c : UInt8, (ByteArray.mk s.toArray)[j]'hsz = c := ⟨_, rfl⟩
        have hc0 : s[j]'hj = ch := hcx
        have HC := Lib.hid hc0
        clear HF hz hc0
        cases h4 : (ch == (64 : UInt8)) with
        | false =>
          have g4 : ((ch.toNat : Int) == 64) = false := by rw [beq_eq_false_iff_ne]; intro e; rw [beq_eq_false_iff_ne] at h4; exact h4 (UInt8.toNat.inj (by show ch.toNat = 64; omega))
          have HV : Hid ((64 : UInt8) ∉ s.drop ((j : Int) - 1 + 1).toNat) := Lib.hid (by
            rw [show ((j : Int) - 1 + 1).toNat = j from by omega, List.drop_eq_getElem_cons hj, HC.out]
            intro h
            rcases List.mem_cons.1 h with h | h
            · rw [← h] at h4; exact absurd h4 (by decide)
            · exact HF2.out h)
          clear h4
          go_wp2_with fail
          go_roundw
          case rel => exact ⟨(j : Int) - 1, by go_num, by omega, by omega, HV, by first | exact Lib.hid rfl | exact Lib.hid trivial⟩
          case measure => simp [intOf] <;> omega
        | true =>
          have g4 : ((ch.toNat : Int) == 64) = true := by rw [beq_iff_eq] at h4; subst h4; rfl
          have HS := Lib.hid (HT.out j hj (by rw [HC.out]; exact beq_iff_eq.1 h4) HF2.out)
          have hx1 := take_str s j
          have hx2 := drop_str s (j + 1)
          have n1 : j ≤ s.length := by omega
          have n2 : (j : Int) + 1 ≤ (s.length : Int) := by omega
          have n3 : j + 1 ≤ s.length := by omega
          have HA : Hid ((s.take j).length ≤ 100000) := Lib.hid (by rw [List.length_take]; omega)
          have HB : Hid ((s.drop (j + 1)).length ≤ 100000) := Lib.hid (by rw [List.length_drop]; omega)
          generalize s.take j = a at HS hx1 HA
          generalize s.drop (j + 1) = b at HS hx2 HB
          clear h4 HN HT HC HF2
          go_wp2_with fail
          go_quiet (fail)
          go_wp2_with fail
          go_step3
          refine (show 0 = 0 ∧ AtSign s _ _ _ from ⟨rfl, ?_⟩)
          exact ⟨⟨rfl, rfl, rfl, Nat.le_refl _, fun _ _ => rfl⟩, a, b, _, _, _, _, _, _, _, _, _, _, _, _, _, _, _, _, _, _, _, _, _, _, _, _, _, _, _, _, _, _, HS, HA.out, HB.out, rfl⟩
  · rintro a' w' ⟨hb, a, b, u1, u7, u8, u9, u10, u11, u12, u13, u14, u15, u16, u17, u18, u19, u20, u21, u22, u23, u24, u25, u26, u27, u28, u29, u30, u31, u32, u33, u34, u35, HS, ha, hb2, rfl⟩
    have B := Lib.hid hb
    have HU := Lib.hid (fun W => user_same a (by omega) W)
    have HM := Lib.hid (fun W => name_same b (by omega) W)
    generalize userB a = p at HS HU
    generalize nameB b = q at HS HM
    clear HN HT hb
    cases p with
    | false =>
      have HV := Lib.hid (split_empty HS.out)
      go_wp2_with (first
        | (go_at_call 23; refine (HU.out _).mono ?_; rintro e w1 ⟨rfl, h⟩; obtain rfl := h.symm; clear HU)
        | (go_at_call 24; refine (HM.out _).mono ?_; rintro e w1 ⟨rfl, h⟩; obtain rfl := h.symm; clear HM))
      rw [jump_ret]
      show bodyPost _ _ _ _ _ _
      go_ret3
      exact ⟨by rw [HV.out] <;> rfl, B.out⟩
    | true =>
      cases q with
      | false =>
        have HV := Lib.hid (split_empty HS.out)
        go_wp2_with (first
          | (go_at_call 23; refine (HU.out _).mono ?_; rintro e w1 ⟨rfl, h⟩; obtain rfl := h.symm; clear HU)
          | (go_at_call 24; refine (HM.out _).mono ?_; rintro e w1 ⟨rfl, h⟩; obtain rfl := h.symm; clear HM))
        rw [jump_ret]
        show bodyPost _ _ _ _ _ _
        go_ret3
        exact ⟨by rw [HV.out] <;> rfl, B.out⟩
      | true =>
        have HV : Hid (splitV s = .tuple #[.string ⟨a.toArray⟩, .string ⟨b.toArray⟩, .bool true]) := Lib.hid (by unfold splitV; rw [HS.out]; rfl)
        go_wp2_with (first
          | (go_at_call 23; refine (HU.out _).mono ?_; rintro e w1 ⟨rfl, h⟩; obtain rfl := h.symm; clear HU)
          | (go_at_call 24; refine (HM.out _).mono ?_; rintro e w1 ⟨rfl, h⟩; obtain rfl := h.symm; clear HM))
        rw [jump_ret]
        show bodyPost _ _ _ _ _ _
        go_ret3
        exact ⟨by rw [HV.out] <;> rfl, B.out⟩

set_option maxHeartbeats 4000000 in
theorem find_any (u : Value) (l : List (List UInt8)) (h : List UInt8) (w : World) (HH : HostsIs w u l) :
    Calls Try.prog 25 #[u, .string ⟨h.toArray⟩] w fun e w' => e = .returned (.int .i64 (findH l h)) ∧ Below w.heap.size w w' := by
  have hmax := HH.max
  obtain ⟨p, n, c, rfl, hn⟩ := HH.form
  have HN := Lib.hid hn
  have HR := Lib.hid HH
  rw [← hn] at hmax
  clear hn HH
  go_enter Try.func25, Try.ntmps25
  go_wp2_with fail
  go_loopw [8] (fun x8 wr => ∃ (i : Nat), x8 = .int .i64 (i : Int) ∧ i ≤ n ∧ Hid (∀ j (hj : j < l.length), j < i → l[j] ≠ h) ∧ Hid (wr = w)) (fun i _ => n - (intOf i).toNat)
  case atStart => exact ⟨0, rfl, Nat.zero_le _, Lib.hid (fun _ _ h => absurd h (by omega)), by first | exact Lib.hid rfl | exact Lib.hid trivial⟩
  case round =>
    obtain ⟨i, rfl, hi, HO, HW⟩ := hrel
    obtain rfl := HW.out
    by_cases hlt : i < n
    · have hil : i < l.length := by rw [← HN.out]; exact hlt
      have hji : (i : Int) < (n : Int) := by omega
      have HK : Hid (i + 1 ≤ n) := Lib.hid hlt
      obtain ⟨b, o, rfl, hbl, hcell⟩ := HR.out.some (by omega)
      have e1 := hcell i hil
      have HX : Hid (l[i] = h → findH l h = (i : Int)) := Lib.hid (fun e => find_at hil e HO.out)
      have HN2 : Hid (l[i] ≠ h → ∀ j (hj : j < l.length), j < i + 1 → l[j] ≠ h) := Lib.hid (fun hne j hj hji => by
        by_cases e : j = i
        · subst e; exact hne
        · exact HO.out j hj (by omega))
      clear hcell
      generalize l[i] = t at *
      cases h1 : (t == h) with
      | true =>
        have HV := Lib.hid (HX.out (beq_iff_eq.1 h1))
        clear HX HN2
        go_wp2_with fail
        go_ret
        exact ⟨by rw [HV.out] <;> rfl, Below.refl _ _⟩
      | false =>
        have HV := Lib.hid (HN2.out (beq_eq_false_iff_ne.1 h1))
        clear HX HN2
        go_wp2_with fail
        go_roundw
        case rel => exact ⟨i + 1, by go_num, HK.out, HV, by first | exact Lib.hid rfl | exact Lib.hid trivial⟩
        case measure => have := HK.out; simp [intOf]; omega
    · have hji : ¬ (i : Int) < (n : Int) := by omega
      have HV : Hid (findH l h = -1) := Lib.hid (find_none (fun j hj => HO.out j hj (by have := HN.out; omega)))
      go_wp2_with fail
      go_ret
      exact ⟨by rw [HV.out] <;> rfl, Below.refl _ _⟩

theorem route_name (s : List UInt8) (hl : s.length ≤ 100000) (w : World) (E : Env w) :
    Calls Try.prog 24 #[.string ⟨s.toArray⟩] w fun e w' => e = .returned (.bool (nameB s)) ∧ Below w.heap.size w w' :=
  (name_same s (by omega) w).mono fun _ _ h => ⟨h.1, h.2 ▸ Below.refl _ _⟩
theorem route_user (s : List UInt8) (hl : s.length ≤ 100000) (w : World) (E : Env w) :
    Calls Try.prog 23 #[.string ⟨s.toArray⟩] w fun e w' => e = .returned (.bool (userB s)) ∧ Below w.heap.size w w' :=
  (user_same s (by omega) w).mono fun _ _ h => ⟨h.1, h.2 ▸ Below.refl _ _⟩
theorem route_split (s : List UInt8) (hl : s.length ≤ 100000) (w : World) (E : Env w) :
    Calls Try.prog 26 #[.string ⟨s.toArray⟩] w fun e w' => e = .returned (.tuple #[.string ⟨(splitR s).1.toArray⟩, .string ⟨(splitR s).2.1.toArray⟩, .bool (splitR s).2.2]) ∧ Below w.heap.size w w' := split_any s hl w
theorem route_find (u : Value) (l : List (List UInt8)) (h : List UInt8) (w : World) (E : Env w) (H : HostsIs w u l) :
    Calls Try.prog 25 #[u, .string ⟨h.toArray⟩] w fun e w' => e = .returned (.int .i64 (findH l h)) ∧ Below w.heap.size w w' := find_any u l h w H

#print axioms route_name
#print axioms route_user
#print axioms route_split
#print axioms route_find
end Go.Proofs.Ytkkajbnonfnbjaa.Ro
