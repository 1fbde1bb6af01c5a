/- The law's own question of layer 16: no two a port in common, no tenant more than it may (gen-stage16b.py). -/
import Derived.Test.YtaahghjllfkmaaaHoleAwake
import Derived.BigQuiet
import Derived.Deep.QuietTactic
namespace Go.Proofs.Ytaahghjllfkmaaa.Hl
open Go.Proofs.Ytaahghjllfkmaaa
open Go Go.ChangeShapes Go.WideShapes Go.ChangeAt Go.RowKit
set_option maxRecDepth 100000
set_option linter.unusedSimpArgs false
set_option linter.unusedVariables false

set_option maxHeartbeats 8000000 in
theorem fine_any (u : Value) (l : List Ho) (most : Int) (hl : l.length ≤ 100000) (b : Bool) (hb : fineB l most = b) (w : World) (H : HolesIs w u l) :
    Calls Try.prog 25 #[u, .int .i64 most] w fun e w' => e = .returned (.bool b) ∧ Below w.heap.size w w' := by
  obtain ⟨p, n, c, rfl, hn⟩ := H.form
  have HN := Lib.hid hn
  have HR := Lib.hid H
  have hn9 : n ≤ 100000 := by omega
  have HE : Hid ((∀ j (hj : j < l.length), fineAt l most j l[j]) → b = true) := Lib.hid (fun h => by rw [← hb]; exact decide_eq_true h)
  have HA : Hid (∀ i (hi : i < l.length), ¬ fineAt l most i l[i] → b = false) := Lib.hid (fun i hi h => by rw [← hb]; exact decide_eq_false (fun hf => h (hf i hi)))
  clear hn H hb
  go_enter Try.func25, Try.ntmps25
  go_wp2_with fail
  go_loopw [5] (fun x5 wr => ∃ (i : Nat), x5 = .int .i64 (i : Int) ∧ i ≤ n ∧ Hid (∀ j (hj : j < l.length), j < i → fineAt l most j l[j]) ∧ Hid (Below w.heap.size w wr)) (fun i _ => n - (intOf i).toNat)
  case atStart => exact ⟨0, rfl, Nat.zero_le _, Lib.hid (fun j _ h => absurd h (Nat.not_lt_zero j)), Lib.hid (Below.refl _ _)⟩
  case round =>
    obtain ⟨i, rfl, hi, HO, HB⟩ := hrel
    by_cases hlt : i < n
    · have hji : (i : Int) < (n : Int) := by omega
      have HKN : Hid (i + 1 ≤ n) := Lib.hid hlt
      have hil : i < l.length := by rw [← HN.out]; exact hlt
      have HIL := Lib.hid hil
      have HAI : Hid (¬ ((∀ k (hk : k < l.length), k ≠ i → l[k].port ≠ l[i].port) ∧ (tens l l[i].ten : Int) ≤ most) → b = false) := Lib.hid (HA.out i hil)
      have HNX : Hid ((∀ k (hk : k < l.length), k ≠ i → l[k].port ≠ l[i].port) ∧ (tens l l[i].ten : Int) ≤ most → ∀ j (hj : j < l.length), j < i + 1 → fineAt l most j l[j]) := Lib.hid (fun h j hj hjk => by
        by_cases e : j = i
        · subst e; exact h
        · exact HO.out j hj (by omega))
      have HSM : Hid (∀ k (hk : k < l.length), k = i → l[k] = l[i]) := Lib.hid (fun k hk e => by subst e; rfl)
      have HCL : Hid (∀ W, Below w.heap.size w W → ∃ b1 o1, p = some ⟨b1, o1, none⟩ ∧ b1 < W.heap.size ∧ HoleAt W b1 (o1 + i * 13) l[i] ∧ ∀ k (hk : k < l.length), HoleAt W b1 (o1 + k * 13) l[k]) := Lib.hid (fun W hB => by
        obtain ⟨b1, o1, e, h1, h2⟩ := (HR.out.call hB).some (by omega)
        exact ⟨b1, o1, e, h1, h2 i hil, h2⟩)
      generalize l[i] = y at *
      go_wp2_with fail
      go_loopw [6, 7] (fun x6 x7 wr => ∃ (k c0 : Nat), x6 = .int .i64 (c0 : Int) ∧ x7 = .int .i64 (k : Int) ∧ k ≤ n ∧ Hid (c0 = tens (l.take k) y.ten) ∧ Hid (∀ j (hj : j < l.length), j < k → j ≠ i → l[j].port ≠ y.port) ∧ Hid (Below w.heap.size w wr)) (fun _ i _ => n - (intOf i).toNat)
      case atStart => exact ⟨0, 0, rfl, rfl, Nat.zero_le _, Lib.hid rfl, Lib.hid (fun j _ h => absurd h (Nat.not_lt_zero j)), HB⟩
      case round =>
        obtain ⟨k, c0, rfl, rfl, hk, HT0, HP, HB2⟩ := hrel
        have hc9 : c0 ≤ 100000 := by have := HT0.out; have := tens_le (l.take k) y.ten; rw [List.length_take] at this; omega
        by_cases hkt : k < n
        · have hjk : (k : Int) < (n : Int) := by omega
          have HKK : Hid (k + 1 ≤ n) := Lib.hid hkt
          have hkl : k < l.length := by rw [← HN.out]; exact hkt
          obtain ⟨b1, o1, rfl, hbl, T1, hcell⟩ := HCL.out _ HB2.out
          have T2 := hcell k hkl
          have a0 := T1.c0; have a2 := T1.c2
          have d0 := T2.c0; have d2 := T2.c2
          have HTN := Lib.hid (tens_next (t := y.ten) hkl)
          have HAK : Hid (k ≠ i → l[k].port = y.port → b = false) := Lib.hid (fun h1 h2 => HAI.out (fun h => h.1 k hkl h1 h2))
          have HPN : Hid ((k ≠ i → l[k].port ≠ y.port) → ∀ j (hj : j < l.length), j < k + 1 → j ≠ i → l[j].port ≠ y.port) := Lib.hid (fun h j hj hjk hne => by
            by_cases e : j = k
            · subst e; exact h hne
            · exact HP.out j hj (by omega) hne)
          clear T1 T2 hcell
          generalize l[k] = x at *
          by_cases e : k = i
          · have g1 : ((k : Int) != (i : Int)) = false := by rw [bne_eq_false_iff_eq]; omega
            have HP2 := Lib.hid (HPN.out (fun h => absurd e h))
            clear e HPN HAK
            cases h2 : (x.ten == y.ten) with
            | true =>
              have HT2 : Hid (c0 + 1 = tens (l.take (k + 1)) y.ten) := Lib.hid (by rw [HTN.out, h2, HT0.out]; rfl)
              clear HTN
              go_wp2_with fail
              go_quiet (fail)
              go_wp2_with fail
              go_quiet (fail)
              go_wp2_with fail
              go_roundw
              case rel => exact ⟨k + 1, c0 + 1, by go_num, by go_num, HKK.out, HT2, HP2, Lib.hid ((HB2.out.trans ⟨rfl, rfl, rfl, Nat.le_refl _, fun _ _ => rfl⟩).trans ⟨rfl, rfl, rfl, Nat.le_refl _, fun _ _ => rfl⟩)⟩
              case measure => have := HKK.out; simp [intOf]; omega
            | false =>
              have HT2 : Hid (c0 = tens (l.take (k + 1)) y.ten) := Lib.hid (by rw [HTN.out, h2, HT0.out]; rfl)
              clear HTN
              go_wp2_with fail
              go_quiet (fail)
              go_wp2_with fail
              go_quiet (fail)
              go_wp2_with fail
              go_roundw
              case rel => exact ⟨k + 1, c0, by go_num, by go_num, HKK.out, HT2, HP2, Lib.hid ((HB2.out.trans ⟨rfl, rfl, rfl, Nat.le_refl _, fun _ _ => rfl⟩).trans ⟨rfl, rfl, rfl, Nat.le_refl _, fun _ _ => rfl⟩)⟩
              case measure => have := HKK.out; simp [intOf]; omega
          · have g1 : ((k : Int) != (i : Int)) = true := by rw [bne_iff_ne]; omega
            cases h1 : (x.port == y.port) with
            | true =>
              have HV := Lib.hid (HAK.out e (beq_iff_eq.1 h1))
              clear HPN HAK e HTN
              go_wp2_with fail
              go_quiet (fail)
              go_wp2_with fail
              go_ret
              exact ⟨by rw [HV.out] <;> rfl, HB2.out.trans ⟨rfl, rfl, rfl, Nat.le_refl _, fun _ _ => rfl⟩⟩
            | false =>
              have HP2 := Lib.hid (HPN.out (fun _ => beq_eq_false_iff_ne.1 h1))
              clear e HPN HAK
              cases h2 : (x.ten == y.ten) with
              | true =>
                have HT2 : Hid (c0 + 1 = tens (l.take (k + 1)) y.ten) := Lib.hid (by rw [HTN.out, h2, HT0.out]; rfl)
                clear HTN
                go_wp2_with fail
                go_quiet (fail)
                go_wp2_with fail
                go_quiet (fail)
                go_wp2_with fail
                go_roundw
                case rel => exact ⟨k + 1, c0 + 1, by go_num, by go_num, HKK.out, HT2, HP2, Lib.hid ((HB2.out.trans ⟨rfl, rfl, rfl, Nat.le_refl _, fun _ _ => rfl⟩).trans ⟨rfl, rfl, rfl, Nat.le_refl _, fun _ _ => rfl⟩)⟩
                case measure => have := HKK.out; simp [intOf]; omega
              | false =>
                have HT2 : Hid (c0 = tens (l.take (k + 1)) y.ten) := Lib.hid (by rw [HTN.out, h2, HT0.out]; rfl)
                clear HTN
                go_wp2_with fail
                go_quiet (fail)
                go_wp2_with fail
                go_quiet (fail)
                go_wp2_with fail
                go_roundw
                case rel => exact ⟨k + 1, c0, by go_num, by go_num, HKK.out, HT2, HP2, Lib.hid ((HB2.out.trans ⟨rfl, rfl, rfl, Nat.le_refl _, fun _ _ => rfl⟩).trans ⟨rfl, rfl, rfl, Nat.le_refl _, fun _ _ => rfl⟩)⟩
                case measure => have := HKK.out; simp [intOf]; omega
        · have hjk : ¬ (k : Int) < (n : Int) := by omega
          have hkE : l.take k = l := List.take_of_length_le (by have := HN.out; omega)
          rw [hkE] at HT0
          have HPA : Hid (∀ j (hj : j < l.length), j ≠ i → l[j].port ≠ y.port) := Lib.hid (fun j hj h => HP.out j hj (by have := HN.out; omega) h)
          clear hkE
          by_cases hq : most < (c0 : Int)
          · have HV := Lib.hid (HAI.out (fun h => by have := h.2; rw [← HT0.out] at this; omega))
            go_wp2_with fail
            go_ret
            exact ⟨by rw [HV.out] <;> rfl, HB2.out⟩
          · have HV := Lib.hid (HNX.out ⟨HPA.out, by rw [← HT0.out]; omega⟩)
            go_wp2_with fail
            go_roundw
            case rel => exact ⟨i + 1, by go_num, HKN.out, HV, HB2⟩
            case measure => have := HKN.out; simp [intOf]; omega
    · have hji : ¬ (i : Int) < (n : Int) := by omega
      have HV := Lib.hid (HE.out (fun j hj => HO.out j hj (by have := HN.out; omega)))
      clear HA HE
      go_wp2_with fail
      go_ret
      exact ⟨by rw [HV.out] <;> rfl, HB.out⟩

#print axioms fine_any
end Go.Proofs.Ytaahghjllfkmaaa.Hl
