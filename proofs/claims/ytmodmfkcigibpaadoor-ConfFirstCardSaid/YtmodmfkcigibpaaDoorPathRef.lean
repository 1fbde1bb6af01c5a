/- The contracts of the document's answer of layer 10: wharfingerref10's Parts, May, Under. -/
import Derived.Test.YtmodmfkcigibpaaDoorPlains
import Derived.Test.YtmodmfkcigibpaaDoorCutRef
import Derived.Test.YtmodmfkcigibpaaDoorClean
import Derived.BigQuiet
import Derived.Deep.QuietTactic
namespace Go.Proofs.YtmodmfkcigibpaaDoor.Pt
open Go.Proofs.YtmodmfkcigibpaaDoor Go.Proofs.YtmodmfkcigibpaaDoor.Cm Go.Proofs.YtmodmfkcigibpaaDoor.Quad
open Go Go.ChangeShapes Go.WideShapes Go.ChangeAt Go.RowKit
set_option maxRecDepth 100000
set_option linter.unusedSimpArgs false

set_option maxHeartbeats 2000000 in
theorem rparts_any (s : List UInt8) (hl : s.length ≤ 100000) (w : World) :
    Calls Tryd.prog 58 #[.string ⟨s.toArray⟩] w fun e w' => ∃ p n k, e = .returned (.slice p n k) ∧ n = (parts s).length ∧ OwnStrs w.heap.size w' (.slice p n k) (parts s) ∧ Below w.heap.size w w' := by
  by_cases h : s.length < 2
  · have g : (s.length : Int) < 2 := by omega
    have hp : parts s = [] := by unfold parts; rw [if_pos h]
    rw [hp]
    clear hp h
    go_enter Tryd.func58, Tryd.ntmps58
    go_wp2_with fail
    go_ret
    exact ⟨_, _, _, rfl, rfl, OwnStrs.nil _ _, Below.refl _ _⟩
  · have g : ¬ (s.length : Int) < 2 := by omega
    have g1 : (1 : Int) ≤ (s.length : Int) := by omega
    have hp : parts s = cutL 47 (s.drop 1) := by unfold parts; rw [if_neg h]
    have HC := Lib.hid (fun W => rcut_own 47 47 rfl (s.drop 1) (by rw [List.length_drop]; omega) W)
    rw [← hp] at HC
    have hx : (ByteArray.mk s.toArray).extract 1 s.length = ⟨(s.drop 1).toArray⟩ := by
      apply ByteArray.ext
      rw [ByteArray.data_extract]
      show s.toArray.extract 1 s.length = (s.drop 1).toArray
      rw [List.extract_toArray, List.extract_eq_take_drop, List.take_of_length_le (by rw [List.length_drop]; omega)]
    generalize s.drop 1 = r at HC hx hp
    generalize parts s = ps at HC ⊢
    clear hp h
    go_enter Tryd.func58, Tryd.ntmps58
    go_wp2_with (go_at_call 62; refine (HC.out _).mono ?_; rintro e w1 ⟨p, n, k, rfl, hn, ho, b1⟩; have HN := Lib.hid hn; have HO := Lib.hid ho; clear hn ho)
    go_ret
    exact ⟨_, _, _, rfl, HN.out, HO.out, b1⟩

theorem all_next {l : Ps} {k : Nat} (h : k < l.length) : (l.take (k + 1)).all okP = ((l.take k).all okP && okP l[k]) := by
  rw [List.take_succ_eq_append_getElem h, List.all_append, List.all_cons, List.all_nil, Bool.and_true]
theorem all_no {l : Ps} {k : Nat} (h : k < l.length) (ho : okP l[k] = false) : l.all okP = false := by
  cases hc : l.all okP with
  | false => rfl
  | true => rw [List.all_eq_true.1 hc _ (List.getElem_mem h)] at ho; cases ho
theorem may_eq (s : List UInt8) : mayP s = (clean s && (decide (s.length ≤ 200) && (slash s && (parts s).all okP))) := rfl

set_option maxHeartbeats 8000000 in
theorem rmay_any (s : List UInt8) (hl : s.length ≤ 100000) (w : World) :
    Calls Tryd.prog 48 #[.string ⟨s.toArray⟩] w fun e w' => e = .returned (.bool (mayP s)) ∧ Below w.heap.size w w' := by
  have HC := Lib.hid (fun W => rclean_same s (by omega) W)
  have HP := Lib.hid (fun W => rparts_any s hl W)
  have HM := may_eq s
  generalize parts s = l at HP HM
  generalize mayP s = m at HM ⊢
  cases hc : clean s with
  | false =>
    rw [hc] at HC HM
    have HV := Lib.hid HM
    clear HM hc
    go_enter Tryd.func48, Tryd.ntmps48
    go_wp2_with (go_at_call 46; refine (HC.out _).mono ?_; rintro e w1 ⟨rfl, rfl⟩)
    go_ret
    exact ⟨by rw [HV.out] <;> rfl, Below.refl _ _⟩
  | true =>
    rw [hc, Bool.true_and] at HM
    rw [hc] at HC
    clear hc
    by_cases h2 : 200 < s.length
    · have g2 : (200 : Int) < (s.length : Int) := by omega
      rw [decide_eq_false (by omega)] at HM
      have HV := Lib.hid HM
      clear HM h2
      go_enter Tryd.func48, Tryd.ntmps48
      go_wp2_with (go_at_call 46; refine (HC.out _).mono ?_; rintro e w1 ⟨rfl, rfl⟩)
      go_ret
      exact ⟨by rw [HV.out] <;> rfl, Below.refl _ _⟩
    · have g2 : ¬ (200 : Int) < (s.length : Int) := by omega
      rw [decide_eq_true (by omega), Bool.true_and] at HM
      clear h2
      by_cases h0 : s.length = 0
      · have g0 : ((s.length : Int) == 0) = true := by rw [beq_iff_eq]; omega
        have hs0 : s = [] := List.length_eq_zero_iff.1 h0
        have HV : Hid (m = false) := Lib.hid (by rw [HM, hs0]; rfl)
        clear HM h0 hs0
        go_enter Tryd.func48, Tryd.ntmps48
        go_wp2_with (go_at_call 46; refine (HC.out _).mono ?_; rintro e w1 ⟨rfl, rfl⟩)
        go_ret
        exact ⟨by rw [HV.out] <;> rfl, Below.refl _ _⟩
      · have g0 : ((s.length : Int) == 0) = false := by rw [beq_eq_false_iff_ne]; omega
        have gp : 0 < s.length := by omega
        have hsz : 0 < (ByteArray.mk s.toArray).size := by simpa [ByteArray.size] using gp
        obtain ⟨c, hcx⟩ : ∃ c : UInt8, (ByteArray.mk s.toArray)[0]'hsz = c := ⟨_, rfl⟩
        have hc0 : s[0] = c := hcx
        have HS : slash s = (c == 47) := by
          unfold slash
          rw [List.head?_eq_getElem?, List.getElem?_eq_getElem gp, hc0]; rfl
        rw [HS] at HM
        clear HS hc0 h0
        cases h4 : (c == (47 : UInt8)) with
        | false =>
          rw [h4] at HM
          have HV : Hid (m = false) := Lib.hid HM
          have g4 : ((c.toNat : Int) != 47) = true := by rw [bne_iff_ne]; intro e; rw [beq_eq_false_iff_ne] at h4; exact h4 (UInt8.toNat.inj (by show c.toNat = 47; omega))
          clear HM h4
          go_enter Tryd.func48, Tryd.ntmps48
          go_wp2_with (go_at_call 46; refine (HC.out _).mono ?_; rintro e w1 ⟨rfl, rfl⟩)
          go_ret
          exact ⟨by rw [HV.out] <;> rfl, Below.refl _ _⟩
        | true =>
          rw [h4, Bool.true_and] at HM
          have g4 : ((c.toNat : Int) != 47) = false := by rw [beq_iff_eq] at h4; subst h4; rfl
          have HA := Lib.hid HM
          clear HM h4
          go_enter Tryd.func48, Tryd.ntmps48
          go_wp2_with (first
            | (go_at_call 46; refine (HC.out _).mono ?_; rintro e w1 ⟨rfl, rfl⟩)
            | (go_at_call 58; refine (HP.out _).mono ?_; rintro e w1 ⟨p, n, k, rfl, hn, ho, b1⟩; have HN := Lib.hid hn; have HO := Lib.hid ho; have B1 := Lib.hid b1; clear hn ho b1))
          go_loopw [5] (fun x5 wr => ∃ (i : Nat), x5 = .int .i64 (i : Int) ∧ i ≤ n ∧ Hid ((l.take i).all okP = true) ∧ Hid (wr = w1)) (fun i _ => n - (intOf i).toNat)
          case atStart => exact ⟨0, rfl, Nat.zero_le _, Lib.hid (by simp), by first | exact Lib.hid rfl | exact Lib.hid trivial⟩
          case round =>
            obtain ⟨i, rfl, hi, HO2, HW⟩ := hrel
            obtain rfl := HW.out
            by_cases hlt : i < n
            · have hil : i < l.length := by rw [← HN.out]; exact hlt
              have hji : (i : Int) < (n : Int) := by omega
              have HKN : Hid (i + 1 ≤ n) := Lib.hid hlt
              have hkm : i < 9223372036854775807 := by have := HO.out.texts.max; omega
              obtain ⟨g, rfl, _, _, hcell⟩ := HO.out.some (by omega)
              have hce := hcell i hil
              have HX : Hid (okP l[i] = false → m = false) := Lib.hid (fun h => by rw [HA.out]; exact all_no hil h)
              have HN2 : Hid (okP l[i] = true → (l.take (i + 1)).all okP = true) := Lib.hid (fun h => by rw [all_next hil, HO2.out, h]; rfl)
              have HK : Hid (∀ t : List UInt8, okP t = ((t != []) && ((t != [46]) && (t != [46, 46])))) := Lib.hid (fun t => rfl)
              clear hcell
              generalize l[i] = t at *
              cases h1 : (t == []) with
              | true =>
                have HV := Lib.hid (HX.out (by rw [HK.out, bne, h1]; rfl))
                clear HX HN2 HK
                go_wp2_with fail
                go_ret
                exact ⟨by rw [HV.out] <;> rfl, B1.out⟩
              | false =>
                cases h2 : (t == [46]) with
                | true =>
                  have HV := Lib.hid (HX.out (by rw [HK.out, bne, bne, h1, h2]; rfl))
                  clear HX HN2 HK
                  go_wp2_with fail
                  go_ret
                  exact ⟨by rw [HV.out] <;> rfl, B1.out⟩
                | false =>
                  cases h3 : (t == [46, 46]) with
                  | true =>
                    have HV := Lib.hid (HX.out (by rw [HK.out, bne, bne, bne, h1, h2, h3]; rfl))
                    clear HX HN2 HK
                    go_wp2_with fail
                    go_ret
                    exact ⟨by rw [HV.out] <;> rfl, B1.out⟩
                  | false =>
                    have HV := Lib.hid (HN2.out (by rw [HK.out, bne, bne, bne, h1, h2, h3]; rfl))
                    clear HX HN2 HK
                    go_wp2_with fail
                    go_roundw
                    case rel => exact ⟨i + 1, by go_num, HKN.out, HV, by first | exact Lib.hid rfl | exact Lib.hid trivial⟩
                    case measure => have := HKN.out; simp [intOf]; omega
            · have hji : ¬ (i : Int) < (n : Int) := by omega
              have HV : Hid (m = true) := Lib.hid (by have h := HO2.out; rw [List.take_of_length_le (by rw [← HN.out]; omega)] at h; rw [HA.out]; exact h)
              go_wp2_with fail
              go_ret
              exact ⟨by rw [HV.out] <;> rfl, B1.out⟩

theorem pre_no {x y : Ps} {i : Nat} (hx : i < x.length) (hy : i < y.length) (h : x[i] ≠ y[i]) : x.isPrefixOf y = false := by
  cases hp : x.isPrefixOf y with
  | false => rfl
  | true =>
    rw [List.isPrefixOf_iff_prefix] at hp
    exact absurd (hp.getElem hx) h
theorem pre_long {x y : Ps} (h : y.length < x.length) : x.isPrefixOf y = false := by
  cases hp : x.isPrefixOf y with
  | false => rfl
  | true =>
    rw [List.isPrefixOf_iff_prefix] at hp
    have := hp.length_le
    omega
theorem pre_yes {x y : Ps} (h : x.length ≤ y.length) (he : ∀ i (hx : i < x.length) (hy : i < y.length), x[i] = y[i]) : x.isPrefixOf y = true := by
  rw [List.isPrefixOf_iff_prefix, List.prefix_iff_eq_take]
  refine List.ext_getElem (by rw [List.length_take]; omega) fun i h1 h2 => ?_
  rw [List.getElem_take]
  exact he i h1 (by omega)


#print axioms rmay_any
end Go.Proofs.YtmodmfkcigibpaaDoor.Pt
