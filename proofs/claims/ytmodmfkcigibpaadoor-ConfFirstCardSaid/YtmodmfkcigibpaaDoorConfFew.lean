/- The law's Few of layer 13 (gen-conf-few.py). -/
import Derived.Test.YtmodmfkcigibpaaDoorConfRefTen
namespace Go.Proofs.YtmodmfkcigibpaaDoor.Co
open Go.Proofs.YtmodmfkcigibpaaDoor Go.Proofs.YtmodmfkcigibpaaDoor.Ac Go.Proofs.YtmodmfkcigibpaaDoor.Ro
open Go Go.ChangeShapes Go.WideShapes Go.ChangeAt Go.RowKit
set_option maxRecDepth 100000
set_option linter.unusedSimpArgs false
set_option linter.unusedVariables false

theorem few_eq13 (l : List Tn) : few l = (decide (l.length ≤ 6) && l.all fewT) := rfl
theorem fewT_eq (t : Tn) : fewT t = (decide (t.rs.length ≤ 20) && (decide (t.name.length ≤ 300) && (decide (t.host.length ≤ 300) && t.rs.all okF))) := rfl

set_option maxHeartbeats 16000000 in
theorem few_any13 (a b c d : Int) (tv : Value) (pre life idle : Int) (lf : Bool) (l : List Tn) (w : World) (H : TensIs w tv l) :
    Calls Tryd.prog 10 #[confV a b c d tv pre life idle lf] w fun e w' => e = .returned (.bool (few l)) ∧ Below w.heap.size w w' := by
  have HM := few_eq13 l
  have hmax := H.max
  obtain ⟨p, n, cc, rfl, hn⟩ := H.form
  have HN := Lib.hid hn
  have HTr := Lib.hid H
  rw [← hn] at HM hmax
  clear hn H
  generalize few l = m at HM ⊢
  have C0 := Lib.hid (IsRow.made w 26 #[.int .u8 a, .int .u8 b, .int .u8 c, .int .u8 d, .slice p n cc, .int .i64 pre, .int .i64 life, .int .i64 idle, .bool lf])
  have B0 := Lib.hid ((Below.refl w.heap.size w).alloc (Nat.le_refl _) (.cells #[.int .u8 a, .int .u8 b, .int .u8 c, .int .u8 d, .slice p n cc, .int .i64 pre, .int .i64 life, .int .i64 idle, .bool lf] 26))
  by_cases q : 6 < n
  · have g : (6 : Int) < (n : Int) := by omega
    rw [decide_eq_false (by omega)] at HM
    have HV := Lib.hid HM
    clear HM q hmax
    go_enter Tryd.func10, Tryd.ntmps10
    go_wp2_with fail
    go_ret
    exact ⟨by rw [HV.out] <;> rfl, B0.out⟩
  · have g : ¬ (6 : Int) < (n : Int) := by omega
    rw [decide_eq_true (by omega), Bool.true_and] at HM
    have HA := Lib.hid HM
    clear HM
    go_enter Tryd.func10, Tryd.ntmps10
    go_wp2_with fail
    go_loopw [3] (fun x3 wr => ∃ (i : Nat), x3 = .int .i64 (i : Int) ∧ i ≤ n ∧ Hid ((l.take i).all fewT = true) ∧ Hid (IsRow wr w.heap.size 26 #[.int .u8 a, .int .u8 b, .int .u8 c, .int .u8 d, .slice p n cc, .int .i64 pre, .int .i64 life, .int .i64 idle, .bool lf]) ∧ Hid (Below w.heap.size w wr)) (fun i _ => n - (intOf i).toNat)
    case atStart => exact ⟨0, rfl, Nat.zero_le _, Lib.hid (by simp), C0, B0⟩
    case round =>
      obtain ⟨i, rfl, hi, HO, CR, HB⟩ := hrel
      have k4 := CR.out.cell 4
      have kl := CR.out.lt
      by_cases hlt : i < n
      · have hil : i < l.length := by rw [← HN.out]; exact hlt
        have hji : (i : Int) < (n : Int) := by omega
        have HKN : Hid (i + 1 ≤ n) := Lib.hid hlt
        have HTr2 := Lib.hid (HTr.out.call HB.out)
        obtain ⟨bb, o, rfl, hbl, hcell⟩ := HTr2.out.some (by omega)
        have T0 := Lib.hid (hcell i hil)
        have hru := HTr2.out.1 l[i] (List.getElem_mem _)
        obtain ⟨rp, rn, rc, hrv, hrn⟩ := hru.form
        rw [hrv] at hru
        have HR := Lib.hid hru
        have HRN := Lib.hid hrn
        have hrmax : rn ≤ 9223372036854775807 := by rw [hrn]; exact hru.max
        have HX : Hid (fewT l[i] = false → m = false) := Lib.hid (fun h => by rw [HA.out]; exact every_no hil h)
        have HN2 : Hid (fewT l[i] = true → (l.take (i + 1)).all fewT = true) := Lib.hid (fun h => by rw [every_next hil, HO.out, h]; rfl)
        have HE := Lib.hid (fewT_eq l[i])
        clear hcell hru hrn
        generalize hT : l[i] = t at *
        have c0 := T0.out.c0; have c1 := T0.out.c1; have c2 := T0.out.c2; have c3 := T0.out.c3; have c4 := T0.out.c4; have c5 := T0.out.c5; have c6 := T0.out.c6; have c7 := T0.out.c7; have c8 := T0.out.c8; have c9 := T0.out.c9; have c10 := T0.out.c10; have c11 := T0.out.c11; have c12 := T0.out.c12; have c13 := T0.out.c13
        rw [hrv] at c9
        clear hrv hT T0
        obtain ⟨tn, th, ta, tb, tc, td, tp, lo, hh, tr, trs, ts, tho, tq, te⟩ := t
        simp only at *
        have BN := Lib.hid (HB.out.alloc HB.out.size (.cells #[.string ⟨tn.toArray⟩, .string ⟨th.toArray⟩, .int .u8 ta, .int .u8 tb, .int .u8 tc, .int .u8 td, .int .i64 tp, .int .i64 lo, .int .i64 hh, .slice rp rn rc, .int .i64 ts, .int .i64 tho, .int .i64 tq, .int .i64 te] 40))
        by_cases h1 : 20 < rn
        · have g1 : (20 : Int) < (rn : Int) := by omega
          have HV := Lib.hid (HX.out (by rw [HE.out, decide_eq_false (by have := HRN.out; omega)]; rfl))
          clear HX HN2 HE h1
          go_wp2_with fail
          go_ret
          exact ⟨by rw [HV.out] <;> rfl, BN.out⟩
        have g1 : ¬ (20 : Int) < (rn : Int) := by omega
        by_cases h2 : 300 < tn.length
        · have g2 : (300 : Int) < (tn.length : Int) := by omega
          have HV := Lib.hid (HX.out (by rw [HE.out, decide_eq_false (show ¬ tn.length ≤ 300 by omega), Bool.false_and, Bool.and_false]))
          clear HX HN2 HE h1 h2
          go_wp2_with fail
          go_ret
          exact ⟨by rw [HV.out] <;> rfl, BN.out⟩
        have g2 : ¬ (300 : Int) < (tn.length : Int) := by omega
        by_cases h3 : 300 < th.length
        · have g3 : (300 : Int) < (th.length : Int) := by omega
          have HV := Lib.hid (HX.out (by rw [HE.out, decide_eq_false (show ¬ th.length ≤ 300 by omega), Bool.false_and, Bool.and_false, Bool.and_false]))
          clear HX HN2 HE h1 h2 h3
          go_wp2_with fail
          go_ret
          exact ⟨by rw [HV.out] <;> rfl, BN.out⟩
        have g3 : ¬ (300 : Int) < (th.length : Int) := by omega
        have HE2 : Hid (fewT ⟨tn, th, ta, tb, tc, td, tp, lo, hh, tr, trs, ts, tho, tq, te⟩ = trs.all okF) := Lib.hid (by rw [HE.out, decide_eq_true (show trs.length ≤ 20 by have := HRN.out; omega), decide_eq_true (show tn.length ≤ 300 by omega), decide_eq_true (show th.length ≤ 300 by omega)]; rfl)
        have HX2 : Hid (trs.all okF = false → m = false) := Lib.hid (fun h => HX.out (by rw [HE2.out]; exact h))
        have HN3 : Hid (trs.all okF = true → (l.take (i + 1)).all fewT = true) := Lib.hid (fun h => HN2.out (by rw [HE2.out]; exact h))
        clear HE HE2 HX HN2 h1 h2 h3
        go_wp2_with fail
        clear c0 c1 c2 c3 c4 c5 c6 c7 c8 c9 c10 c11 c12 c13
        go_loop [5] (fun x5 => ∃ (k : Nat), x5 = .int .i64 (k : Int) ∧ k ≤ rn ∧ Hid ((trs.take k).all okF = true)) (fun i => rn - (intOf i).toNat)
        case atStart => exact ⟨0, rfl, Nat.zero_le _, Lib.hid (by simp)⟩
        case round =>
          obtain ⟨k, rfl, hk, HO3⟩ := hrel
          by_cases hkt : k < rn
          · have hkl : k < trs.length := by rw [← HRN.out]; exact hkt
            have hjk : (k : Int) < (rn : Int) := by omega
            have HKK : Hid (k + 1 ≤ rn) := Lib.hid hkt
            obtain ⟨b2, o2, rfl, hbl2, hcell2⟩ := HR.out.some (by omega)
            obtain ⟨e0, e1, e2⟩ := hcell2 k hkl
            have HXK : Hid (okF trs[k] = false → m = false) := Lib.hid (fun h => HX2.out (every_no hkl h))
            have HNK : Hid (okF trs[k] = true → (trs.take (k + 1)).all okF = true) := Lib.hid (fun h => by rw [every_next hkl, HO3.out, h]; rfl)
            clear hcell2
            generalize trs[k] = r at *
            by_cases h1 : 300 < r.v.length
            · have g1 : (300 : Int) < (r.v.length : Int) := by omega
              have HV := Lib.hid (HXK.out (by unfold okF; rw [decide_eq_false (by omega)]; rfl))
              clear HXK HNK h1
              go_wp2_with fail
              go_ret
              exact ⟨by rw [HV.out] <;> rfl, BN.out⟩
            · have g1 : ¬ (300 : Int) < (r.v.length : Int) := by omega
              by_cases h2 : 300 < r.p.length
              · have g2 : (300 : Int) < (r.p.length : Int) := by omega
                have HV := Lib.hid (HXK.out (by unfold okF; rw [decide_eq_false (show ¬ r.p.length ≤ 300 by omega), Bool.and_false]))
                clear HXK HNK h1 h2
                go_wp2_with fail
                go_ret
                exact ⟨by rw [HV.out] <;> rfl, BN.out⟩
              · have g2 : ¬ (300 : Int) < (r.p.length : Int) := by omega
                have HV := Lib.hid (HNK.out (by unfold okF; rw [decide_eq_true (show r.v.length ≤ 300 by omega), decide_eq_true (show r.p.length ≤ 300 by omega)]; rfl))
                clear HXK HNK h1 h2
                go_wp2_with fail
                go_round
                case rel => exact ⟨k + 1, by go_num, HKK.out, HV⟩
                case measure => have := HKK.out; simp [intOf]; omega
          · have hjk : ¬ (k : Int) < (rn : Int) := by omega
            have HV := Lib.hid (HN3.out (by rw [← List.take_of_length_le (l := trs) (i := k) (by have := HRN.out; omega)]; exact HO3.out))
            have CN := Lib.hid (CR.out.alloc (.cells #[.string ⟨tn.toArray⟩, .string ⟨th.toArray⟩, .int .u8 ta, .int .u8 tb, .int .u8 tc, .int .u8 td, .int .i64 tp, .int .i64 lo, .int .i64 hh, .slice rp rn rc, .int .i64 ts, .int .i64 tho, .int .i64 tq, .int .i64 te] 40))
            clear HX2 HN3 HO3
            go_wp2_with fail
            go_roundw
            case rel => exact ⟨i + 1, by go_num, HKN.out, HV, CN, BN⟩
            case measure => have := HKN.out; simp [intOf]; omega
      · have hji : ¬ (i : Int) < (n : Int) := by omega
        have HV : Hid (m = true) := Lib.hid (by rw [HA.out, ← List.take_of_length_le (l := l) (i := i) (by have := HN.out; omega)]; exact HO.out)
        go_wp2_with fail
        go_ret
        exact ⟨by rw [HV.out] <;> rfl, HB.out⟩

#print axioms few_any13
end Go.Proofs.YtmodmfkcigibpaaDoor.Co
