/- The contracts of package acl: May, Which, Allowed. -/
import Derived.Test.YtmodmfkcigibpaaDoorAclAsk
import Derived.Test.YtmodmfkcigibpaaDoorAclRef
import Derived.WalkMore
import Derived.LoopTactic
namespace Go.Proofs.YtmodmfkcigibpaaDoor.Ac
open Go.Proofs.YtmodmfkcigibpaaDoor Go.Proofs.YtmodmfkcigibpaaDoor.Pt Go.Proofs.YtmodmfkcigibpaaDoor.Vb
open Go Go.ChangeShapes Go.WideShapes Go.ChangeAt Go.RowKit
set_option maxRecDepth 100000
set_option linter.unusedSimpArgs false
set_option linter.unusedVariables false

/-- the box of a rule -/
def boxed (w : World) (r : Rl) : World := w.alloc (.cells #[.bool r.a, .string ⟨r.v.toArray⟩, .string ⟨r.p.toArray⟩] 44)
theorem boxed_row (w : World) (r : Rl) : IsRow (boxed w r) w.heap.size 44 #[.bool r.a, .string ⟨r.v.toArray⟩, .string ⟨r.p.toArray⟩] := IsRow.made w _ _
theorem boxed_below {B : Nat} {w0 w : World} (h : Below B w0 w) (hle : B ≤ w.heap.size) (r : Rl) : Below B w0 (boxed w r) := h.alloc hle _

set_option maxHeartbeats 8000000 in
theorem acl_may (u : Value) (l : List Rl) (hr : ∀ r ∈ l, r.v.length ≤ 100000 ∧ r.p.length ≤ 100000) (w : World) (E : Env w) (H : RulesIs w u l) :
    Calls Tryd.prog 42 #[u] w fun e w' => e = .returned (.bool (mayL l)) ∧ Below w.heap.size w w' := by
  have HM : mayL l = (decide (l.length ≤ 8) && l.all okR) := rfl
  have hmax := H.max
  obtain ⟨p, n, c, rfl, hn⟩ := H.form
  have HN := Lib.hid hn
  have HR := Lib.hid H
  have HL := Lib.hid hr
  have HE := Lib.hid E
  rw [← hn] at HM hmax
  clear hn H hr E
  by_cases q : 8 < n
  · have g : (8 : Int) < (n : Int) := by omega
    rw [decide_eq_false (by omega), Bool.false_and] at HM
    have HV := Lib.hid HM
    clear HM q hmax
    go_enter Tryd.func42, Tryd.ntmps42
    go_wp2_with fail
    go_ret
    exact ⟨by rw [HV.out] <;> rfl, Below.refl _ _⟩
  · have g : ¬ (8 : Int) < (n : Int) := by omega
    rw [decide_eq_true (by omega), Bool.true_and] at HM
    have HA := Lib.hid HM
    have B0 := Lib.hid (Below.refl w.heap.size w)
    clear HM
    go_enter Tryd.func42, Tryd.ntmps42
    go_wp2_with fail
    go_loopw [10] (fun x10 wr => ∃ (i : Nat), x10 = .int .i64 (i : Int) ∧ i ≤ n ∧ Hid ((l.take i).all okR = true) ∧ Hid (Below w.heap.size w wr)) (fun i _ => n - (intOf i).toNat)
    case atStart => exact ⟨0, rfl, Nat.zero_le _, Lib.hid (by simp), B0⟩
    case round =>
      obtain ⟨i, rfl, hi, HO2, HB⟩ := hrel
      by_cases hlt : i < n
      · have hil : i < l.length := by rw [← HN.out]; exact hlt
        have hji : (i : Int) < (n : Int) := by omega
        have HKN : Hid (i + 1 ≤ n) := Lib.hid hlt
        have HR2 := Lib.hid (HR.out.call HB.out)
        obtain ⟨b, o, rfl, hbl, hcell⟩ := HR2.out.some (by omega)
        obtain ⟨e0, e1, e2⟩ := hcell i hil
        have HX : Hid (okR l[i] = false → mayL l = false) := Lib.hid (fun h => by rw [HA.out]; exact every_no hil h)
        have HN2 : Hid (okR l[i] = true → (l.take (i + 1)).all okR = true) := Lib.hid (fun h => by rw [every_next hil, HO2.out, h]; rfl)
        have HLr := Lib.hid (HL.out _ (List.getElem_mem hil))
        clear hcell
        generalize l[i] = r at *
        have HOK : Hid (okR r = (mayP r.p && verbOk r.v)) := Lib.hid rfl
        have HVb := Lib.hid (fun W => mayVerb_any r.v HLr.out.1 W)
        have HPm := Lib.hid (fun W EW => may_any r.p HLr.out.2 W EW)
        obtain ⟨z1, hz1⟩ : ∃ m, verbOk r.v = m := ⟨_, rfl⟩
        obtain ⟨z2, hz2⟩ : ∃ m, mayP r.p = m := ⟨_, rfl⟩
        rw [hz1] at HOK HVb
        rw [hz2] at HOK HPm
        have HBx := Lib.hid (boxed_below HB.out HB.out.size r)
        have HRx := Lib.hid (boxed_row wr r)
        clear hz1 hz2
        obtain ⟨ra, rv, rp⟩ := r
        cases z1 with
        | false =>
          have HV := Lib.hid (HX.out (by rw [HOK.out, Bool.and_false]))
          clear HX HN2
          go_wp2_with (go_at_call 54; refine (HVb.out _).mono ?_; rintro e w2 ⟨rfl, b2⟩; have B2 := Lib.hid (below_then HBx.out b2); clear b2)
          go_ret
          exact ⟨by rw [HV.out] <;> rfl, B2.out⟩
        | true =>
          cases z2 with
          | false =>
            have HV := Lib.hid (HX.out (by rw [HOK.out, Bool.false_and]))
            clear HX HN2
            go_wp2_with (first
              | (go_at_call 54; refine (HVb.out _).mono ?_; rintro e w2 ⟨rfl, b2⟩; have B2 := Lib.hid (below_then HBx.out b2); have R2 := Lib.hid (HRx.out.call b2); have y2 : w2.cell? ⟨wr.heap.size, 2, none⟩ = some (.string ⟨rp.toArray⟩) := R2.out.cell 2; have hl2 := R2.out.lt; clear b2)
              | (go_at_call 55; refine (HPm.out _ (HE.out.below B2.out)).mono ?_; rintro e w3 ⟨rfl, b3⟩; have B3 := Lib.hid (below_then B2.out b3); clear b3))
            go_ret
            exact ⟨by rw [HV.out] <;> rfl, B3.out⟩
          | true =>
            have HV := Lib.hid (HN2.out (by rw [HOK.out]; rfl))
            clear HX HN2
            go_wp2_with (first
              | (go_at_call 54; refine (HVb.out _).mono ?_; rintro e w2 ⟨rfl, b2⟩; have B2 := Lib.hid (below_then HBx.out b2); have R2 := Lib.hid (HRx.out.call b2); have y2 : w2.cell? ⟨wr.heap.size, 2, none⟩ = some (.string ⟨rp.toArray⟩) := R2.out.cell 2; have hl2 := R2.out.lt; clear b2)
              | (go_at_call 55; refine (HPm.out _ (HE.out.below B2.out)).mono ?_; rintro e w3 ⟨rfl, b3⟩; have B3 := Lib.hid (below_then B2.out b3); clear b3))
            go_roundw
            case rel => exact ⟨i + 1, by go_num, HKN.out, HV, B3⟩
            case measure => have := HKN.out; simp [intOf]; omega
      · have hji : ¬ (i : Int) < (n : Int) := by omega
        have HV : Hid (mayL l = true) := Lib.hid (by rw [HA.out, ← List.take_of_length_le (l := l) (i := i) (by have := HN.out; omega)]; exact HO2.out)
        go_wp2_with fail
        go_ret
        exact ⟨by rw [HV.out] <;> rfl, HB.out⟩



#print axioms acl_may
end Go.Proofs.YtmodmfkcigibpaaDoor.Ac
