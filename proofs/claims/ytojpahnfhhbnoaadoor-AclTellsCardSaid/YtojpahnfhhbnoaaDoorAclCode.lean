/- The contracts of package acl: May, Which, Allowed. -/
import Derived.Test.YtojpahnfhhbnoaaDoorAclAsk
import Derived.Test.YtojpahnfhhbnoaaDoorAclRef
import Derived.WalkMore
import Derived.LoopTactic
namespace Go.Proofs.YtojpahnfhhbnoaaDoor.Ac
open Go.Proofs.YtojpahnfhhbnoaaDoor Go.Proofs.YtojpahnfhhbnoaaDoor.Pt Go.Proofs.YtojpahnfhhbnoaaDoor.Vb
open Go Go.ChangeShapes Go.WideShapes Go.ChangeAt Go.RowKit
set_option maxRecDepth 100000
set_option linter.unusedSimpArgs false
set_option linter.unusedVariables false

/-- the box of a rule -/
def boxed (w : World) (r : Rl) : World := w.alloc (.cells #[.bool r.a, .string ⟨r.v.toArray⟩, .string ⟨r.p.toArray⟩] 28)
theorem boxed_row (w : World) (r : Rl) : IsRow (boxed w r) w.heap.size 28 #[.bool r.a, .string ⟨r.v.toArray⟩, .string ⟨r.p.toArray⟩] := IsRow.made w _ _
theorem boxed_below {B : Nat} {w0 w : World} (h : Below B w0 w) (hle : B ≤ w.heap.size) (r : Rl) : Below B w0 (boxed w r) := h.alloc hle _

set_option maxHeartbeats 8000000 in
theorem acl_may (u : Value) (l : List Rl) (hr : ∀ r ∈ l, r.v.length ≤ 100000 ∧ r.p.length ≤ 100000) (w : World) (E : Env w) (H : RulesIs w u l) :
    Calls Tryd.prog 11 #[u] w fun e w' => e = .returned (.bool (mayL l)) ∧ Below w.heap.size w w' := by
  have HM : mayL l = (decide (l.length ≤ 8) && l.all okR) := rfl
  have hmax := H.max
  obtain ⟨p, n, c, rfl, hn⟩ := H.form
  have HN := Lib.hid hn
  have HR := Lib.hid H
  have HL := Lib.hid hr
  have HE := Lib.hid E
  rw [← hn] at HM hmax
  clear hn H hr E
  by_cases q : 8 < n
  · have g : (8 : Int) < (n : Int) := by omega
    rw [decide_eq_false (by omega), Bool.false_and] at HM
    have HV := Lib.hid HM
    clear HM q hmax
    go_enter Tryd.func11, Tryd.ntmps11
    go_wp2_with fail
    go_ret
    exact ⟨by rw [HV.out] <;> rfl, Below.refl _ _⟩
  · have g : ¬ (8 : Int) < (n : Int) := by omega
    rw [decide_eq_true (by omega), Bool.true_and] at HM
    have HA := Lib.hid HM
    have B0 := Lib.hid (Below.refl w.heap.size w)
    clear HM
    go_enter Tryd.func11, Tryd.ntmps11
    go_wp2_with fail
    go_loopw [10] (fun x10 wr => ∃ (i : Nat), x10 = .int .i64 (i : Int) ∧ i ≤ n ∧ Hid ((l.take i).all okR = true) ∧ Hid (Below w.heap.size w wr)) (fun i _ => n - (intOf i).toNat)
    case atStart => exact ⟨0, rfl, Nat.zero_le _, Lib.hid (by simp), B0⟩
    case round =>
      obtain ⟨i, rfl, hi, HO2, HB⟩ := hrel
      by_cases hlt : i < n
      · have hil : i < l.length := by rw [← HN.out]; exact hlt
        have hji : (i : Int) < (n : Int) := by omega
        have HKN : Hid (i + 1 ≤ n) := Lib.hid hlt
        have HR2 := Lib.hid (HR.out.call HB.out)
        obtain ⟨b, o, rfl, hbl, hcell⟩ := HR2.out.some (by omega)
        obtain ⟨e0, e1, e2⟩ := hcell i hil
        have HX : Hid (okR l[i] = false → mayL l = false) := Lib.hid (fun h => by rw [HA.out]; exact every_no hil h)
        have HN2 : Hid (okR l[i] = true → (l.take (i + 1)).all okR = true) := Lib.hid (fun h => by rw [every_next hil, HO2.out, h]; rfl)
        have HLr := Lib.hid (HL.out _ (List.getElem_mem hil))
        clear hcell
        generalize l[i] = r at *
        have HOK : Hid (okR r = (mayP r.p && verbOk r.v)) := Lib.hid rfl
        have HVb := Lib.hid (fun W => mayVerb_any r.v HLr.out.1 W)
        have HPm := Lib.hid (fun W EW => may_any r.p HLr.out.2 W EW)
        obtain ⟨z1, hz1⟩ : ∃ m, verbOk r.v = m := ⟨_, rfl⟩
        obtain ⟨z2, hz2⟩ : ∃ m, mayP r.p = m := ⟨_, rfl⟩
        rw [hz1] at HOK HVb
        rw [hz2] at HOK HPm
        have HBx := Lib.hid (boxed_below HB.out HB.out.size r)
        have HRx := Lib.hid (boxed_row wr r)
        clear hz1 hz2
        obtain ⟨ra, rv, rp⟩ := r
        cases z1 with
        | false =>
          have HV := Lib.hid (HX.out (by rw [HOK.out, Bool.and_false]))
          clear HX HN2
          go_wp2_with (go_at_call 19; refine (HVb.out _).mono ?_; rintro e w2 ⟨rfl, b2⟩; have B2 := Lib.hid (below_then HBx.out b2); clear b2)
          go_ret
          exact ⟨by rw [HV.out] <;> rfl, B2.out⟩
        | true =>
          cases z2 with
          | false =>
            have HV := Lib.hid (HX.out (by rw [HOK.out, Bool.false_and]))
            clear HX HN2
            go_wp2_with (first
              | (go_at_call 19; refine (HVb.out _).mono ?_; rintro e w2 ⟨rfl, b2⟩; have B2 := Lib.hid (below_then HBx.out b2); have R2 := Lib.hid (HRx.out.call b2); have y2 : w2.cell? ⟨wr.heap.size, 2, none⟩ = some (.string ⟨rp.toArray⟩) := R2.out.cell 2; have hl2 := R2.out.lt; clear b2)
              | (go_at_call 15; refine (HPm.out _ (HE.out.below B2.out)).mono ?_; rintro e w3 ⟨rfl, b3⟩; have B3 := Lib.hid (below_then B2.out b3); clear b3))
            go_ret
            exact ⟨by rw [HV.out] <;> rfl, B3.out⟩
          | true =>
            have HV := Lib.hid (HN2.out (by rw [HOK.out]; rfl))
            clear HX HN2
            go_wp2_with (first
              | (go_at_call 19; refine (HVb.out _).mono ?_; rintro e w2 ⟨rfl, b2⟩; have B2 := Lib.hid (below_then HBx.out b2); have R2 := Lib.hid (HRx.out.call b2); have y2 : w2.cell? ⟨wr.heap.size, 2, none⟩ = some (.string ⟨rp.toArray⟩) := R2.out.cell 2; have hl2 := R2.out.lt; clear b2)
              | (go_at_call 15; refine (HPm.out _ (HE.out.below B2.out)).mono ?_; rintro e w3 ⟨rfl, b3⟩; have B3 := Lib.hid (below_then B2.out b3); clear b3))
            go_roundw
            case rel => exact ⟨i + 1, by go_num, HKN.out, HV, B3⟩
            case measure => have := HKN.out; simp [intOf]; omega
      · have hji : ¬ (i : Int) < (n : Int) := by omega
        have HV : Hid (mayL l = true) := Lib.hid (by rw [HA.out, ← List.take_of_length_le (l := l) (i := i) (by have := HN.out; omega)]; exact HO2.out)
        go_wp2_with fail
        go_ret
        exact ⟨by rw [HV.out] <;> rfl, HB.out⟩

set_option maxHeartbeats 8000000 in
theorem acl_which (u : Value) (l : List Rl) (v p : List UInt8) (hr : ∀ r ∈ l, r.v.length ≤ 100000 ∧ r.p.length ≤ 100000) (hp : p.length ≤ 100000) (w : World) (E : Env w) (H : RulesIs w u l) :
    Calls Tryd.prog 12 #[u, .string ⟨v.toArray⟩, .string ⟨p.toArray⟩] w fun e w' => e = .returned (.int .i64 (which l v p)) ∧ Below w.heap.size w w' := by
  have hmax := H.max
  obtain ⟨pp, n, c, rfl, hn⟩ := H.form
  have HN := Lib.hid hn
  have HR := Lib.hid H
  have HL := Lib.hid hr
  have HP := Lib.hid hp
  have HE := Lib.hid E
  have HQ := Lib.hid (asks_any v p w)
  rw [← hn] at hmax
  clear hn H hr hp E
  go_enter Tryd.func12, Tryd.ntmps12
  go_wp2_with fail
  go_step3
  go_wp2_with (go_at_call 20; refine HQ.out.mono ?_; rintro e w1 ⟨A1, A2, A3, rfl, r3, r1, r2, b1⟩; have R3 := Lib.hid r3; have R1 := Lib.hid r1; have R2 := Lib.hid r2; have B1 := Lib.hid b1; have B0 := Lib.hid (Below.refl w1.heap.size w1); clear r1 r2 r3 b1)
  go_step3
  go_wp2_with fail
  go_loopw [17] (fun x17 wr => ∃ (i : Nat), x17 = .int .i64 (i : Int) ∧ i ≤ n ∧ Hid (∀ j (hj : j < l.length), j < i → tells v p l[j] = false) ∧ Hid (Below w1.heap.size w1 wr)) (fun i _ => n - (intOf i).toNat)
  case atStart => exact ⟨0, rfl, Nat.zero_le _, Lib.hid (fun _ _ h => absurd h (by omega)), B0⟩
  case round =>
    obtain ⟨i, rfl, hi, HO2, HB⟩ := hrel
    by_cases hlt : i < n
    · have hil : i < l.length := by rw [← HN.out]; exact hlt
      have hji : (i : Int) < (n : Int) := by omega
      have HKN : Hid (i + 1 ≤ n) := Lib.hid hlt
      have HR2 := Lib.hid ((HR.out.call B1.out).call HB.out)
      obtain ⟨b, o, rfl, hbl, hcell⟩ := HR2.out.some (by omega)
      obtain ⟨e0, e1, e2⟩ := hcell i hil
      have HX : Hid (tells v p l[i] = true → which l v p = (i : Int)) := Lib.hid (fun h => (which_at hil h HO2.out).1)
      have HN2 : Hid (tells v p l[i] = false → ∀ j (hj : j < l.length), j < i + 1 → tells v p l[j] = false) := Lib.hid (fun h j hj hji => by
        by_cases e : j = i
        · subst e; exact h
        · exact HO2.out j hj (by omega))
      have HLr := Lib.hid (HL.out _ (List.getElem_mem hil))
      clear hcell
      generalize l[i] = r at *
      have HT : Hid (tells v p r = (under r.p p && ((r.v == []) || (r.v == v)))) := Lib.hid rfl
      have HC1 := Lib.hid (fun W (hb : Below w1.heap.size w1 W) => ask1_any r v A1 W (by have := (R1.out.call hb).cell 0; exact this) (R1.out.call hb).lt)
      have HC2 := Lib.hid (fun W (hb : Below w1.heap.size w1 W) => ask2_any r p HLr.out.2 HP.out A2 W (HE.out.below (below_then B1.out hb)) (by have := (R2.out.call hb).cell 0; exact this) (R2.out.call hb).lt)
      obtain ⟨z1, hz1⟩ : ∃ m, ((r.v == []) || (r.v == v)) = m := ⟨_, rfl⟩
      obtain ⟨z2, hz2⟩ : ∃ m, under r.p p = m := ⟨_, rfl⟩
      rw [hz1] at HT HC1
      rw [hz2] at HT HC2
      have HBx := Lib.hid (boxed_below HB.out HB.out.size r)
      have HRx := Lib.hid (boxed_row wr r)
      clear hz1 hz2
      obtain ⟨ra, rv, rp⟩ := r
      have y0 : wr.cell? ⟨A3, 0, none⟩ = some (ask1 A1) := (R3.out.call HB.out).cell 0
      have y1 : wr.cell? ⟨A3, 1, none⟩ = some (ask2 A2) := (R3.out.call HB.out).cell 1
      have hl3 := (R3.out.call HB.out).lt
      cases z1 with
      | false =>
        have HV := Lib.hid (HN2.out (by rw [HT.out, Bool.and_false]))
        clear HX HN2
        go_wp2_with fail
        refine wp_loop_rounds 3 ?_
        rw [rounds_succ]
        go_wp2_with (go_at_call 29; refine (HC1.out _ HBx.out).mono ?_; rintro e w2 ⟨rfl, b2⟩; have B2 := Lib.hid (below_then HBx.out b2); have y2 : w2.cell? ⟨A3, 1, none⟩ = some (ask2 A2) := (R3.out.call B2.out).cell 1; have hl2 := (R3.out.call B2.out).lt; have R4 := Lib.hid (HRx.out.call b2); have q0 : w2.cell? ⟨wr.heap.size, 0, none⟩ = some (.bool ra) := R4.out.cell 0; have q1 : w2.cell? ⟨wr.heap.size, 1, none⟩ = some (.string ⟨rv.toArray⟩) := R4.out.cell 1; have q2 : w2.cell? ⟨wr.heap.size, 2, none⟩ = some (.string ⟨rp.toArray⟩) := R4.out.cell 2; clear b2)
        go_roundw
        case rel => exact ⟨i + 1, by go_num, HKN.out, HV, B2⟩
        case measure => have := HKN.out; simp [intOf]; omega
      | true =>
        cases z2 with
        | false =>
          have HV := Lib.hid (HN2.out (by rw [HT.out, Bool.false_and]))
          clear HX HN2
          go_wp2_with fail
          refine wp_loop_rounds 3 ?_
          rw [rounds_succ]
          go_wp2_with (go_at_call 29; refine (HC1.out _ HBx.out).mono ?_; rintro e w2 ⟨rfl, b2⟩; have B2 := Lib.hid (below_then HBx.out b2); have y2 : w2.cell? ⟨A3, 1, none⟩ = some (ask2 A2) := (R3.out.call B2.out).cell 1; have hl2 := (R3.out.call B2.out).lt; have R4 := Lib.hid (HRx.out.call b2); have q0 : w2.cell? ⟨wr.heap.size, 0, none⟩ = some (.bool ra) := R4.out.cell 0; have q1 : w2.cell? ⟨wr.heap.size, 1, none⟩ = some (.string ⟨rv.toArray⟩) := R4.out.cell 1; have q2 : w2.cell? ⟨wr.heap.size, 2, none⟩ = some (.string ⟨rp.toArray⟩) := R4.out.cell 2; clear b2)
          rw [rounds_succ]
          go_wp2_with (go_at_call 30; refine (HC2.out _ B2.out).mono ?_; rintro e w3 ⟨rfl, b3⟩; have B3 := Lib.hid (below_then B2.out b3); have y3 := (R3.out.call B3.out).lt; clear b3)
          go_roundw
          case rel => exact ⟨i + 1, by go_num, HKN.out, HV, B3⟩
          case measure => have := HKN.out; simp [intOf]; omega
        | true =>
          have HV := Lib.hid (HX.out (by rw [HT.out]; rfl))
          clear HX HN2
          go_wp2_with fail
          refine wp_loop_rounds 3 ?_
          rw [rounds_succ]
          go_wp2_with (go_at_call 29; refine (HC1.out _ HBx.out).mono ?_; rintro e w2 ⟨rfl, b2⟩; have B2 := Lib.hid (below_then HBx.out b2); have y2 : w2.cell? ⟨A3, 1, none⟩ = some (ask2 A2) := (R3.out.call B2.out).cell 1; have hl2 := (R3.out.call B2.out).lt; have R4 := Lib.hid (HRx.out.call b2); have q0 : w2.cell? ⟨wr.heap.size, 0, none⟩ = some (.bool ra) := R4.out.cell 0; have q1 : w2.cell? ⟨wr.heap.size, 1, none⟩ = some (.string ⟨rv.toArray⟩) := R4.out.cell 1; have q2 : w2.cell? ⟨wr.heap.size, 2, none⟩ = some (.string ⟨rp.toArray⟩) := R4.out.cell 2; clear b2)
          rw [rounds_succ]
          go_wp2_with (go_at_call 30; refine (HC2.out _ B2.out).mono ?_; rintro e w3 ⟨rfl, b3⟩; have B3 := Lib.hid (below_then B2.out b3); have y3 := (R3.out.call B3.out).lt; clear b3)
          rw [rounds_succ]
          go_wp2_with fail
          show Exit.noGoto _ _ _ _
          simp (config := {zetaDelta := true}) only [Exit.noGoto, Exit.inBlock]
          go_ret
          exact ⟨by rw [HV.out] <;> rfl, below_then B1.out B3.out⟩
    · have hji : ¬ (i : Int) < (n : Int) := by omega
      have HV : Hid (which l v p = -1) := Lib.hid (which_no HN.out (fun j hj hjn => HO2.out j hj (by omega)))
      go_wp2_with fail
      go_ret
      exact ⟨by rw [HV.out] <;> rfl, below_then B1.out HB.out⟩

set_option maxHeartbeats 4000000 in
theorem acl_allowed (u : Value) (l : List Rl) (v p : List UInt8) (hr : ∀ r ∈ l, r.v.length ≤ 100000 ∧ r.p.length ≤ 100000) (hp : p.length ≤ 100000) (w : World) (E : Env w) (H : RulesIs w u l) :
    Calls Tryd.prog 14 #[u, .string ⟨v.toArray⟩, .string ⟨p.toArray⟩] w fun e w' => e = .returned (.bool (allowed l v p)) ∧ Below w.heap.size w w' := by
  have HC := Lib.hid (fun W (EW : Env W) (h : RulesIs W u l) => acl_which u l v p hr hp W EW h)
  obtain ⟨pp, n, c, rfl, hn⟩ := H.form
  have HN := Lib.hid hn
  have HR := Lib.hid H
  have HE := Lib.hid E
  clear hn H hr hp E
  rcases which_cases l v p with ⟨h1, h2, _⟩ | ⟨i, hi, h1, h2, _, _⟩
  · rw [h1] at HC
    rw [h2]
    clear h1 h2
    go_enter Tryd.func14, Tryd.ntmps14
    go_wp2_with (go_at_call 12; refine (HC.out _ HE.out HR.out).mono ?_; rintro e w1 ⟨rfl, b1⟩)
    go_ret
    exact ⟨rfl, b1⟩
  · rw [h1] at HC
    rw [h2]
    have hin : i < n := by rw [HN.out]; exact hi
    have g0 : (0 : Int) ≤ (i : Int) := by omega
    have g1 : ((i : Int) != -1) = true := by simp
    obtain ⟨b, o, rfl, hbl, hcell⟩ := HR.out.some (by omega)
    have HK : Hid (∀ W', Below w.heap.size w W' → W'.cell? ⟨b, o + i * 3, none⟩ = some (.bool l[i].a)) := Lib.hid (fun W' hb => by rw [hb.cell (p := ⟨b, _, none⟩) hbl]; exact (hcell i hi).1)
    generalize l[i].a = z at *
    clear h1 h2 hcell
    go_enter Tryd.func14, Tryd.ntmps14
    go_wp2_with (go_at_call 12; refine (HC.out _ HE.out HR.out).mono ?_; rintro e w1 ⟨rfl, b1⟩; have y1 := HK.out _ b1; have hbl1 := Nat.lt_of_lt_of_le hbl b1.size; have B1 := Lib.hid b1; clear b1)
    go_ret
    exact ⟨rfl, B1.out⟩

#print axioms acl_may
#print axioms acl_which
#print axioms acl_allowed
end Go.Proofs.YtojpahnfhhbnoaaDoor.Ac
