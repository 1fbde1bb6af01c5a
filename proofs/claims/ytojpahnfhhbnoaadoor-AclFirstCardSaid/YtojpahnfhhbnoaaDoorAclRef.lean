/- The law's Few, and the contracts of the document's answer of layer 11: wharfingerref11's May, Which, Allowed. -/
import Derived.Test.YtojpahnfhhbnoaaDoorRules
import Derived.Test.YtojpahnfhhbnoaaDoorPathRef
import Derived.Test.YtojpahnfhhbnoaaDoorVerbRef
import Derived.BigQuiet
import Derived.Deep.QuietTactic
namespace Go.Proofs.YtojpahnfhhbnoaaDoor.Ac
open Go.Proofs.YtojpahnfhhbnoaaDoor Go.Proofs.YtojpahnfhhbnoaaDoor.Pt Go.Proofs.YtojpahnfhhbnoaaDoor.Vb
open Go Go.ChangeShapes Go.WideShapes Go.ChangeAt Go.RowKit
set_option maxRecDepth 100000
set_option linter.unusedSimpArgs false
set_option linter.unusedVariables false

abbrev okF (r : Rl) : Bool := decide (r.v.length ≤ 300) && decide (r.p.length ≤ 300)
theorem few_eq (l : List Rl) : fewL l = (decide (l.length ≤ 20) && l.all okF) := rfl
theorem every_next {α : Type} {l : List α} {f : α → Bool} {k : Nat} (h : k < l.length) : (l.take (k + 1)).all f = ((l.take k).all f && f l[k]) := by
  rw [List.take_succ_eq_append_getElem h, List.all_append, List.all_cons, List.all_nil, Bool.and_true]
theorem every_no {α : Type} {l : List α} {f : α → Bool} {k : Nat} (h : k < l.length) (ho : f l[k] = false) : l.all f = false := by
  cases hc : l.all f with
  | false => rfl
  | true => rw [List.all_eq_true.1 hc _ (List.getElem_mem h)] at ho; cases ho

set_option maxHeartbeats 4000000 in
theorem few_any (u : Value) (l : List Rl) (w : World) (H : RulesIs w u l) : Calls Tryd.prog 8 #[u] w fun e w' => e = .returned (.bool (fewL l)) ∧ Below w.heap.size w w' := by
  have HM := few_eq l
  have hmax := H.max
  obtain ⟨p, n, c, rfl, hn⟩ := H.form
  have HN := Lib.hid hn
  have HR := Lib.hid H
  rw [← hn] at HM hmax
  clear hn H
  by_cases q : 20 < n
  · have g : (20 : Int) < (n : Int) := by omega
    rw [decide_eq_false (by omega)] at HM
    have HV := Lib.hid HM
    clear HM q hmax
    go_enter Tryd.func8, Tryd.ntmps8
    go_wp2_with fail
    go_ret
    exact ⟨by rw [HV.out] <;> rfl, Below.refl _ _⟩
  · have g : ¬ (20 : Int) < (n : Int) := by omega
    rw [decide_eq_true (by omega), Bool.true_and] at HM
    have HA := Lib.hid HM
    clear HM
    go_enter Tryd.func8, Tryd.ntmps8
    go_wp2_with fail
    go_loopw [3] (fun x3 wr => ∃ (i : Nat), x3 = .int .i64 (i : Int) ∧ i ≤ n ∧ Hid ((l.take i).all okF = true) ∧ Hid (wr = w)) (fun i _ => n - (intOf i).toNat)
    case atStart => exact ⟨0, rfl, Nat.zero_le _, Lib.hid (by simp), by first | exact Lib.hid rfl | exact Lib.hid trivial⟩
    case round =>
      obtain ⟨i, rfl, hi, HO2, HW⟩ := hrel
      obtain rfl := HW.out
      by_cases hlt : i < n
      · have hil : i < l.length := by rw [← HN.out]; exact hlt
        have hji : (i : Int) < (n : Int) := by omega
        have HKN : Hid (i + 1 ≤ n) := Lib.hid hlt
        obtain ⟨b, o, rfl, hbl, hcell⟩ := HR.out.some (by omega)
        obtain ⟨e0, e1, e2⟩ := hcell i hil
        have HX : Hid (okF l[i] = false → fewL l = false) := Lib.hid (fun h => by rw [HA.out]; exact every_no hil h)
        have HN2 : Hid (okF l[i] = true → (l.take (i + 1)).all okF = true) := Lib.hid (fun h => by rw [every_next hil, HO2.out, h]; rfl)
        clear hcell
        generalize l[i] = r at *
        by_cases h1 : 300 < r.v.length
        · have g1 : (300 : Int) < (r.v.length : Int) := by omega
          have HV := Lib.hid (HX.out (by unfold okF; rw [decide_eq_false (by omega)]; rfl))
          clear HX HN2 h1
          go_wp2_with fail
          go_ret
          exact ⟨by rw [HV.out] <;> rfl, Below.refl _ _⟩
        · have g1 : ¬ (300 : Int) < (r.v.length : Int) := by omega
          by_cases h2 : 300 < r.p.length
          · have g2 : (300 : Int) < (r.p.length : Int) := by omega
            have HV := Lib.hid (HX.out (by unfold okF; rw [decide_eq_false (show ¬ r.p.length ≤ 300 by omega), Bool.and_false]))
            clear HX HN2 h1 h2
            go_wp2_with fail
            go_ret
            exact ⟨by rw [HV.out] <;> rfl, Below.refl _ _⟩
          · have g2 : ¬ (300 : Int) < (r.p.length : Int) := by omega
            have HV := Lib.hid (HN2.out (by unfold okF; rw [decide_eq_true (show r.v.length ≤ 300 by omega), decide_eq_true (show r.p.length ≤ 300 by omega)]; rfl))
            clear HX HN2 h1 h2
            go_wp2_with fail
            go_roundw
            case rel => exact ⟨i + 1, by go_num, HKN.out, HV, by first | exact Lib.hid rfl | exact Lib.hid trivial⟩
            case measure => have := HKN.out; simp [intOf]; omega
      · have hji : ¬ (i : Int) < (n : Int) := by omega
        have HV : Hid (fewL l = true) := Lib.hid (by rw [HA.out, ← List.take_of_length_le (l := l) (i := i) (by have := HN.out; omega)]; exact HO2.out)
        go_wp2_with fail
        go_ret
        exact ⟨by rw [HV.out] <;> rfl, Below.refl _ _⟩

/-! ### which rule tells -/
theorem which_no {l : List Rl} {v p : List UInt8} {n : Nat} (hn : n = l.length) (h : ∀ j (hj : j < l.length), j < n → tells v p l[j] = false) : which l v p = -1 := by
  refine which_none fun r hr => ?_
  obtain ⟨j, hj, rfl⟩ := List.mem_iff_getElem.1 hr
  exact h j hj (by omega)

set_option maxHeartbeats 4000000 in
theorem rwhich_any (u : Value) (l : List Rl) (v p : List UInt8) (hr : ∀ r ∈ l, r.v.length ≤ 100000 ∧ r.p.length ≤ 100000) (hp : p.length ≤ 100000) (w : World) (H : RulesIs w u l) :
    Calls Tryd.prog 13 #[u, .string ⟨v.toArray⟩, .string ⟨p.toArray⟩] w fun e w' => e = .returned (.int .i64 (which l v p)) ∧ Below w.heap.size w w' := by
  have hmax := H.max
  obtain ⟨pp, n, c, rfl, hn⟩ := H.form
  have HN := Lib.hid hn
  have HR := Lib.hid H
  have HL := Lib.hid hr
  have HP := Lib.hid hp
  rw [← hn] at hmax
  have B0 := Lib.hid (Below.refl w.heap.size w)
  clear hn H hr hp
  go_enter Tryd.func13, Tryd.ntmps13
  go_wp2_with fail
  go_loopw [7] (fun x7 wr => ∃ (i : Nat), x7 = .int .i64 (i : Int) ∧ i ≤ n ∧ Hid (∀ j (hj : j < l.length), j < i → tells v p l[j] = false) ∧ Hid (Below w.heap.size w wr)) (fun i _ => n - (intOf i).toNat)
  case atStart => exact ⟨0, rfl, Nat.zero_le _, Lib.hid (fun _ _ h => absurd h (by omega)), B0⟩
  case round =>
    obtain ⟨i, rfl, hi, HO2, HB⟩ := hrel
    by_cases hlt : i < n
    · have hil : i < l.length := by rw [← HN.out]; exact hlt
      have hji : (i : Int) < (n : Int) := by omega
      have HKN : Hid (i + 1 ≤ n) := Lib.hid hlt
      have HR2 := Lib.hid (HR.out.call HB.out)
      obtain ⟨b, o, rfl, hbl, hcell⟩ := HR2.out.some (by omega)
      obtain ⟨e0, e1, e2⟩ := hcell i hil
      have HX : Hid (tells v p l[i] = true → which l v p = (i : Int)) := Lib.hid (fun h => (which_at hil h HO2.out).1)
      have HN2 : Hid (tells v p l[i] = false → ∀ j (hj : j < l.length), j < i + 1 → tells v p l[j] = false) := Lib.hid (fun h j hj hji => by
        by_cases e : j = i
        · subst e; exact h
        · exact HO2.out j hj (by omega))
      have HLr := Lib.hid (HL.out _ (List.getElem_mem hil))
      clear hcell
      generalize l[i] = r at *
      have HE0 : Hid (r.v = [] → (r.v == []) = true) := Lib.hid (fun h => by rw [h]; rfl)
      have HU := Lib.hid (fun W => runder_any r.p p HLr.out.2 HP.out W)
      have HT : Hid (tells v p r = (under r.p p && ((r.v == []) || (r.v == v)))) := Lib.hid rfl
      obtain ⟨m, hm⟩ : ∃ m, under r.p p = m := ⟨_, rfl⟩
      rw [hm] at HU HT
      have e1' := HB.out.size
      have K : ∀ W', Below wr.heap.size wr W' → W'.cell? ⟨b, o + i * 3 + 1, none⟩ = some (.string ⟨r.v.toArray⟩) := fun W' hb => by rw [hb.cell (p := ⟨b, _, none⟩) hbl]; exact e1
      have HK := Lib.hid K
      clear K
      cases m with
      | false =>
        have HV := Lib.hid (HN2.out (by rw [HT.out]; rfl))
        clear HX HN2
        go_wp2_with (go_at_call 21; refine (HU.out _).mono ?_; rintro e w1 ⟨rfl, b1⟩; have HB1 := Lib.hid (HB.out.trans (b1.mono HB.out.size)); clear HU b1)
        go_roundw
        case rel => exact ⟨i + 1, by go_num, HKN.out, HV, HB1⟩
        case measure => have := HKN.out; simp [intOf]; omega
      | true =>
        cases h1 : (r.v == []) with
        | true =>
          have HV := Lib.hid (HX.out (by rw [HT.out, h1]; rfl))
          have g1 : (r.v == []) = true := h1
          clear HX HN2
          go_wp2_with (go_at_call 21; refine (HU.out _).mono ?_; rintro e w1 ⟨rfl, b1⟩; have y1 := HK.out _ b1; have HB1 := Lib.hid (HB.out.trans (b1.mono HB.out.size)); have hbl1 := Nat.lt_of_lt_of_le hbl b1.size; clear HU b1)
          go_ret
          exact ⟨by rw [HV.out] <;> rfl, HB1.out⟩
        | false =>
          cases h2 : (r.v == v) with
          | true =>
            have HV := Lib.hid (HX.out (by rw [HT.out, h1, h2]; rfl))
            clear HX HN2
            go_wp2_with (go_at_call 21; refine (HU.out _).mono ?_; rintro e w1 ⟨rfl, b1⟩; have y1 := HK.out _ b1; have HB1 := Lib.hid (HB.out.trans (b1.mono HB.out.size)); have hbl1 := Nat.lt_of_lt_of_le hbl b1.size; clear HU b1)
            go_ret
            exact ⟨by rw [HV.out] <;> rfl, HB1.out⟩
          | false =>
            have HV := Lib.hid (HN2.out (by rw [HT.out, h1, h2]; rfl))
            clear HX HN2
            go_wp2_with (go_at_call 21; refine (HU.out _).mono ?_; rintro e w1 ⟨rfl, b1⟩; have y1 := HK.out _ b1; have HB1 := Lib.hid (HB.out.trans (b1.mono HB.out.size)); have hbl1 := Nat.lt_of_lt_of_le hbl b1.size; clear HU b1)
            go_roundw
            case rel => exact ⟨i + 1, by go_num, HKN.out, HV, HB1⟩
            case measure => have := HKN.out; simp [intOf]; omega
    · have hji : ¬ (i : Int) < (n : Int) := by omega
      have HV : Hid (which l v p = -1) := Lib.hid (which_no HN.out (fun j hj hjn => HO2.out j hj (by omega)))
      go_wp2_with fail
      go_ret
      exact ⟨by rw [HV.out] <;> rfl, HB.out⟩

set_option maxHeartbeats 4000000 in
theorem rallowed_any (u : Value) (l : List Rl) (v p : List UInt8) (hr : ∀ r ∈ l, r.v.length ≤ 100000 ∧ r.p.length ≤ 100000) (hp : p.length ≤ 100000) (w : World) (H : RulesIs w u l) :
    Calls Tryd.prog 10 #[u, .string ⟨v.toArray⟩, .string ⟨p.toArray⟩] w fun e w' => e = .returned (.bool (allowed l v p)) ∧ Below w.heap.size w w' := by
  have HC := Lib.hid (fun W (h : RulesIs W u l) => rwhich_any u l v p hr hp W h)
  obtain ⟨pp, n, c, rfl, hn⟩ := H.form
  have HN := Lib.hid hn
  have HR := Lib.hid H
  clear hn H hr hp
  rcases which_cases l v p with ⟨h1, h2, _⟩ | ⟨i, hi, h1, h2, _, _⟩
  · rw [h1] at HC
    rw [h2]
    clear h1 h2
    go_enter Tryd.func10, Tryd.ntmps10
    go_wp2_with (go_at_call 13; refine (HC.out _ HR.out).mono ?_; rintro e w1 ⟨rfl, b1⟩)
    go_ret
    exact ⟨rfl, b1⟩
  · rw [h1] at HC
    rw [h2]
    have hin : i < n := by rw [HN.out]; exact hi
    have g0 : (0 : Int) ≤ (i : Int) := by omega
    obtain ⟨b, o, rfl, hbl, hcell⟩ := HR.out.some (by omega)
    have HK : Hid (∀ W', Below w.heap.size w W' → W'.cell? ⟨b, o + i * 3, none⟩ = some (.bool l[i].a)) := Lib.hid (fun W' hb => by rw [hb.cell (p := ⟨b, _, none⟩) hbl]; exact (hcell i hi).1)
    generalize l[i].a = z at *
    clear h1 h2 hcell
    go_enter Tryd.func10, Tryd.ntmps10
    go_wp2_with (go_at_call 13; refine (HC.out _ HR.out).mono ?_; rintro e w1 ⟨rfl, b1⟩; have y1 := HK.out _ b1; have hbl1 := Nat.lt_of_lt_of_le hbl b1.size; have B1 := Lib.hid b1; clear b1)
    go_ret
    exact ⟨rfl, B1.out⟩

#print axioms few_any
#print axioms rallowed_any
end Go.Proofs.YtojpahnfhhbnoaaDoor.Ac
