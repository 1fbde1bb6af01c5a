/- The contracts of the document's answer of layer 6: wharfingerref06.Same, Lines. -/
import Derived.Test.YtampgoicogfccaaLineRef
import Derived.LoopTactic
namespace Go.Proofs.Ytampgoicogfccaa.Ln
open Go.Proofs.Ytampgoicogfccaa
open Go.ChangeShapes Go.WideShapes Go.ChangeAt Go.RowKit
set_option linter.unusedSimpArgs false

set_option maxHeartbeats 4000000 in
set_option maxRecDepth 100000 in
theorem rsame_any (f g : Fr) (u v : Value) (w : World) (hu : BytesIs w u f.b) (hv : BytesIs w v g.b) :
    Calls Try.prog 12 #[framerV u f.cr f.skip, framerV v g.cr g.skip] w fun e w' => e = .returned (.bool (decide (f = g))) ∧ Below w.heap.size w w' := by
  obtain ⟨b, cr, skip⟩ := f
  obtain ⟨b', cr', skip'⟩ := g
  simp only at hu hv
  obtain ⟨p, c, rfl⟩ := hu.form
  obtain ⟨p', c', rfl⟩ := hv.form
  have B1 : Below w.heap.size w ((w.alloc (.cells #[.slice p b.length c, .bool cr, .bool skip] 24)).alloc (.cells #[.slice p' b'.length c', .bool cr', .bool skip'] 24)) := ((Below.refl _ _).alloc (Nat.le_refl _) _).alloc (by simp) _
  have q1 := str_of_bytes (hu.call B1)
  have q2 := str_of_bytes (hv.call B1)
  have HB := Lib.hid B1
  clear hu hv B1
  by_cases hb : b = b'
  · subst hb
    by_cases hc : cr = cr'
    · subst hc
      by_cases hs : skip = skip'
      · subst hs
        rw [decide_eq_true rfl]
        go_enter Try.func12, Try.ntmps12
        go_wp2_with fail
        go_ret
        exact ⟨by simp, HB.out⟩
      · have hq : (skip == skip') = false := beq_eq_false_iff_ne.2 hs
        rw [decide_eq_false (by intro e; injection e with _ _ e3; exact hs e3)]
        go_enter Try.func12, Try.ntmps12
        go_wp2_with fail
        go_ret
        exact ⟨by simp [hq, hs], HB.out⟩
    · have hq : (cr == cr') = false := beq_eq_false_iff_ne.2 hc
      rw [decide_eq_false (by intro e; injection e with _ e2 _; exact hc e2)]
      go_enter Try.func12, Try.ntmps12
      go_wp2_with fail
      go_ret
      exact ⟨by simp [hq, hc], HB.out⟩
  · have hq : (b == b') = false := beq_eq_false_iff_ne.2 hb
    rw [decide_eq_false (by intro e; injection e with e1 _ _; exact hb e1)]
    go_enter Try.func12, Try.ntmps12
    go_wp2_with fail
    go_ret
    exact ⟨by simp [hq, hb], HB.out⟩

set_option maxHeartbeats 4000000 in
set_option maxRecDepth 100000 in
theorem rlines_any (ls ms : List (List UInt8 × Bool)) (u v : Value) (hl : ls.length ≤ 1000000) (hm : ms.length ≤ 1000000) (w : World) (hu : LinesIs w u ls) (hv : LinesIs w v ms) :
    Calls Try.prog 13 #[u, v] w fun e w' => e = .returned (.bool (decide (ls = ms))) ∧ Below w.heap.size w w' := by
  obtain ⟨p, c, rfl⟩ := hu.form
  obtain ⟨p', c', rfl⟩ := hv.form
  have HU := Lib.hid hu
  have HV := Lib.hid hv
  clear hu hv
  by_cases hlen : ls.length = ms.length
  · have qn : ((ls.length : Int) != (ms.length : Int)) = false := by simp [hlen]
    go_enter Try.func13, Try.ntmps13
    go_wp2_with fail
    go_loopw [5] (fun x5 wr => ∃ (k : Nat), x5 = .int .i64 (k : Int) ∧ k ≤ ls.length ∧ Hid (ls.take k = ms.take k) ∧ Below w.heap.size w wr) (fun i _ => ls.length - (intOf i).toNat)
    case atStart => exact ⟨0, rfl, Nat.zero_le _, Lib.hid rfl, Below.refl _ _⟩
    case round =>
      obtain ⟨k, rfl, hk, HE, hb⟩ := hrel
      by_cases hlt : k < ls.length
      · have hlt' : k < ms.length := by omega
        obtain ⟨a, oa, rfl, ha, hac⟩ := lines_some HU.out (by intro e; have h0 : ls.length = 0 := List.length_eq_zero_iff.2 e; omega)
        obtain ⟨a', oa', rfl, ha', hac'⟩ := lines_some HV.out (by intro e; have h0 : ms.length = 0 := List.length_eq_zero_iff.2 e; omega)
        obtain ⟨k0, k1⟩ := hac k hlt
        obtain ⟨k2, k3⟩ := hac' k hlt'
        rw [← hb.cell (p := ⟨a, _, none⟩) ha] at k0 k1
        rw [← hb.cell (p := ⟨a', _, none⟩) ha'] at k2 k3
        have HN : Hid (ls[k] = ms[k] → ls.take (k + 1) = ms.take (k + 1)) := Lib.hid (fun h => by rw [List.take_succ_eq_append_getElem hlt, List.take_succ_eq_append_getElem hlt', HE.out, h])
        have HX : Hid (ls[k] ≠ ms[k] → ls ≠ ms) := Lib.hid (fun h e => h (by subst e; rfl))
        have HB := Lib.hid hb.drew
        have eqs := fun W => equal_lines ls[k].1 ms[k].1 ls[k].2 ms[k].2 W
        clear hac hac' HE hb
        generalize ls[k] = x at *
        generalize ms[k] = y at *
        obtain ⟨x1, x2⟩ := x
        obtain ⟨y1, y2⟩ := y
        simp only at k0 k1 k2 k3 eqs
        by_cases hxy : x1 = y1 ∧ x2 = y2
        · obtain ⟨rfl, rfl⟩ := hxy
          have hT := Lib.hid (HN.out rfl)
          have eqt : ∀ W, (Op.equalIn 10000 37 (.agg #[.string ⟨x1.toArray⟩, .bool x2]) (.agg #[.string ⟨x1.toArray⟩, .bool x2])).run Try.prog W = .ok true W := fun W => by rw [eqs]; simp
          clear eqs HN HX
          go_wp2_with fail
          go_region
          go_wp2_with fail
          go_roundw
          case rel => exact ⟨k + 1, by go_num, by omega, hT, HB.out⟩
          case measure => simp [intOf]; omega
        · have hne : (x1 == y1 && x2 == y2) = false := by
            by_cases h : x1 = y1
            · subst h
              have h2 : x2 ≠ y2 := fun h2 => hxy ⟨rfl, h2⟩
              simp [h2]
            · simp [h]
          have hX := Lib.hid (HX.out (by intro e; injection e with e1 e2; exact hxy ⟨e1, e2⟩))
          have eqt : ∀ W, (Op.equalIn 10000 37 (.agg #[.string ⟨x1.toArray⟩, .bool x2]) (.agg #[.string ⟨y1.toArray⟩, .bool y2])).run Try.prog W = .ok false W := fun W => by rw [eqs, hne]
          clear eqs HN HX hne
          go_wp2_with fail
          go_region
          go_wp2_with fail
          go_ret
          exact ⟨by rw [decide_eq_false hX.out]; rfl, HB.out⟩
      · obtain rfl : k = ls.length := by omega
        have he : ls = ms := by have := HE.out; rw [List.take_length, hlen, List.take_length] at this; exact this
        have HB := Lib.hid hb
        have HD := Lib.hid he
        clear hb he HE
        go_wp2_with fail
        go_ret
        exact ⟨by rw [decide_eq_true HD.out]; rfl, HB.out⟩
  · have qn : ((ls.length : Int) != (ms.length : Int)) = true := by simp; omega
    rw [decide_eq_false (by intro e; exact hlen (by rw [e]))]
    go_enter Try.func13, Try.ntmps13
    go_wp2_with fail
    go_ret
    exact ⟨rfl, Below.refl _ _⟩

#print axioms rlines_any
end Go.Proofs.Ytampgoicogfccaa.Ln
