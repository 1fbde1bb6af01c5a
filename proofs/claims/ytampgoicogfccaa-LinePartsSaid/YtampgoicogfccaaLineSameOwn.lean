/- The contract of package line: Same. -/
import Derived.Test.YtampgoicogfccaaLineSame
import Derived.Test.YtampgoicogfccaaShelf
import Derived.Lib.IndexAny
namespace Go.Proofs.Ytampgoicogfccaa.Ln
open Go.Proofs.Ytampgoicogfccaa
open Go.ChangeShapes Go.WideShapes Go.ChangeAt Go.RowKit
set_option linter.unusedSimpArgs false

theorem list_data (l l' : List UInt8) : ((ByteArray.mk l.toArray).toList == (ByteArray.mk l'.toArray).toList) = decide (l = l') := by
  rw [Lib.toList_data, Lib.toList_data]
  show (l == l') = _
  by_cases h : l = l'
  · simp [h]
  · simp [h]

set_option maxHeartbeats 4000000 in
set_option maxRecDepth 100000 in
theorem same_any (f g : Fr) (u v : Value) (w : World) (hu : BytesIs w u f.b) (hv : BytesIs w v g.b) :
    Calls Try.prog 16 #[framerV u f.cr f.skip, framerV v g.cr g.skip] w fun e w' => e = .returned (.bool (decide (f = g))) ∧ Below w.heap.size w w' := by
  obtain ⟨b, cr, skip⟩ := f
  obtain ⟨b', cr', skip'⟩ := g
  simp only at hu hv
  obtain ⟨p, c, rfl⟩ := hu.form
  obtain ⟨p', c', rfl⟩ := hv.form
  have B1 : Below w.heap.size w ((w.alloc (.cells #[.slice p b.length c, .bool cr, .bool skip] 24)).alloc (.cells #[.slice p' b'.length c', .bool cr', .bool skip'] 24)) := ((Below.refl _ _).alloc (Nat.le_refl _) _).alloc (by simp) _
  have KE := Try.bytes_Equal_strs _ _ _ _ _ (str_of_bytes (hu.call B1)) (str_of_bytes (hv.call B1))
  rw [list_data] at KE
  have HK := Lib.hid KE
  have HB := Lib.hid B1
  clear hu hv B1 KE
  by_cases hb : b = b'
  · have HB1 := Lib.hid hb
    rw [decide_eq_true hb] at HK
    clear hb
    by_cases hc : cr = cr'
    · subst hc
      have e1 : (cr == cr) = true := by simp
      by_cases hs : skip = skip'
      · subst hs
        have e2 : (skip == skip) = true := by simp
        rw [decide_eq_true (by rw [HB1.out] : (⟨b, cr, skip⟩ : Fr) = ⟨b', cr, skip⟩)]
        go_enter Try.func16, Try.ntmps16
        go_wp2_with (go_at_call 22; refine HK.out.mono ?_; rintro e w2 ⟨rfl, rfl⟩)
        go_ret
        exact ⟨by simp, HB.out⟩
      · have hq : (skip == skip') = false := beq_eq_false_iff_ne.2 hs
        rw [decide_eq_false (by intro e; injection e with _ _ e3; exact hs e3)]
        go_enter Try.func16, Try.ntmps16
        go_wp2_with (go_at_call 22; refine HK.out.mono ?_; rintro e w2 ⟨rfl, rfl⟩)
        go_ret
        exact ⟨by simp [hq, hs], HB.out⟩
    · have hq : (cr == cr') = false := beq_eq_false_iff_ne.2 hc
      rw [decide_eq_false (by intro e; injection e with _ e2 _; exact hc e2)]
      go_enter Try.func16, Try.ntmps16
      go_wp2_with (go_at_call 22; refine HK.out.mono ?_; rintro e w2 ⟨rfl, rfl⟩)
      go_ret
      exact ⟨by simp [hq, hc], HB.out⟩
  · rw [decide_eq_false hb] at HK
    rw [decide_eq_false (by intro e; injection e with e1 _ _; exact hb e1)]
    clear hb
    go_enter Try.func16, Try.ntmps16
    go_wp2_with (go_at_call 22; refine HK.out.mono ?_; rintro e w2 ⟨rfl, rfl⟩)
    go_ret
    exact ⟨by simp, HB.out⟩

#print axioms same_any
end Go.Proofs.Ytampgoicogfccaa.Ln
