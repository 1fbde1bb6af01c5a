/- What the laws of layer 13 lean on: the contracts of package conf, at values that are known. -/
import Derived.Test.YtmodmfkcigibpaaDoorConfCode
import Derived.Test.YtmodmfkcigibpaaDoorConfRefMay
import Derived.Test.YtmodmfkcigibpaaDoorConfFew
import Derived.Test.YtmodmfkcigibpaaDoorConfSome
import Derived.Test.YtmodmfkcigibpaaDoorEnvBare
import Derived.Lib.SmallJoins
namespace Go.Proofs.YtmodmfkcigibpaaDoor.Co
open Go.Proofs.YtmodmfkcigibpaaDoor Go.Proofs.YtmodmfkcigibpaaDoor.Ac
open Go Go.ChangeShapes Go.WideShapes Go.ChangeAt Go.RowKit
set_option maxRecDepth 100000
set_option linter.unusedSimpArgs false
set_option linter.unusedVariables false

theorem why_of (a b c d : Int) (tv : Value) (pre life idle : Int) (lf : Bool) (l : List Tn) (hf : Few l) (x y : Int) (h : why pre life idle l = (x, y)) (w : World) (E : Env w) (H : TensIs w tv l) :
    Calls Tryd.prog 11 #[confV a b c d tv pre life idle lf] w fun e w' => e = .returned (.tuple #[.int .i64 x, .int .i64 y]) ∧ Below w.heap.size w w' := by
  have := conf_why a b c d tv pre life idle lf l hf w E H
  rw [h] at this; exact this
theorem may_of (a b c d : Int) (tv : Value) (pre life idle : Int) (lf : Bool) (l : List Tn) (hf : Few l) (m : Bool) (h : mayC pre life idle l = m) (w : World) (E : Env w) (H : TensIs w tv l) :
    Calls Tryd.prog 14 #[confV a b c d tv pre life idle lf] w fun e w' => e = .returned (.bool m) ∧ Below w.heap.size w w' := by
  have := conf_may a b c d tv pre life idle lf l hf w E H
  rw [h] at this; exact this
theorem rmay_of (a b c d : Int) (tv : Value) (pre life idle : Int) (lf : Bool) (l : List Tn) (hf : Few l) (m : Bool) (h : mayC pre life idle l = m) (w : World) (H : TensIs w tv l) :
    Calls Tryd.prog 13 #[confV a b c d tv pre life idle lf] w fun e w' => e = .returned (.bool m) ∧ Below w.heap.size w w' := by
  have := rmayc_any a b c d tv pre life idle lf l hf w H
  rw [h] at this; exact this
theorem few_of13 (a b c d : Int) (tv : Value) (pre life idle : Int) (lf : Bool) (l : List Tn) (m : Bool) (h : few l = m) (w : World) (H : TensIs w tv l) :
    Calls Tryd.prog 10 #[confV a b c d tv pre life idle lf] w fun e w' => e = .returned (.bool m) ∧ Below w.heap.size w w' := by
  have := few_any13 a b c d tv pre life idle lf l w H
  rw [h] at this; exact this
theorem fine_may {pre life idle : Int} {l : List Tn} (h : Fine pre life idle l) : mayC pre life idle l = true := by rw [mayC_eq (why_fine h)]; rfl
theorem may_fine {pre life idle : Int} {l : List Tn} (h : mayC pre life idle l = true) : Fine pre life idle l := why_zero (by unfold mayC at h; exact of_decide_eq_true h)
theorem few_sub {l m : List Tn} (h : Few l) (hm : ∀ t ∈ m, t ∈ l) (hl : m.length ≤ 6) : Few m :=
  ⟨hl, fun t ht => h.name t (hm t ht), fun t ht => h.host t (hm t ht), fun t ht => h.rs t (hm t ht), fun t ht => h.texts t (hm t ht)⟩

set_option maxHeartbeats 4000000 in
theorem awake_any (w : World) (E : Env w) : Calls Tryd.prog 9 #[] w fun e w' => e = .returned (.bool true) ∧ Below w.heap.size w w' := by
  have HW := Lib.hid (fun W EW => why_of 0 0 0 0 (.slice none 0 0) 1 1 1 false [] ⟨by decide, by simp, by simp, by simp, by simp⟩ (-1) 1 (by decide +kernel) W EW (TensIs.nil W))
  have HM := Lib.hid (fun tv ra rb W EW HR => may_of 10 0 0 9 tv 4 10 100 false (someL ra rb) (some_few ra rb) true (some_may ra rb) W EW HR)
  have B0 := Lib.hid (Below.refl w.heap.size w)
  go_enter Tryd.func9, Tryd.ntmps9
  go_wp2_with (first
    | (go_at_call 11; refine (HW.out _ (E.below B0.out)).mono ?_; rintro e w1 ⟨rfl, b1⟩; have B1 := Lib.hid (B0.out.trans (b1.mono B0.out.size)); clear HW b1)
    | (go_at_call 17; refine (some_any _).mono ?_; rintro e w2 ⟨⟨p2, n2, c2, ra, rb, rfl, h2⟩, b2⟩; have B2 := Lib.hid (B1.out.trans (b2.mono B1.out.size)); have Y2 := Lib.hid h2; clear b2 h2)
    | (go_at_call 14; refine (HM.out _ _ _ _ (E.below B2.out) Y2.out).mono ?_; rintro e w3 ⟨rfl, b3⟩; have B3 := Lib.hid (B2.out.trans (b3.mono B2.out.size)); clear HM b3))
  all_goals (go_ret; exact ⟨by first | rfl | (simp; done) | (simp; omega), B3.out⟩)

#print axioms awake_any
end Go.Proofs.YtmodmfkcigibpaaDoor.Co
