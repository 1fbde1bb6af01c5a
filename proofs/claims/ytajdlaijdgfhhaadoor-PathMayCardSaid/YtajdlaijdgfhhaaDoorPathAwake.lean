/- What the laws of layer 10 lean on: the contracts of path.May, Join, Under, and of the document's answers, at values that are known. -/
import Derived.Test.YtajdlaijdgfhhaaDoorPathCode
import Derived.Test.YtajdlaijdgfhhaaDoorPathRefJoin
import Derived.Test.YtajdlaijdgfhhaaDoorEnvBare
namespace Go.Proofs.YtajdlaijdgfhhaaDoor.Pt
open Go.Proofs.YtajdlaijdgfhhaaDoor Go.Proofs.YtajdlaijdgfhhaaDoor.Cm Go.Proofs.YtajdlaijdgfhhaaDoor.Quad
open Go Go.ChangeShapes Go.WideShapes Go.ChangeAt Go.RowKit
set_option maxRecDepth 100000
set_option linter.unusedSimpArgs false
set_option linter.unusedVariables false

theorem may_at (s : List UInt8) (hs : s.length ≤ 100000) (m : Bool) (h : mayP s = m) (w : World) (E : Env w) :
    Calls Tryd.prog 15 #[.string ⟨s.toArray⟩] w fun e w' => e = .returned (.bool m) ∧ Below w.heap.size w w' := by
  subst h; exact may_any s hs w E
theorem join_at (c a : List UInt8) (hc : c.length ≤ 100000) (ha : a.length ≤ 100000) (x : List UInt8) (n : Int) (h : join c a = (x, n)) (w : World) (E : Env w) :
    Calls Tryd.prog 12 #[.string ⟨c.toArray⟩, .string ⟨a.toArray⟩] w fun e w' => e = .returned (.tuple #[.string ⟨x.toArray⟩, .int .i64 n]) ∧ Below w.heap.size w w' := by
  have := join_any c a hc ha w E
  rw [h] at this; exact this
theorem under_at (a s : List UInt8) (ha : a.length ≤ 100000) (hs : s.length ≤ 100000) (m : Bool) (h : under a s = m) (w : World) (E : Env w) :
    Calls Tryd.prog 16 #[.string ⟨a.toArray⟩, .string ⟨s.toArray⟩] w fun e w' => e = .returned (.bool m) ∧ Below w.heap.size w w' := by
  subst h; exact under_any a s ha hs w E
theorem rjoin_at (c a : List UInt8) (hc : c.length ≤ 100000) (ha : a.length ≤ 100000) (x : List UInt8) (n : Int) (h : join c a = (x, n)) (w : World) :
    Calls Tryd.prog 13 #[.string ⟨c.toArray⟩, .string ⟨a.toArray⟩] w fun e w' => e = .returned (.tuple #[.string ⟨x.toArray⟩, .int .i64 n]) ∧ Below w.heap.size w w' := by
  have := rjoin_any c a hc ha w
  rw [h] at this; exact this
theorem join_lt (c a : List UInt8) : (join c a).1.length ≤ 200 := by
  by_cases h : (join c a).2 = 0
  · exact (may_parts (led h).mayP).short
  · rw [join_err h]; exact Nat.zero_le _

set_option maxHeartbeats 4000000 in
theorem awake_any (w : World) (E : Env w) : Calls Tryd.prog 10 #[] w fun e w' => e = .returned (.bool true) ∧ Below w.heap.size w w' := by
  have HA := Lib.hid (fun W EW => join_at ([47, 97, 47, 98]) ([46, 46, 47, 99]) (by decide) (by decide) ([47, 97, 47, 99]) (0) (by decide +kernel) W EW)
  have HB := Lib.hid (fun W EW => join_at ([47, 97]) ([46, 46, 47, 46, 46, 47, 46, 46]) (by decide) (by decide) ([47]) (0) (by decide +kernel) W EW)
  have HC := Lib.hid (fun W EW => may_at ([47, 97, 47, 99]) (by decide) true (by decide +kernel) W EW)
  have HD := Lib.hid (fun W EW => under_at ([47, 97]) ([47, 97, 47, 99]) (by decide) (by decide) true (by decide +kernel) W EW)
  have HF := Lib.hid (fun W EW => under_at ([47, 98]) ([47, 97, 47, 99]) (by decide) (by decide) false (by decide +kernel) W EW)
  have B0 := Lib.hid (Below.refl w.heap.size w)
  go_enter Tryd.func10, Tryd.ntmps10
  go_wp2_with (first
      | (go_at_call 12; refine (HA.out _ (E.below (B0.out))).mono ?_; rintro e w1 ⟨rfl, b1⟩; have B1 := Lib.hid (B0.out.trans (b1.mono B0.out.size)); clear HA)
      | (go_at_call 12; refine (HB.out _ (E.below (B1.out))).mono ?_; rintro e w2 ⟨rfl, b2⟩; have B2 := Lib.hid (B1.out.trans (b2.mono B1.out.size)); clear HB)
      | (go_at_call 15; refine (HC.out _ (E.below (B2.out))).mono ?_; rintro e w3 ⟨rfl, b3⟩; have B3 := Lib.hid (B2.out.trans (b3.mono B2.out.size)); clear HC)
      | (go_at_call 16; refine (HD.out _ (E.below (B3.out))).mono ?_; rintro e w4 ⟨rfl, b4⟩; have B4 := Lib.hid (B3.out.trans (b4.mono B3.out.size)); clear HD)
      | (go_at_call 16; refine (HF.out _ (E.below (B4.out))).mono ?_; rintro e w5 ⟨rfl, b5⟩; have B5 := Lib.hid (B4.out.trans (b5.mono B4.out.size)); clear HF))
  all_goals (go_ret; exact ⟨by first | rfl | (simp; done) | (simp; omega), B5.out⟩)

#print axioms awake_any
end Go.Proofs.YtajdlaijdgfhhaaDoor.Pt
