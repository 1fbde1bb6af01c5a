/- What the laws of layer 15 lean on: the contracts of package pool, and of the document's answer, at values that are known. -/
import Derived.Test.YtpmmdlfgocjniaaPoolCode
import Derived.Test.YtpmmdlfgocjniaaPoolRef
import Derived.Test.YtpmmdlfgocjniaaEnvBare
import Derived.Lib.SmallJoins
namespace Go.Proofs.Ytpmmdlfgocjniaa.Po
open Go.Proofs.Ytpmmdlfgocjniaa
open Go Go.ChangeShapes Go.WideShapes Go.ChangeAt Go.RowKit
set_option maxRecDepth 100000
set_option linter.unusedSimpArgs false
set_option linter.unusedVariables false

instance (l : List Int) : Decidable (Wf l) := inferInstanceAs (Decidable (_ = true))

theorem pick_of (low high draw : Int) (dl : -9223372036854775808 ≤ draw) (dh : draw ≤ 9223372036854775807) (u : Value) (l : List Int) (hl : l.length ≤ 100000) (p : Int) (b : Bool) (h : pick low high draw l = (p, b)) (w : World) (E : Env w) (H : IntsIs w u l) (l0 : -9223372036854775808 ≤ low := by omega) (l1 : low ≤ 9223372036854775807 := by omega) (h0 : -9223372036854775808 ≤ high := by omega) (h1 : high ≤ 9223372036854775807 := by omega) (hwf : Wf l := by first | assumption | decide | exact wf_more (by assumption) (by omega) (by omega) | exact wf_all (by omega) (by omega) (by omega) | exact wf_most (by omega) (by omega) (by omega)) :
    Calls Try.prog 9 #[.int .i64 low, .int .i64 high, .int .i64 draw, u] w fun e w' => e = .returned (.tuple #[.int .i64 p, .bool b]) ∧ Below w.heap.size w w' := by
  have := pool_pick low high draw l0 l1 h0 h1 dl dh u l hl hwf w E H
  rw [h] at this; exact this
theorem rpick_of (low high draw : Int) (u : Value) (l : List Int) (p : Int) (b : Bool) (h : pick low high draw l = (p, b)) (w : World) (H : IntsIs w u l) :
    Calls Try.prog 10 #[.int .i64 low, .int .i64 high, .int .i64 draw, u] w fun e w' => e = .returned (.tuple #[.int .i64 p, .bool b]) ∧ Below w.heap.size w w' := by
  have := rpick_any low high draw u l w H
  rw [h] at this
  exact this.mono fun _ _ ⟨he, hw⟩ => ⟨he, by subst hw; exact Below.refl _ _⟩
theorem free_of (low high : Int) (u : Value) (l : List Int) (hl : l.length ≤ 100000) (n : Int) (h : free low high l = n) (w : World) (E : Env w) (H : IntsIs w u l) (l0 : -9223372036854775808 ≤ low := by omega) (l1 : low ≤ 9223372036854775807 := by omega) (h0 : -9223372036854775808 ≤ high := by omega) (h1 : high ≤ 9223372036854775807 := by omega) (hwf : Wf l := by first | assumption | decide | exact wf_more (by assumption) (by omega) (by omega) | exact wf_all (by omega) (by omega) (by omega) | exact wf_most (by omega) (by omega) (by omega)) :
    Calls Try.prog 11 #[.int .i64 low, .int .i64 high, u] w fun e w' => e = .returned (.int .i64 n) ∧ Below w.heap.size w w' := by
  have := pool_free low high l0 l1 h0 h1 u l hl hwf w E H
  rw [h] at this; exact this
theorem rfree_of (low high : Int) (u : Value) (l : List Int) (n : Int) (h : free low high l = n) (w : World) (H : IntsIs w u l) :
    Calls Try.prog 12 #[.int .i64 low, .int .i64 high, u] w fun e w' => e = .returned (.int .i64 n) ∧ Below w.heap.size w w' := by
  have := rfree_any low high u l w H
  rw [h] at this
  exact this.mono fun _ _ ⟨he, hw⟩ => ⟨he, by subst hw; exact Below.refl _ _⟩
theorem rhas_of (u : Value) (l : List Int) (n : Int) (b : Bool) (h : l.contains n = b) (w : World) (H : IntsIs w u l) :
    Calls Try.prog 13 #[u, .int .i64 n] w fun e w' => e = .returned (.bool b) ∧ Below w.heap.size w w' := by
  have := rhas_any u l n w H
  rw [h] at this
  exact this.mono fun _ _ ⟨he, hw⟩ => ⟨he, by subst hw; exact Below.refl _ _⟩

set_option maxHeartbeats 4000000 in
theorem awake_any (w : World) (E : Env w) : Calls Try.prog 8 #[] w fun e w' => e = .returned (.bool true) ∧ Below w.heap.size w w' := by
  have HP := Lib.hid (fun u W EW HR => pick_of 2000 2002 4 (by decide) (by decide) u [2001] (by decide) 2002 true (by decide +kernel) W EW HR)
  have HF := Lib.hid (fun u W EW HR => free_of 2000 2002 u [2001, 2001] (by decide) 2 (by decide +kernel) W EW HR)
  have B0 := Lib.hid (Below.refl w.heap.size w)
  go_enter Try.func8, Try.ntmps8
  go_wp2_with (first
      | (go_at_call 9; refine (HP.out _ _ (E.below ((B0.out).alloc B0.out.size (.cells #[.int .i64 2001] 3))) (ints_one w 2001)).mono ?_; rintro e w1 ⟨rfl, b1⟩; have B1 := Lib.hid (((B0.out).alloc B0.out.size (.cells #[.int .i64 2001] 3)).trans (b1.mono (by have := B0.out.size; simp <;> omega))); clear HP)
      | (go_at_call 11; refine (HF.out _ _ (E.below ((B1.out).alloc B1.out.size (.cells #[.int .i64 2001, .int .i64 2001] 3))) (ints_new w1 [2001, 2001] (by show 2 ≤ maxLen; decide))).mono ?_; rintro e w2 ⟨rfl, b2⟩; have B2 := Lib.hid (((B1.out).alloc B1.out.size (.cells #[.int .i64 2001, .int .i64 2001] 3)).trans (b2.mono (by have := B1.out.size; simp <;> omega))); clear HF))
  all_goals (go_ret; exact ⟨by first | rfl | (simp; done) | (simp; omega), B2.out⟩)

#print axioms awake_any
end Go.Proofs.Ytpmmdlfgocjniaa.Po
