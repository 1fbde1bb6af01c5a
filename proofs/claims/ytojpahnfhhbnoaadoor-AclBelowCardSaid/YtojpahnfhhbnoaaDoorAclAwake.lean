/- What the laws of layer 11 lean on: the contracts of package acl at values that are known. -/
import Derived.Test.YtojpahnfhhbnoaaDoorAclCode
import Derived.Test.YtojpahnfhhbnoaaDoorPathMayCode
import Derived.Test.YtojpahnfhhbnoaaDoorAclRefMay
import Derived.Test.YtojpahnfhhbnoaaDoorRuleArg
import Derived.Test.YtojpahnfhhbnoaaDoorEnvBare
namespace Go.Proofs.YtojpahnfhhbnoaaDoor.Ac
open Go.Proofs.YtojpahnfhhbnoaaDoor Go.Proofs.YtojpahnfhhbnoaaDoor.Pt
open Go Go.ChangeShapes Go.WideShapes Go.ChangeAt Go.RowKit
set_option maxRecDepth 100000
set_option linter.unusedSimpArgs false
set_option linter.unusedVariables false

/-- texts that the statements let in -/
def Short (l : List Rl) : Prop := ∀ r ∈ l, r.v.length ≤ 100000 ∧ r.p.length ≤ 100000
theorem short_few {l : List Rl} (h : fewL l = true) : Short l := fun r hr => by
  have := (few_of h).2 r hr
  omega
theorem Short.append {l m : List Rl} (h : Short l) (k : Short m) : Short (l ++ m) := fun r hr => by
  rcases List.mem_append.1 hr with hr | hr
  · exact h r hr
  · exact k r hr
theorem Short.take {l : List Rl} (h : Short l) (n : Nat) : Short (l.take n) := fun r hr => h r (List.mem_of_mem_take hr)
theorem Short.drop {l : List Rl} (h : Short l) (n : Nat) : Short (l.drop n) := fun r hr => h r (List.mem_of_mem_drop hr)
theorem Short.one {r : Rl} (hv : r.v.length ≤ 100000) (hp : r.p.length ≤ 100000) : Short [r] := fun q hq => by rw [List.mem_singleton.1 hq]; exact ⟨hv, hp⟩
theorem may_of (u : Value) (l : List Rl) (hr : Short l) (m : Bool) (h : mayL l = m) (w : World) (E : Env w) (H : RulesIs w u l) :
    Calls Tryd.prog 11 #[u] w fun e w' => e = .returned (.bool m) ∧ Below w.heap.size w w' := by
  subst h; exact acl_may u l hr w E H
theorem which_of (u : Value) (l : List Rl) (v p : List UInt8) (hr : Short l) (hp : p.length ≤ 100000) (k : Int) (h : which l v p = k) (w : World) (E : Env w) (H : RulesIs w u l) :
    Calls Tryd.prog 12 #[u, .string ⟨v.toArray⟩, .string ⟨p.toArray⟩] w fun e w' => e = .returned (.int .i64 k) ∧ Below w.heap.size w w' := by
  subst h; exact acl_which u l v p hr hp w E H
theorem allowed_of (u : Value) (l : List Rl) (v p : List UInt8) (hr : Short l) (hp : p.length ≤ 100000) (m : Bool) (h : allowed l v p = m) (w : World) (E : Env w) (H : RulesIs w u l) :
    Calls Tryd.prog 14 #[u, .string ⟨v.toArray⟩, .string ⟨p.toArray⟩] w fun e w' => e = .returned (.bool m) ∧ Below w.heap.size w w' := by
  subst h; exact acl_allowed u l v p hr hp w E H
theorem pmay_of (s : List UInt8) (hs : s.length ≤ 100000) (m : Bool) (h : mayP s = m) (w : World) (E : Env w) :
    Calls Tryd.prog 15 #[.string ⟨s.toArray⟩] w fun e w' => e = .returned (.bool m) ∧ Below w.heap.size w w' := by
  subst h; exact may_any s hs w E
theorem punder_of (a s : List UInt8) (ha : a.length ≤ 100000) (hs : s.length ≤ 100000) (m : Bool) (h : under a s = m) (w : World) (E : Env w) :
    Calls Tryd.prog 16 #[.string ⟨a.toArray⟩, .string ⟨s.toArray⟩] w fun e w' => e = .returned (.bool m) ∧ Below w.heap.size w w' := by
  subst h; exact under_any a s ha hs w E
theorem few_at (u : Value) (l : List Rl) (m : Bool) (h : fewL l = m) (w : World) (H : RulesIs w u l) :
    Calls Tryd.prog 8 #[u] w fun e w' => e = .returned (.bool m) ∧ Below w.heap.size w w' := by
  subst h; exact few_any u l w H

set_option maxHeartbeats 4000000 in
theorem awake_any (w : World) (E : Env w) : Calls Tryd.prog 7 #[] w fun e w' => e = .returned (.bool true) ∧ Below w.heap.size w w' := by
  have HA := Lib.hid (fun u W EW HR => may_of u [⟨false, [83, 84, 79, 82], [47, 112, 117, 98]⟩, ⟨true, [], [47]⟩] (short_few (by decide +kernel)) true (by decide +kernel) W EW HR)
  have HB := Lib.hid (fun u W EW HR => allowed_of u [⟨false, [83, 84, 79, 82], [47, 112, 117, 98]⟩, ⟨true, [], [47]⟩] [82, 69, 84, 82] [47, 112, 117, 98, 47, 97] (short_few (by decide +kernel)) (by decide) true (by decide +kernel) W EW HR)
  have HC := Lib.hid (fun u W EW HR => allowed_of u [⟨false, [83, 84, 79, 82], [47, 112, 117, 98]⟩, ⟨true, [], [47]⟩] [83, 84, 79, 82] [47, 112, 117, 98, 47, 97] (short_few (by decide +kernel)) (by decide) false (by decide +kernel) W EW HR)
  have HD := Lib.hid (fun u W EW HR => which_of u [⟨false, [83, 84, 79, 82], [47, 112, 117, 98]⟩, ⟨true, [], [47]⟩] [83, 84, 79, 82] [47, 112, 117, 98, 47, 97] (short_few (by decide +kernel)) (by decide) 0 (by decide +kernel) W EW HR)
  have HE := Lib.hid (fun u W EW HR => allowed_of u [] [82, 69, 84, 82] [47] (short_few (by decide +kernel)) (by decide) false (by decide +kernel) W EW HR)
  have HL : Hid (RulesIs (w.alloc (.cells #[.bool false, .string ⟨#[83, 84, 79, 82]⟩, .string ⟨#[47, 112, 117, 98]⟩, .bool true, .string ⟨#[]⟩, .string ⟨#[47]⟩] 28)) (.slice (some ⟨w.heap.size, 0, none⟩) 2 2) [⟨false, [83, 84, 79, 82], [47, 112, 117, 98]⟩, ⟨true, [], [47]⟩]) := Lib.hid (OwnRules.rules (base := w.heap.size) (World.ownsRow_lit w #[.bool false, .string ⟨#[83, 84, 79, 82]⟩, .string ⟨#[47, 112, 117, 98]⟩, .bool true, .string ⟨#[]⟩, .string ⟨#[47]⟩] 2 (Nat.le_refl _) (by unfold maxLen; omega) rfl))
  have B0 := Lib.hid (Below.refl w.heap.size w)
  go_enter Tryd.func7, Tryd.ntmps7
  go_wp2_with (first
      | (go_at_call 11; refine (HA.out _ _ (E.below ((B0.out).alloc B0.out.size (.cells #[.bool false, .string ⟨#[83, 84, 79, 82]⟩, .string ⟨#[47, 112, 117, 98]⟩, .bool true, .string ⟨#[]⟩, .string ⟨#[47]⟩] 28))) HL.out).mono ?_; rintro e w1 ⟨rfl, b1⟩; have B1 := Lib.hid (((B0.out).alloc B0.out.size (.cells #[.bool false, .string ⟨#[83, 84, 79, 82]⟩, .string ⟨#[47, 112, 117, 98]⟩, .bool true, .string ⟨#[]⟩, .string ⟨#[47]⟩] 28)).trans (b1.mono (by have := B0.out.size; simp <;> omega))); have R1 := Lib.hid (HL.out.call b1); clear HA HL)
      | (go_at_call 14; refine (HB.out _ _ (E.below (B1.out)) R1.out).mono ?_; rintro e w2 ⟨rfl, b2⟩; have B2 := Lib.hid (B1.out.trans (b2.mono B1.out.size)); have R2 := Lib.hid (R1.out.call b2); clear HB R1)
      | (go_at_call 14; refine (HC.out _ _ (E.below (B2.out)) R2.out).mono ?_; rintro e w3 ⟨rfl, b3⟩; have B3 := Lib.hid (B2.out.trans (b3.mono B2.out.size)); have R3 := Lib.hid (R2.out.call b3); clear HC R2)
      | (go_at_call 12; refine (HD.out _ _ (E.below (B3.out)) R3.out).mono ?_; rintro e w4 ⟨rfl, b4⟩; have B4 := Lib.hid (B3.out.trans (b4.mono B3.out.size)); have R4 := Lib.hid (R3.out.call b4); clear HD R3)
      | (go_at_call 14; refine (HE.out _ _ (E.below (B4.out)) (RulesIs.nil _)).mono ?_; rintro e w5 ⟨rfl, b5⟩; have B5 := Lib.hid (B4.out.trans (b5.mono B4.out.size)); have R5 := Lib.hid (R4.out.call b5); clear HE R4))
  all_goals (go_ret; exact ⟨by first | rfl | (simp; done) | (simp; omega), B5.out⟩)

#print axioms awake_any
end Go.Proofs.YtojpahnfhhbnoaaDoor.Ac
