/- Package acl: what a rule is asked (two function values, and the list that holds them), and whether a rule may have a text as its verb. -/
import Derived.Test.YtojpahnfhhbnoaaDoorRuleArg
import Derived.Test.YtojpahnfhhbnoaaDoorPathMayCode
import Derived.Test.YtojpahnfhhbnoaaDoorVerbCode
import Derived.Test.YtojpahnfhhbnoaaDoorEnvBare
import Derived.Laws.ByValue
namespace Go.Proofs.YtojpahnfhhbnoaaDoor.Ac
open Go.Proofs.YtojpahnfhhbnoaaDoor Go.Proofs.YtojpahnfhhbnoaaDoor.Pt Go.Proofs.YtojpahnfhhbnoaaDoor.Vb
open Go Go.ChangeShapes Go.WideShapes Go.ChangeAt Go.RowKit
set_option maxRecDepth 100000
set_option linter.unusedSimpArgs false
set_option linter.unusedVariables false

/-- the two function values that a rule is asked by, each over the block of its text -/
abbrev ask1 (A : Nat) : Value := .func (.func 29) #[] #[.pointer (some ⟨A, 0, none⟩)]
abbrev ask2 (A : Nat) : Value := .func (.func 30) #[] #[.pointer (some ⟨A, 0, none⟩)]

set_option maxHeartbeats 2000000 in
theorem ask1_any (r : Rl) (v : List UInt8) (A : Nat) (w : World) (hA : w.cell? ⟨A, 0, none⟩ = some (.string ⟨v.toArray⟩)) (hlt : A < w.heap.size) :
    Calls Tryd.prog 29 #[ruleV r, .pointer (some ⟨A, 0, none⟩)] w fun e w' => e = .returned (.bool ((r.v == []) || (r.v == v))) ∧ Below w.heap.size w w' := by
  obtain ⟨a, rv, rp⟩ := r
  have B1 := Lib.hid (fun o => (Below.refl w.heap.size w).alloc (Nat.le_refl _) o)
  cases h1 : (rv == []) with
  | true =>
    go_enter Tryd.func29, Tryd.ntmps29
    go_wp2_with fail
    go_ret
    exact ⟨by simp [h1], B1.out _⟩
  | false =>
    cases h2 : (rv == v) <;> (
      go_enter Tryd.func29, Tryd.ntmps29
      go_wp2_with fail
      go_ret
      exact ⟨by simp [h1, h2], B1.out _⟩)

set_option maxHeartbeats 2000000 in
theorem ask2_any (r : Rl) (p : List UInt8) (hr : r.p.length ≤ 100000) (hp : p.length ≤ 100000) (A : Nat) (w : World) (E : Env w) (hA : w.cell? ⟨A, 0, none⟩ = some (.string ⟨p.toArray⟩)) (hlt : A < w.heap.size) :
    Calls Tryd.prog 30 #[ruleV r, .pointer (some ⟨A, 0, none⟩)] w fun e w' => e = .returned (.bool (under r.p p)) ∧ Below w.heap.size w w' := by
  obtain ⟨a, rv, rp⟩ := r
  have B1 := Lib.hid (fun o => (Below.refl w.heap.size w).alloc (Nat.le_refl _) o)
  have HU := Lib.hid (fun o => under_any rp p hr hp (w.alloc o) (E.alloc o))
  go_enter Tryd.func30, Tryd.ntmps30
  go_wp2_with (go_at_call 16; refine (HU.out _).mono ?_; rintro e w1 ⟨rfl, b1⟩)
  go_ret
  exact ⟨rfl, (B1.out _).trans (b1.mono (B1.out _).size)⟩

set_option maxHeartbeats 2000000 in
theorem asks_any (v p : List UInt8) (w : World) :
    Calls Tryd.prog 20 #[.string ⟨v.toArray⟩, .string ⟨p.toArray⟩] w fun e w' => ∃ A1 A2 A3,
      e = .returned (.slice (some ⟨A3, 0, none⟩) 2 2) ∧ IsRow w' A3 41 #[ask1 A1, ask2 A2] ∧
      IsRow w' A1 9 #[.string ⟨v.toArray⟩] ∧ IsRow w' A2 9 #[.string ⟨p.toArray⟩] ∧ Below w.heap.size w w' := by
  go_enter Tryd.func20, Tryd.ntmps20
  go_wp2_with fail
  go_ret
  refine ⟨w.heap.size, w.heap.size + 1, w.heap.size + 2, rfl, ?_, ?_, ?_, ?_⟩
  · have := IsRow.made ((w.alloc (.cells #[.string ⟨v.toArray⟩] 9)).alloc (.cells #[.string ⟨p.toArray⟩] 9)) 41 #[ask1 w.heap.size, ask2 (w.heap.size + 1)]
    simpa using this
  · exact ((IsRow.made w _ _).alloc _).alloc _
  · have := (IsRow.made (w.alloc (.cells #[.string ⟨v.toArray⟩] 9)) 9 #[.string ⟨p.toArray⟩]).alloc (.cells #[ask1 w.heap.size, ask2 (w.heap.size + 1)] 41)
    simpa using this
  · exact (((Below.refl _ w).alloc (Nat.le_refl _) _).alloc (by simp) _).alloc (by simp; omega) _

/-- a rule may have a text as its verb -/
def verbOk (s : List UInt8) : Bool := (s == []) || ((found s).2 && ((found s).1.name == s))
set_option maxHeartbeats 2000000 in
theorem mayVerb_any (s : List UInt8) (hs : s.length ≤ 100000) (w : World) :
    Calls Tryd.prog 19 #[.string ⟨s.toArray⟩] w fun e w' => e = .returned (.bool (verbOk s)) ∧ Below w.heap.size w w' := by
  have HF := Lib.hid (find_any s hs w)
  unfold verbOk
  generalize found s = q at *
  obtain ⟨⟨qn, qk, qa, qp⟩, z⟩ := q
  have HQ : Hid ((⟨qn, qk, qa, qp⟩ : Vb).name = qn) := Lib.hid rfl
  cases h1 : (s == []) with
  | true =>
    go_enter Tryd.func19, Tryd.ntmps19
    go_wp2_with (go_at_call 28; refine HF.out.mono ?_; rintro e w1 ⟨rfl, b1⟩; have B1 := Lib.hid b1; clear b1)
    go_ret
    exact ⟨by simp, B1.out.alloc B1.out.size _⟩
  | false =>
    cases z <;> cases h2 : (qn == s) <;> (
      go_enter Tryd.func19, Tryd.ntmps19
      go_wp2_with (go_at_call 28; refine HF.out.mono ?_; rintro e w1 ⟨rfl, b1⟩; have B1 := Lib.hid b1; clear b1)
      go_ret
      exact ⟨by simp [h2], B1.out.alloc B1.out.size _⟩)

#print axioms asks_any
#print axioms ask1_any
#print axioms ask2_any
#print axioms mayVerb_any
end Go.Proofs.YtojpahnfhhbnoaaDoor.Ac
