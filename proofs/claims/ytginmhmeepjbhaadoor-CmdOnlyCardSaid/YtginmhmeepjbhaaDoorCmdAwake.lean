/- The contract of awake, layer 8. -/
import Derived.Test.YtginmhmeepjbhaaDoorCmdCode
import Derived.Test.YtginmhmeepjbhaaDoorCmdRefRead
import Derived.Test.YtginmhmeepjbhaaDoorEnvBare
namespace Go.Proofs.YtginmhmeepjbhaaDoor.Cm
open Go.Proofs.YtginmhmeepjbhaaDoor Go.Proofs.YtginmhmeepjbhaaDoor.Vb
open Go.ChangeShapes Go.WideShapes Go.ChangeAt Go.RowKit
set_option linter.unusedSimpArgs false

theorem verbs_at {w : World} {b o n c : Nat} {l : List Vb} (h : VerbsIs w (.slice (some ⟨b, o, none⟩) n c) l) (i : Nat) (hi : i < l.length) : w.cell? ⟨b, o + i * 4, none⟩ = some (.string ⟨l[i].name.toArray⟩) ∧ w.cell? ⟨b, o + i * 4 + 1, none⟩ = some (.int .i64 l[i].kind) ∧ w.cell? ⟨b, o + i * 4 + 2, none⟩ = some (.int .i64 l[i].arg) ∧ w.cell? ⟨b, o + i * 4 + 3, none⟩ = some (.bool l[i].path) := by
  obtain ⟨b', o', e, _, h2⟩ := verbs_open h
  injection e with e
  injection e with e1 e2 _
  subst e1
  subst e2
  exact h2 i hi

set_option maxHeartbeats 4000000 in
set_option maxRecDepth 100000 in
theorem awake_any (w : World) (E : Env w) : Calls Tryd.prog 9 #[] w fun e w' => e = .returned (.bool true) ∧ Below w.heap.size w w' := by
  have HA : Hid (∀ W, Env W → Calls Tryd.prog 13 #[.string ⟨#[114, 101, 116, 114, 32, 97, 32, 98]⟩] W fun e w' => e = .returned (.tuple #[.agg #[.string ⟨#[82, 69, 84, 82]⟩, .string ⟨#[97, 32, 98]⟩], .int .i64 0]) ∧ Below W.heap.size W w') := Lib.hid (fun W EW => by
    have h := read_any [114, 101, 116, 114, 32, 97, 32, 98] (by decide) W EW
    rw [show read [114, 101, 116, 114, 32, 97, 32, 98] = (([82, 69, 84, 82], [97, 32, 98]), 0) from by decide +kernel] at h
    exact h)
  have HB : Hid (∀ W, Env W → Calls Tryd.prog 13 #[.string ⟨#[78, 79, 79, 80, 32, 120]⟩] W fun e w' => e = .returned (.tuple #[.agg #[.string ⟨#[]⟩, .string ⟨#[]⟩], .int .i64 1]) ∧ Below W.heap.size W w') := Lib.hid (fun W EW => by
    have h := read_any [78, 79, 79, 80, 32, 120] (by decide) W EW
    rw [show read [78, 79, 79, 80, 32, 120] = (([], []), 1) from by decide +kernel] at h
    exact h)
  have HP : Hid (∀ W, Calls Tryd.prog 11 #[.agg #[.string ⟨#[82, 69, 84, 82]⟩, .string ⟨#[97, 32, 98]⟩]] W fun e w' => e = .returned (.tuple #[.string ⟨#[82, 69, 84, 82, 32, 97, 32, 98]⟩, .bool true]) ∧ Below W.heap.size W w') := Lib.hid (fun W => by
    have h := print_any [82, 69, 84, 82] [97, 32, 98] (by decide) (by decide) W
    rw [show print [82, 69, 84, 82] [97, 32, 98] = ([82, 69, 84, 82, 32, 97, 32, 98], true) from by decide +kernel] at h
    exact h)
  have HM : Hid (∀ W, Calls Tryd.prog 16 #[.agg #[.string ⟨#[82, 69, 84, 82]⟩, .string ⟨#[97, 32, 98]⟩]] W fun e w' => e = .returned (.bool true) ∧ Below W.heap.size W w') := Lib.hid (fun W => by
    have h := may_any [82, 69, 84, 82] [97, 32, 98] (by decide) (by decide) W
    rw [show may [82, 69, 84, 82] [97, 32, 98] = true from by decide +kernel] at h
    exact h)
  have HC : Hid (∀ W, Calls Tryd.prog 17 #[.string ⟨#[82, 69, 84, 82, 32, 97, 32, 98]⟩] W fun e w' => e = .returned (.bool true) ∧ Below W.heap.size W w') := Lib.hid (fun W => by
    have h := clean_any [82, 69, 84, 82, 32, 97, 32, 98] (by decide) W
    rw [show clean [82, 69, 84, 82, 32, 97, 32, 98] = true from by decide +kernel] at h
    exact h)
  have eqs : ∀ W, (Op.equalIn 10000 23 (.agg #[.string ⟨#[82, 69, 84, 82]⟩, .string ⟨#[97, 32, 98]⟩]) (.agg #[.string ⟨#[82, 69, 84, 82]⟩, .string ⟨#[97, 32, 98]⟩])).run Tryd.prog W = .ok true W := fun W => by
    have := equal_cmds [82, 69, 84, 82] [97, 32, 98] [82, 69, 84, 82] [97, 32, 98] W
    rw [decide_eq_true ⟨rfl, rfl⟩] at this
    exact this
  go_enter Tryd.func9, Tryd.ntmps9
  go_wp2_with (first
    | (go_at_call 13; refine (HA.out _ E).mono ?_; rintro e w1 ⟨rfl, b1⟩; have B1 := Lib.hid b1; have Q1 := IsRow.made w1 23 #[.string ⟨#[82, 69, 84, 82]⟩, .string ⟨#[97, 32, 98]⟩]; clear HA b1)
    | (go_at_call 13; refine (HB.out _ (E.below (B1.out.alloc B1.out.size (.cells #[.string ⟨#[82, 69, 84, 82]⟩, .string ⟨#[97, 32, 98]⟩] 23)))).mono ?_; rintro e w2 ⟨rfl, b2⟩; have B2 := Lib.hid ((B1.out.alloc B1.out.size (.cells #[.string ⟨#[82, 69, 84, 82]⟩, .string ⟨#[97, 32, 98]⟩] 23)).trans (b2.mono (by have := B1.out.size; simp; omega))); have Q2 := Q1.call b2; have lt2 := Q2.lt; have d0 : w2.cell? ⟨w1.heap.size, 0, none⟩ = some (.string ⟨#[82, 69, 84, 82]⟩) := Q2.cell 0; have d1 : w2.cell? ⟨w1.heap.size, 1, none⟩ = some (.string ⟨#[97, 32, 98]⟩) := Q2.cell 1; clear HB b2)
    | (go_at_call 11; refine (HP.out _).mono ?_; rintro e w3 ⟨rfl, b3⟩; have B3 := Lib.hid ((B2.out.alloc B2.out.size (.cells #[.string ⟨#[]⟩, .string ⟨#[]⟩] 23)).trans (b3.mono (by have := B2.out.size; simp; omega))); have Q3 := (Q2.alloc (.cells #[.string ⟨#[]⟩, .string ⟨#[]⟩] 23)).call b3; clear d0 d1; have d0 : w3.cell? ⟨w1.heap.size, 0, none⟩ = some (.string ⟨#[82, 69, 84, 82]⟩) := Q3.cell 0; have d1 : w3.cell? ⟨w1.heap.size, 1, none⟩ = some (.string ⟨#[97, 32, 98]⟩) := Q3.cell 1; clear HP b3)
    | (go_at_call 16; refine (HM.out _).mono ?_; rintro e w4 ⟨rfl, b4⟩; have B4 := Lib.hid (B3.out.trans (b4.mono B3.out.size)); clear HM b4)
    | (go_at_call 17; refine (HC.out _).mono ?_; rintro e w5 ⟨rfl, b5⟩; have B5 := Lib.hid (B4.out.trans (b5.mono B4.out.size)); clear HC b5))
  go_ret
  exact ⟨by first | rfl | simp, B5.out⟩

#print axioms awake_any
end Go.Proofs.YtginmhmeepjbhaaDoor.Cm
