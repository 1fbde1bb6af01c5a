/- Proved: for every login and code: one is in only by a 230 or a 232 of its server, behind its USER, or its PASS; what is told off begins anew. Conditions: none beyond the row's own (the library's variables start as the program's text lays them: the card ties them). -/
import Derived.Test.YtkkajbnonfnbjaaLoginAwake
import Derived.BigQuiet
import Derived.Deep.QuietTactic
import Derived.Lib.QuietBelow

namespace Go.Proofs.Ytkkajbnonfnbjaa.loginIn
open Go.Proofs.Ytkkajbnonfnbjaa Go.Proofs.Ytkkajbnonfnbjaa.Lo Go.Proofs.Ytkkajbnonfnbjaa.Ro Go.Sort
open Go.ChangeShapes Go.WideShapes Go.ChangeAt Go.RowKit Go.Sort Go.ChangeMaps
set_option linter.unusedSimpArgs false
set_option linter.unusedVariables false
set_option linter.unusedVariables false in
set_option maxHeartbeats 16000000 in
set_option maxRecDepth 100000 in
theorem walk (q0 : Lg) (z0 : q0.Wf) (n1 : Int) (l1 : -9223372036854775808 ≤ n1) (h1 : n1 ≤ 9223372036854775807) (w : World)  (E : Env w) :
    Calls Try.prog 5 #[loginV q0, .int .i64 n1] w fun e w' => e = .returned (.bool true) ∧ Below w.heap.size w w' := by
  have AWK := Lib.hid (fun W EW => awake_any W EW)
  have B0 := Lib.hid (Below.refl w.heap.size w)
  rcases hear_ways q0 n1 with ⟨hs, e⟩ | ⟨hc, hp, ⟨h2, -, e⟩ | ⟨h2, -, e⟩ | ⟨h2, hcc, e⟩ | ⟨-, -, -, e⟩⟩
  · clear hs
    by_cases g6 : q0.ph = 6
    · have a6 : (q0.ph == 6) = true := beq_iff_eq.2 g6
      have b6 : (q0.ph != 6) = false := by rw [g6]; rfl
      clear g6
      have heq : ∀ W, (Op.equalIn 10000 23 (.agg #[.int .i64 q0.ph, .int .i64 q0.te, .string ⟨q0.us.toArray⟩]) (.agg #[.int .i64 q0.ph, .int .i64 q0.te, .string ⟨q0.us.toArray⟩])).run Try.prog W = .ok true W := fun W => by
        have := equal_logins q0 q0 W
        rw [eqL_self] at this
        exact this
      have HA := Lib.hid (fun W => heard_of q0 q0 n1 0 l1 h1 e W)
      clear e z0
      go_enter Try.func5, Try.ntmps5
      go_wp2_with (first
          | (go_at_call 10; refine (AWK.out _ (E.below ((B0.out).alloc B0.out.size (.cells #[.int .i64 q0.ph, .int .i64 q0.te, .string ⟨q0.us.toArray⟩] 23)))).mono ?_; rintro e w1 ⟨rfl, b1⟩; have B1 := Lib.hid (((B0.out).alloc B0.out.size (.cells #[.int .i64 q0.ph, .int .i64 q0.te, .string ⟨q0.us.toArray⟩] 23)).trans (b1.mono (by have := B0.out.size; simp <;> omega))); have QB1 := Lib.hid ((IsRow.made w 23 #[.int .i64 q0.ph, .int .i64 q0.te, .string ⟨q0.us.toArray⟩]).call b1); have QBc0 : w1.cell? ⟨w.heap.size, 0, none⟩ = some (.int .i64 q0.ph) := QB1.out.cell 0; have QBc1 : w1.cell? ⟨w.heap.size, 1, none⟩ = some (.int .i64 q0.te) := QB1.out.cell 1; have QBc2 : w1.cell? ⟨w.heap.size, 2, none⟩ = some (.string ⟨q0.us.toArray⟩) := QB1.out.cell 2; have QBlt : w.heap.size < w1.heap.size := QB1.out.lt)
          | (go_at_call 17; refine (HA.out _).mono ?_; rintro e w2 ⟨rfl, b2⟩; have B2 := Lib.hid (B1.out.trans (b2.mono B1.out.size)); have QB2 := Lib.hid (QB1.out.call b2); clear QBc0 QBc1 QBc2 QBlt; have QBc0 : w2.cell? ⟨w.heap.size, 0, none⟩ = some (.int .i64 q0.ph) := QB2.out.cell 0; have QBc1 : w2.cell? ⟨w.heap.size, 1, none⟩ = some (.int .i64 q0.te) := QB2.out.cell 1; have QBc2 : w2.cell? ⟨w.heap.size, 2, none⟩ = some (.string ⟨q0.us.toArray⟩) := QB2.out.cell 2; have QBlt : w.heap.size < w2.heap.size := QB2.out.lt; clear HA; clear QB1))
      all_goals (go_ret; exact ⟨by first | rfl | (simp; done) | (simp; omega), (B2.out).alloc B2.out.size (.cells #[.int .i64 q0.ph, .int .i64 q0.te, .string ⟨q0.us.toArray⟩] 23)⟩)
    · have a6 : (q0.ph == 6) = false := beq_eq_false_iff_ne.2 g6
      clear g6
      have heq : ∀ W, (Op.equalIn 10000 23 (.agg #[.int .i64 q0.ph, .int .i64 q0.te, .string ⟨q0.us.toArray⟩]) (.agg #[.int .i64 q0.ph, .int .i64 q0.te, .string ⟨q0.us.toArray⟩])).run Try.prog W = .ok true W := fun W => by
        have := equal_logins q0 q0 W
        rw [eqL_self] at this
        exact this
      have HA := Lib.hid (fun W => heard_of q0 q0 n1 0 l1 h1 e W)
      clear e z0
      go_enter Try.func5, Try.ntmps5
      go_wp2_with (first
          | (go_at_call 10; refine (AWK.out _ (E.below ((B0.out).alloc B0.out.size (.cells #[.int .i64 q0.ph, .int .i64 q0.te, .string ⟨q0.us.toArray⟩] 23)))).mono ?_; rintro e w1 ⟨rfl, b1⟩; have B1 := Lib.hid (((B0.out).alloc B0.out.size (.cells #[.int .i64 q0.ph, .int .i64 q0.te, .string ⟨q0.us.toArray⟩] 23)).trans (b1.mono (by have := B0.out.size; simp <;> omega))); have QB1 := Lib.hid ((IsRow.made w 23 #[.int .i64 q0.ph, .int .i64 q0.te, .string ⟨q0.us.toArray⟩]).call b1); have QBc0 : w1.cell? ⟨w.heap.size, 0, none⟩ = some (.int .i64 q0.ph) := QB1.out.cell 0; have QBc1 : w1.cell? ⟨w.heap.size, 1, none⟩ = some (.int .i64 q0.te) := QB1.out.cell 1; have QBc2 : w1.cell? ⟨w.heap.size, 2, none⟩ = some (.string ⟨q0.us.toArray⟩) := QB1.out.cell 2; have QBlt : w.heap.size < w1.heap.size := QB1.out.lt)
          | (go_at_call 17; refine (HA.out _).mono ?_; rintro e w2 ⟨rfl, b2⟩; have B2 := Lib.hid (B1.out.trans (b2.mono B1.out.size)); have QB2 := Lib.hid (QB1.out.call b2); clear QBc0 QBc1 QBc2 QBlt; have QBc0 : w2.cell? ⟨w.heap.size, 0, none⟩ = some (.int .i64 q0.ph) := QB2.out.cell 0; have QBc1 : w2.cell? ⟨w.heap.size, 1, none⟩ = some (.int .i64 q0.te) := QB2.out.cell 1; have QBc2 : w2.cell? ⟨w.heap.size, 2, none⟩ = some (.string ⟨q0.us.toArray⟩) := QB2.out.cell 2; have QBlt : w.heap.size < w2.heap.size := QB2.out.lt; clear HA; clear QB1))
      all_goals (go_ret; exact ⟨by first | rfl | (simp; done) | (simp; omega), (B2.out).alloc B2.out.size (.cells #[.int .i64 q0.ph, .int .i64 q0.te, .string ⟨q0.us.toArray⟩] 23)⟩)
  · clear hc hp h2
    have HA := Lib.hid (fun W => heard_of q0 ⟨3, q0.te, q0.us⟩ n1 1 l1 h1 e W)
    clear e z0
    go_enter Try.func5, Try.ntmps5
    go_wp2_with (first
        | (go_at_call 10; refine (AWK.out _ (E.below ((B0.out).alloc B0.out.size (.cells #[.int .i64 q0.ph, .int .i64 q0.te, .string ⟨q0.us.toArray⟩] 23)))).mono ?_; rintro e w1 ⟨rfl, b1⟩; have B1 := Lib.hid (((B0.out).alloc B0.out.size (.cells #[.int .i64 q0.ph, .int .i64 q0.te, .string ⟨q0.us.toArray⟩] 23)).trans (b1.mono (by have := B0.out.size; simp <;> omega))); have QB1 := Lib.hid ((IsRow.made w 23 #[.int .i64 q0.ph, .int .i64 q0.te, .string ⟨q0.us.toArray⟩]).call b1); have QBc0 : w1.cell? ⟨w.heap.size, 0, none⟩ = some (.int .i64 q0.ph) := QB1.out.cell 0; have QBc1 : w1.cell? ⟨w.heap.size, 1, none⟩ = some (.int .i64 q0.te) := QB1.out.cell 1; have QBc2 : w1.cell? ⟨w.heap.size, 2, none⟩ = some (.string ⟨q0.us.toArray⟩) := QB1.out.cell 2; have QBlt : w.heap.size < w1.heap.size := QB1.out.lt)
        | (go_at_call 17; refine (HA.out _).mono ?_; rintro e w2 ⟨rfl, b2⟩; have B2 := Lib.hid (B1.out.trans (b2.mono B1.out.size)); have QB2 := Lib.hid (QB1.out.call b2); clear QBc0 QBc1 QBc2 QBlt; have QBc0 : w2.cell? ⟨w.heap.size, 0, none⟩ = some (.int .i64 q0.ph) := QB2.out.cell 0; have QBc1 : w2.cell? ⟨w.heap.size, 1, none⟩ = some (.int .i64 q0.te) := QB2.out.cell 1; have QBc2 : w2.cell? ⟨w.heap.size, 2, none⟩ = some (.string ⟨q0.us.toArray⟩) := QB2.out.cell 2; have QBlt : w.heap.size < w2.heap.size := QB2.out.lt; clear HA; clear QB1))
    all_goals (go_ret; exact ⟨by first | rfl | (simp; done) | (simp; omega), (B2.out).alloc B2.out.size (.cells #[.int .i64 3, .int .i64 q0.te, .string ⟨q0.us.toArray⟩] 23)⟩)
  · clear hc hp h2
    have HA := Lib.hid (fun W => heard_of q0 ⟨4, q0.te, q0.us⟩ n1 2 l1 h1 e W)
    clear e z0
    go_enter Try.func5, Try.ntmps5
    go_wp2_with (first
        | (go_at_call 10; refine (AWK.out _ (E.below ((B0.out).alloc B0.out.size (.cells #[.int .i64 q0.ph, .int .i64 q0.te, .string ⟨q0.us.toArray⟩] 23)))).mono ?_; rintro e w1 ⟨rfl, b1⟩; have B1 := Lib.hid (((B0.out).alloc B0.out.size (.cells #[.int .i64 q0.ph, .int .i64 q0.te, .string ⟨q0.us.toArray⟩] 23)).trans (b1.mono (by have := B0.out.size; simp <;> omega))); have QB1 := Lib.hid ((IsRow.made w 23 #[.int .i64 q0.ph, .int .i64 q0.te, .string ⟨q0.us.toArray⟩]).call b1); have QBc0 : w1.cell? ⟨w.heap.size, 0, none⟩ = some (.int .i64 q0.ph) := QB1.out.cell 0; have QBc1 : w1.cell? ⟨w.heap.size, 1, none⟩ = some (.int .i64 q0.te) := QB1.out.cell 1; have QBc2 : w1.cell? ⟨w.heap.size, 2, none⟩ = some (.string ⟨q0.us.toArray⟩) := QB1.out.cell 2; have QBlt : w.heap.size < w1.heap.size := QB1.out.lt)
        | (go_at_call 17; refine (HA.out _).mono ?_; rintro e w2 ⟨rfl, b2⟩; have B2 := Lib.hid (B1.out.trans (b2.mono B1.out.size)); have QB2 := Lib.hid (QB1.out.call b2); clear QBc0 QBc1 QBc2 QBlt; have QBc0 : w2.cell? ⟨w.heap.size, 0, none⟩ = some (.int .i64 q0.ph) := QB2.out.cell 0; have QBc1 : w2.cell? ⟨w.heap.size, 1, none⟩ = some (.int .i64 q0.te) := QB2.out.cell 1; have QBc2 : w2.cell? ⟨w.heap.size, 2, none⟩ = some (.string ⟨q0.us.toArray⟩) := QB2.out.cell 2; have QBlt : w.heap.size < w2.heap.size := QB2.out.lt; clear HA; clear QB1))
    all_goals (go_ret; exact ⟨by first | rfl | (simp; done) | (simp; omega), (B2.out).alloc B2.out.size (.cells #[.int .i64 4, .int .i64 q0.te, .string ⟨q0.us.toArray⟩] 23)⟩)
  · have a6 : (q0.ph != 6) = true := bne_iff_ne.2 (by omega)
    have t1 : (q0.te == q0.te) = true := by simp
    have t2 : (q0.us == q0.us) = true := by simp
    have hc' : (n1 == 230) = true ∨ ((n1 == 230) = false ∧ (n1 == 232) = true) := by
      by_cases g : n1 = 230
      · exact Or.inl (beq_iff_eq.2 g)
      · exact Or.inr ⟨beq_eq_false_iff_ne.2 g, beq_iff_eq.2 (by omega)⟩
    have hp' : (q0.ph == 3) = true ∨ ((q0.ph == 3) = false ∧ (q0.ph == 5) = true) := by
      by_cases g : q0.ph = 3
      · exact Or.inl (beq_iff_eq.2 g)
      · exact Or.inr ⟨beq_eq_false_iff_ne.2 g, beq_iff_eq.2 (by omega)⟩
    clear hc hp h2 hcc
    rcases hc' with c1 | ⟨c1, c2⟩ <;> rcases hp' with p1 | ⟨p1, p2⟩
    · have HA := Lib.hid (fun W => heard_of q0 ⟨6, q0.te, q0.us⟩ n1 4 l1 h1 e W)
      clear e z0
      go_enter Try.func5, Try.ntmps5
      go_wp2_with (first
          | (go_at_call 10; refine (AWK.out _ (E.below ((B0.out).alloc B0.out.size (.cells #[.int .i64 q0.ph, .int .i64 q0.te, .string ⟨q0.us.toArray⟩] 23)))).mono ?_; rintro e w1 ⟨rfl, b1⟩; have B1 := Lib.hid (((B0.out).alloc B0.out.size (.cells #[.int .i64 q0.ph, .int .i64 q0.te, .string ⟨q0.us.toArray⟩] 23)).trans (b1.mono (by have := B0.out.size; simp <;> omega))); have QB1 := Lib.hid ((IsRow.made w 23 #[.int .i64 q0.ph, .int .i64 q0.te, .string ⟨q0.us.toArray⟩]).call b1); have QBc0 : w1.cell? ⟨w.heap.size, 0, none⟩ = some (.int .i64 q0.ph) := QB1.out.cell 0; have QBc1 : w1.cell? ⟨w.heap.size, 1, none⟩ = some (.int .i64 q0.te) := QB1.out.cell 1; have QBc2 : w1.cell? ⟨w.heap.size, 2, none⟩ = some (.string ⟨q0.us.toArray⟩) := QB1.out.cell 2; have QBlt : w.heap.size < w1.heap.size := QB1.out.lt)
          | (go_at_call 17; refine (HA.out _).mono ?_; rintro e w2 ⟨rfl, b2⟩; have B2 := Lib.hid (B1.out.trans (b2.mono B1.out.size)); have QB2 := Lib.hid (QB1.out.call b2); clear QBc0 QBc1 QBc2 QBlt; have QBc0 : w2.cell? ⟨w.heap.size, 0, none⟩ = some (.int .i64 q0.ph) := QB2.out.cell 0; have QBc1 : w2.cell? ⟨w.heap.size, 1, none⟩ = some (.int .i64 q0.te) := QB2.out.cell 1; have QBc2 : w2.cell? ⟨w.heap.size, 2, none⟩ = some (.string ⟨q0.us.toArray⟩) := QB2.out.cell 2; have QBlt : w.heap.size < w2.heap.size := QB2.out.lt; clear HA; clear QB1))
      all_goals (go_ret; exact ⟨by first | rfl | (simp; done) | (simp; omega), (B2.out).alloc B2.out.size (.cells #[.int .i64 6, .int .i64 q0.te, .string ⟨q0.us.toArray⟩] 23)⟩)
    · have HA := Lib.hid (fun W => heard_of q0 ⟨6, q0.te, q0.us⟩ n1 4 l1 h1 e W)
      clear e z0
      go_enter Try.func5, Try.ntmps5
      go_wp2_with (first
          | (go_at_call 10; refine (AWK.out _ (E.below ((B0.out).alloc B0.out.size (.cells #[.int .i64 q0.ph, .int .i64 q0.te, .string ⟨q0.us.toArray⟩] 23)))).mono ?_; rintro e w1 ⟨rfl, b1⟩; have B1 := Lib.hid (((B0.out).alloc B0.out.size (.cells #[.int .i64 q0.ph, .int .i64 q0.te, .string ⟨q0.us.toArray⟩] 23)).trans (b1.mono (by have := B0.out.size; simp <;> omega))); have QB1 := Lib.hid ((IsRow.made w 23 #[.int .i64 q0.ph, .int .i64 q0.te, .string ⟨q0.us.toArray⟩]).call b1); have QBc0 : w1.cell? ⟨w.heap.size, 0, none⟩ = some (.int .i64 q0.ph) := QB1.out.cell 0; have QBc1 : w1.cell? ⟨w.heap.size, 1, none⟩ = some (.int .i64 q0.te) := QB1.out.cell 1; have QBc2 : w1.cell? ⟨w.heap.size, 2, none⟩ = some (.string ⟨q0.us.toArray⟩) := QB1.out.cell 2; have QBlt : w.heap.size < w1.heap.size := QB1.out.lt)
          | (go_at_call 17; refine (HA.out _).mono ?_; rintro e w2 ⟨rfl, b2⟩; have B2 := Lib.hid (B1.out.trans (b2.mono B1.out.size)); have QB2 := Lib.hid (QB1.out.call b2); clear QBc0 QBc1 QBc2 QBlt; have QBc0 : w2.cell? ⟨w.heap.size, 0, none⟩ = some (.int .i64 q0.ph) := QB2.out.cell 0; have QBc1 : w2.cell? ⟨w.heap.size, 1, none⟩ = some (.int .i64 q0.te) := QB2.out.cell 1; have QBc2 : w2.cell? ⟨w.heap.size, 2, none⟩ = some (.string ⟨q0.us.toArray⟩) := QB2.out.cell 2; have QBlt : w.heap.size < w2.heap.size := QB2.out.lt; clear HA; clear QB1))
      all_goals (go_ret; exact ⟨by first | rfl | (simp; done) | (simp; omega), (B2.out).alloc B2.out.size (.cells #[.int .i64 6, .int .i64 q0.te, .string ⟨q0.us.toArray⟩] 23)⟩)
    · have HA := Lib.hid (fun W => heard_of q0 ⟨6, q0.te, q0.us⟩ n1 4 l1 h1 e W)
      clear e z0
      go_enter Try.func5, Try.ntmps5
      go_wp2_with (first
          | (go_at_call 10; refine (AWK.out _ (E.below ((B0.out).alloc B0.out.size (.cells #[.int .i64 q0.ph, .int .i64 q0.te, .string ⟨q0.us.toArray⟩] 23)))).mono ?_; rintro e w1 ⟨rfl, b1⟩; have B1 := Lib.hid (((B0.out).alloc B0.out.size (.cells #[.int .i64 q0.ph, .int .i64 q0.te, .string ⟨q0.us.toArray⟩] 23)).trans (b1.mono (by have := B0.out.size; simp <;> omega))); have QB1 := Lib.hid ((IsRow.made w 23 #[.int .i64 q0.ph, .int .i64 q0.te, .string ⟨q0.us.toArray⟩]).call b1); have QBc0 : w1.cell? ⟨w.heap.size, 0, none⟩ = some (.int .i64 q0.ph) := QB1.out.cell 0; have QBc1 : w1.cell? ⟨w.heap.size, 1, none⟩ = some (.int .i64 q0.te) := QB1.out.cell 1; have QBc2 : w1.cell? ⟨w.heap.size, 2, none⟩ = some (.string ⟨q0.us.toArray⟩) := QB1.out.cell 2; have QBlt : w.heap.size < w1.heap.size := QB1.out.lt)
          | (go_at_call 17; refine (HA.out _).mono ?_; rintro e w2 ⟨rfl, b2⟩; have B2 := Lib.hid (B1.out.trans (b2.mono B1.out.size)); have QB2 := Lib.hid (QB1.out.call b2); clear QBc0 QBc1 QBc2 QBlt; have QBc0 : w2.cell? ⟨w.heap.size, 0, none⟩ = some (.int .i64 q0.ph) := QB2.out.cell 0; have QBc1 : w2.cell? ⟨w.heap.size, 1, none⟩ = some (.int .i64 q0.te) := QB2.out.cell 1; have QBc2 : w2.cell? ⟨w.heap.size, 2, none⟩ = some (.string ⟨q0.us.toArray⟩) := QB2.out.cell 2; have QBlt : w.heap.size < w2.heap.size := QB2.out.lt; clear HA; clear QB1))
      all_goals (go_ret; exact ⟨by first | rfl | (simp; done) | (simp; omega), (B2.out).alloc B2.out.size (.cells #[.int .i64 6, .int .i64 q0.te, .string ⟨q0.us.toArray⟩] 23)⟩)
    · have HA := Lib.hid (fun W => heard_of q0 ⟨6, q0.te, q0.us⟩ n1 4 l1 h1 e W)
      clear e z0
      go_enter Try.func5, Try.ntmps5
      go_wp2_with (first
          | (go_at_call 10; refine (AWK.out _ (E.below ((B0.out).alloc B0.out.size (.cells #[.int .i64 q0.ph, .int .i64 q0.te, .string ⟨q0.us.toArray⟩] 23)))).mono ?_; rintro e w1 ⟨rfl, b1⟩; have B1 := Lib.hid (((B0.out).alloc B0.out.size (.cells #[.int .i64 q0.ph, .int .i64 q0.te, .string ⟨q0.us.toArray⟩] 23)).trans (b1.mono (by have := B0.out.size; simp <;> omega))); have QB1 := Lib.hid ((IsRow.made w 23 #[.int .i64 q0.ph, .int .i64 q0.te, .string ⟨q0.us.toArray⟩]).call b1); have QBc0 : w1.cell? ⟨w.heap.size, 0, none⟩ = some (.int .i64 q0.ph) := QB1.out.cell 0; have QBc1 : w1.cell? ⟨w.heap.size, 1, none⟩ = some (.int .i64 q0.te) := QB1.out.cell 1; have QBc2 : w1.cell? ⟨w.heap.size, 2, none⟩ = some (.string ⟨q0.us.toArray⟩) := QB1.out.cell 2; have QBlt : w.heap.size < w1.heap.size := QB1.out.lt)
          | (go_at_call 17; refine (HA.out _).mono ?_; rintro e w2 ⟨rfl, b2⟩; have B2 := Lib.hid (B1.out.trans (b2.mono B1.out.size)); have QB2 := Lib.hid (QB1.out.call b2); clear QBc0 QBc1 QBc2 QBlt; have QBc0 : w2.cell? ⟨w.heap.size, 0, none⟩ = some (.int .i64 q0.ph) := QB2.out.cell 0; have QBc1 : w2.cell? ⟨w.heap.size, 1, none⟩ = some (.int .i64 q0.te) := QB2.out.cell 1; have QBc2 : w2.cell? ⟨w.heap.size, 2, none⟩ = some (.string ⟨q0.us.toArray⟩) := QB2.out.cell 2; have QBlt : w.heap.size < w2.heap.size := QB2.out.lt; clear HA; clear QB1))
      all_goals (go_ret; exact ⟨by first | rfl | (simp; done) | (simp; omega), (B2.out).alloc B2.out.size (.cells #[.int .i64 6, .int .i64 q0.te, .string ⟨q0.us.toArray⟩] 23)⟩)
  · have hge : (200 : Int) ≤ n1 := by omega
    clear hc hp
    have heq : ∀ W, (Op.equalIn 10000 23 (.agg #[.int .i64 0, .int .i64 (-1), .string ⟨#[]⟩]) (.agg #[.int .i64 0, .int .i64 (-1), .string ⟨#[]⟩])).run Try.prog W = .ok true W := fun W => by
      have := equal_logins ⟨0, -1, []⟩ ⟨0, -1, []⟩ W
      rw [eqL_self] at this
      exact this
    have HA := Lib.hid (fun W => heard_of q0 ⟨0, -1, []⟩ n1 3 l1 h1 e W)
    clear e z0
    go_enter Try.func5, Try.ntmps5
    go_wp2_with (first
        | (go_at_call 10; refine (AWK.out _ (E.below ((B0.out).alloc B0.out.size (.cells #[.int .i64 q0.ph, .int .i64 q0.te, .string ⟨q0.us.toArray⟩] 23)))).mono ?_; rintro e w1 ⟨rfl, b1⟩; have B1 := Lib.hid (((B0.out).alloc B0.out.size (.cells #[.int .i64 q0.ph, .int .i64 q0.te, .string ⟨q0.us.toArray⟩] 23)).trans (b1.mono (by have := B0.out.size; simp <;> omega))); have QB1 := Lib.hid ((IsRow.made w 23 #[.int .i64 q0.ph, .int .i64 q0.te, .string ⟨q0.us.toArray⟩]).call b1); have QBc0 : w1.cell? ⟨w.heap.size, 0, none⟩ = some (.int .i64 q0.ph) := QB1.out.cell 0; have QBc1 : w1.cell? ⟨w.heap.size, 1, none⟩ = some (.int .i64 q0.te) := QB1.out.cell 1; have QBc2 : w1.cell? ⟨w.heap.size, 2, none⟩ = some (.string ⟨q0.us.toArray⟩) := QB1.out.cell 2; have QBlt : w.heap.size < w1.heap.size := QB1.out.lt)
        | (go_at_call 17; refine (HA.out _).mono ?_; rintro e w2 ⟨rfl, b2⟩; have B2 := Lib.hid (B1.out.trans (b2.mono B1.out.size)); have QB2 := Lib.hid (QB1.out.call b2); clear QBc0 QBc1 QBc2 QBlt; have QBc0 : w2.cell? ⟨w.heap.size, 0, none⟩ = some (.int .i64 q0.ph) := QB2.out.cell 0; have QBc1 : w2.cell? ⟨w.heap.size, 1, none⟩ = some (.int .i64 q0.te) := QB2.out.cell 1; have QBc2 : w2.cell? ⟨w.heap.size, 2, none⟩ = some (.string ⟨q0.us.toArray⟩) := QB2.out.cell 2; have QBlt : w.heap.size < w2.heap.size := QB2.out.lt; clear HA; clear QB1))
    obtain ⟨v0, hv⟩ : ∃ V, w2.alloc (.cells #[.int .i64 0, .int .i64 (-1), .string ⟨#[]⟩] 23) = V := ⟨_, rfl⟩
    have RM : IsRow v0 (w2.heap.size) 23 #[.int .i64 0, .int .i64 (-1), .string ⟨#[]⟩] := by rw [← hv]; exact IsRow.made _ _ _
    have BV : Below w.heap.size w v0 := by rw [← hv]; exact B2.out.alloc B2.out.size _
    rw [hv]
    clear hv
    have k0 := cell_regrown (show v0.cell? ⟨w2.heap.size, 0, none⟩ = some (.int .i64 0) from RM.cell 0)
    have k1 := cell_regrown (show v0.cell? ⟨w2.heap.size, 1, none⟩ = some (.int .i64 (-1)) from RM.cell 1)
    have k2 := cell_regrown (show v0.cell? ⟨w2.heap.size, 2, none⟩ = some (.string ⟨#[]⟩) from RM.cell 2)
    have KN := Lib.hid (show ∀ dd os, Calls Try.prog 21 #[] (grow (redrawn v0 dd) os) fun e w'' => e = .returned (.agg #[.int .i64 0, .int .i64 (-1), .string ⟨#[]⟩]) ∧ ∃ p : Regrown, w'' = grow (redrawn v0 p.d) p.os from fun dd os => Calls.regrown_of (new_any _))
    refine wp_region_quiet_below (by kernel_rfl) (by kernel_rfl) ?_
    repeat (go_big_quiet_step (first | with_reducible exact KN.out _ _))
    refine wpQuiet_nil ?_
    intro _ hw'
    obtain ⟨⟨dq, osq⟩, hw''⟩ := hw'
    subst hw''
    go_wp2_with fail
    go_ret
    exact ⟨by first | rfl | (simp; done) | (simp; omega), BV.trans ((below_regrown v0 dq osq).mono BV.size)⟩

set_option maxRecDepth 100000 in
theorem lifted (os : Os) (started : os.Started) (H : Type) (enc : TypeId × Value → H) :
    ReturnsInHanded {} Try.checked os 5 .any (Rows.loginInSpec.pre6 enc Try.prog Try.f5 Rows.loginInRow.domain false) (Rows.loginInSpec.post enc Try.prog Try.f5 false true false false) := by
  refine returnsInHanded_of_change (C := Try.checked) ownKnobs started (by kernel_rfl) Try.func5
    (ChangeSpec.witness6 (enc := enc) (C := Try.checked) false ⟨#[], #[.agg #[.int .i64 0, .int .i64 0, .string ⟨#[]⟩], .int .i64 0], []⟩ 8 (by kernel_rfl) (by kernel_rfl) (by kernel_rfl) (by kernel_rfl)) ?_
  intro W base args ds gs before hval0 hW _ _
  have E : Env W := trivial
  have hval : ∀ (j : Nat) t v, Try.f5.params[j]? = some t → args[j]? = some v → Value.okWide Try.prog W .any base t v := hval0
  have hW' := hW
  obtain ⟨p, q, hA0, hV, rfl, _, _⟩ := hW
  have hA : DataW.TrodAll enc Try.prog W 0 (fun _ => true) true Try.f5.params.toList args.toList ds p := hA0
  rw [Try.params5] at hA hval
  obtain ⟨v0, vs0, d0, ds0, p0, q0, hargs, rfl, rfl, r0, t0⟩ := trodAll_cons hA
  obtain ⟨v1, vs1, d1, ds1, p1, q1, rfl, rfl, rfl, r1, t1⟩ := trodAll_cons t0
  obtain ⟨rfl, rfl, rfl⟩ := trodAll_nil t1
  obtain rfl : args = #[v0, v1] := by cases args; simp_all
  obtain ⟨rfl, rfl⟩ := trodVars_none hV
  obtain ⟨q0, rfl, z0⟩ := open_login (hval 0 23 v0 rfl rfl) r0
  obtain ⟨n1, rfl, rfl, rfl, w1⟩ := open_int Try.underlying3 (hval 1 3 v1 rfl rfl) r1
  clear hA0 hval0
  simp only [List.append_nil] at hW'
  refine (walk q0 z0 n1 (int_wf w1).1 (int_wf w1).2 W  E).mono fun e W' ⟨he, hb⟩ => ?_
  subst he
  have t0' := Below.trod laid_out (by kernel_rfl) (of_decide_eq_true (by kernel_rfl)) r0 hb (fun x hx => hW'.lt x (by simp [hx]))
  exact ⟨_, rfl, told hW' (fun _ _ _ => trodAll_cons_mk (shut_bool Try.underlying4 _) trodAll_mk0) (trodAll_cons_mk (t0') (trodAll_cons_mk (shut_int Try.underlying3 w1) trodAll_mk0)) (fun _ => rfl) hb⟩

theorem over : Rows.loginInRow.holds Try.pinned (OpenSpec.ofChange Rows.loginInSpec) :=
  OpenClaim.holds_of_wide 5 Try.f5 rfl rfl rfl rfl rfl rfl rfl ⟨rfl, rfl, rfl, rfl, rfl⟩ rfl rfl rfl rfl rfl (by kernel_rfl) Try.func5 (by kernel_rfl)
    (of_decide_eq_true (by kernel_rfl)) (by unfold Func.isWrapper; first | (rw [if_pos (by decide +kernel)]; kernel_rfl) | (rw [if_neg (by decide +kernel)]; exact ⟨rfl, rfl⟩))
    (fun os started H enc _ => lifted os started H enc)

theorem proved : Rows.LoginInSaid :=
  over
#print axioms proved
end Go.Proofs.Ytkkajbnonfnbjaa.loginIn
