/- Proved: for every login, tenants, text and code (held against 4 tenants, 200 bytes): what begins by a 1 changes nothing; a password is told just where one is wanted, who one is just at the beginning. Conditions: none beyond the row's own (the library's variables start as the program's text lays them: the card ties them). -/
import Derived.Test.YtkkajbnonfnbjaaLoginAwake
import Derived.BigQuiet
import Derived.Deep.QuietTactic
import Derived.Lib.QuietBelow

namespace Go.Proofs.Ytkkajbnonfnbjaa.loginWaits
open Go.Proofs.Ytkkajbnonfnbjaa Go.Proofs.Ytkkajbnonfnbjaa.Lo Go.Proofs.Ytkkajbnonfnbjaa.Ro Go.Sort
open Go.ChangeShapes Go.WideShapes Go.ChangeAt Go.RowKit Go.Sort Go.ChangeMaps
set_option linter.unusedSimpArgs false
set_option linter.unusedVariables false
set_option linter.unusedVariables false in
set_option maxHeartbeats 16000000 in
set_option maxRecDepth 100000 in
theorem walk (q0 : Lg) (z0 : q0.Wf) (u1 : Value) (s1 : List (List UInt8)) (s2 : List UInt8) (z2 : s2.length ≤ 9223372036854775807) (n3 : Int) (l3 : -9223372036854775808 ≤ n3) (h3 : n3 ≤ 9223372036854775807) (w : World) (y1 : HostsIs w u1 s1) (E : Env w) :
    Calls Try.prog 8 #[loginV q0, u1, str s2, .int .i64 n3] w fun e w' => e = .returned (.bool true) ∧ Below w.heap.size w w' := by
  have AWK := Lib.hid (fun W EW => awake_any W EW)
  have B0 := Lib.hid (Below.refl w.heap.size w)
  obtain ⟨p, n, c, rfl, hn⟩ := y1.form
  have HN := Lib.hid hn
  have YL0 := Lib.hid y1
  clear hn y1
  by_cases g1 : 4 < n
  · have g1' : (4 : Int) < (n : Int) := by omega
    go_enter Try.func8, Try.ntmps8
    go_wp2_with (first
        | (go_at_call 10; refine (AWK.out _ (E.below ((B0.out).alloc B0.out.size (.cells #[.int .i64 q0.ph, .int .i64 q0.te, .string ⟨q0.us.toArray⟩] 23)))).mono ?_; rintro e w1 ⟨rfl, b1⟩; have B1 := Lib.hid (((B0.out).alloc B0.out.size (.cells #[.int .i64 q0.ph, .int .i64 q0.te, .string ⟨q0.us.toArray⟩] 23)).trans (b1.mono (by have := B0.out.size; simp <;> omega))); have QB1 := Lib.hid ((IsRow.made w 23 #[.int .i64 q0.ph, .int .i64 q0.te, .string ⟨q0.us.toArray⟩]).call b1); have QBc0 : w1.cell? ⟨w.heap.size, 0, none⟩ = some (.int .i64 q0.ph) := QB1.out.cell 0; have QBc1 : w1.cell? ⟨w.heap.size, 1, none⟩ = some (.int .i64 q0.te) := QB1.out.cell 1; have QBc2 : w1.cell? ⟨w.heap.size, 2, none⟩ = some (.string ⟨q0.us.toArray⟩) := QB1.out.cell 2; have QBlt : w.heap.size < w1.heap.size := QB1.out.lt; have YL1 := Lib.hid ((YL0.out.alloc (.cells #[.int .i64 q0.ph, .int .i64 q0.te, .string ⟨q0.us.toArray⟩] 23)).call b1); clear YL0))
    all_goals (go_ret; exact ⟨by first | rfl | (simp; done) | (simp; omega), B1.out⟩)
  have g1' : ¬ (4 : Int) < (n : Int) := by omega
  by_cases g2 : 200 < s2.length
  · have g2' : (200 : Int) < (s2.length : Int) := by omega
    go_enter Try.func8, Try.ntmps8
    go_wp2_with (first
        | (go_at_call 10; refine (AWK.out _ (E.below ((B0.out).alloc B0.out.size (.cells #[.int .i64 q0.ph, .int .i64 q0.te, .string ⟨q0.us.toArray⟩] 23)))).mono ?_; rintro e w1 ⟨rfl, b1⟩; have B1 := Lib.hid (((B0.out).alloc B0.out.size (.cells #[.int .i64 q0.ph, .int .i64 q0.te, .string ⟨q0.us.toArray⟩] 23)).trans (b1.mono (by have := B0.out.size; simp <;> omega))); have QB1 := Lib.hid ((IsRow.made w 23 #[.int .i64 q0.ph, .int .i64 q0.te, .string ⟨q0.us.toArray⟩]).call b1); have QBc0 : w1.cell? ⟨w.heap.size, 0, none⟩ = some (.int .i64 q0.ph) := QB1.out.cell 0; have QBc1 : w1.cell? ⟨w.heap.size, 1, none⟩ = some (.int .i64 q0.te) := QB1.out.cell 1; have QBc2 : w1.cell? ⟨w.heap.size, 2, none⟩ = some (.string ⟨q0.us.toArray⟩) := QB1.out.cell 2; have QBlt : w.heap.size < w1.heap.size := QB1.out.lt; have YL1 := Lib.hid ((YL0.out.alloc (.cells #[.int .i64 q0.ph, .int .i64 q0.te, .string ⟨q0.us.toArray⟩] 23)).call b1); clear YL0))
    all_goals (go_ret; exact ⟨by first | rfl | (simp; done) | (simp; omega), B1.out⟩)
  have g2' : ¬ (200 : Int) < (s2.length : Int) := by omega
  obtain ⟨r1, k1, e1⟩ : ∃ r k, passL q0 = (r, k) := ⟨_, _, rfl⟩
  obtain ⟨r2, k2, e2⟩ : ∃ r k, userL q0 s1 s2 = (r, k) := ⟨_, _, rfl⟩
  obtain ⟨r3, k3, e3⟩ : ∃ r k, dialL q0 true = (r, k) := ⟨_, _, rfl⟩
  obtain ⟨r4, k4, e4⟩ : ∃ r k, hearL q0 n3 = (r, k) := ⟨_, _, rfl⟩
  have x1 : (k1 == 0) = (q0.ph == 4) := by
    rcases pass_ways q0 with ⟨h, e'⟩ | ⟨h, e'⟩ <;> (rw [e'] at e1; injection e1 with a b; subst b)
    · rw [h]; rfl
    · rw [beq_eq_false_iff_ne.2 h]; rfl
  have x2 : (k2 == 7) = (q0.ph != 0) := by
    rcases user_ways q0 s1 s2 with ⟨h, e'⟩ | ⟨h, k', hk', e'⟩ | ⟨h, t, u, -, -, -, e'⟩ <;> (rw [e'] at e2; injection e2 with a b; subst b)
    · rw [bne_iff_ne.2 h]; rfl
    · rw [h]; rcases hk' with rfl | rfl <;> rfl
    · rw [h]; rfl
  have x3 : (k3 == 0) = (q0.ph == 1) := by
    rcases dial_ways q0 true with ⟨h, -, e'⟩ | ⟨h, h', e'⟩ | ⟨h, e'⟩
    · rw [e'] at e3; injection e3 with a b; subst b; rw [h]; rfl
    · cases h'
    · rw [e'] at e3; injection e3 with a b; subst b; rw [beq_eq_false_iff_ne.2 h]; rfl
  obtain ⟨m1, f1⟩ : ∃ b, (q0.ph == 4) = b := ⟨_, rfl⟩
  obtain ⟨m2, f2⟩ : ∃ b, (q0.ph != 0) = b := ⟨_, rfl⟩
  obtain ⟨m3, f3⟩ : ∃ b, (q0.ph == 1) = b := ⟨_, rfl⟩
  rw [f1] at x1
  rw [f2] at x2
  rw [f3] at x3
  have y1 : (m1 != m1) = false := by simp
  have y2 : (m2 != m2) = false := by simp
  have y3 : (m3 != m3) = false := by simp
  have HA1 := Lib.hid (fun W => pass_of q0 r1 k1 e1 W)
  have HA2 := Lib.hid (fun W HR => user_of q0 r2 (.slice p n c) s1 s2 (by omega) k2 e2 W HR)
  have HA3 := Lib.hid (fun W => dial_of q0 r3 true k3 e3 W)
  by_cases gc : (200 : Int) ≤ n3
  · have HA4 := Lib.hid (fun W => heard_of q0 r4 n3 k4 l3 h3 e4 W)
    clear e1 e2 e3 e4 z0
    go_enter Try.func8, Try.ntmps8
    go_wp2_with (first
        | (go_at_call 10; refine (AWK.out _ (E.below ((B0.out).alloc B0.out.size (.cells #[.int .i64 q0.ph, .int .i64 q0.te, .string ⟨q0.us.toArray⟩] 23)))).mono ?_; rintro e w1 ⟨rfl, b1⟩; have B1 := Lib.hid (((B0.out).alloc B0.out.size (.cells #[.int .i64 q0.ph, .int .i64 q0.te, .string ⟨q0.us.toArray⟩] 23)).trans (b1.mono (by have := B0.out.size; simp <;> omega))); have QB1 := Lib.hid ((IsRow.made w 23 #[.int .i64 q0.ph, .int .i64 q0.te, .string ⟨q0.us.toArray⟩]).call b1); have QBc0 : w1.cell? ⟨w.heap.size, 0, none⟩ = some (.int .i64 q0.ph) := QB1.out.cell 0; have QBc1 : w1.cell? ⟨w.heap.size, 1, none⟩ = some (.int .i64 q0.te) := QB1.out.cell 1; have QBc2 : w1.cell? ⟨w.heap.size, 2, none⟩ = some (.string ⟨q0.us.toArray⟩) := QB1.out.cell 2; have QBlt : w.heap.size < w1.heap.size := QB1.out.lt; have YL1 := Lib.hid ((YL0.out.alloc (.cells #[.int .i64 q0.ph, .int .i64 q0.te, .string ⟨q0.us.toArray⟩] 23)).call b1); clear YL0)
        | (go_at_call 13; refine (HA1.out _).mono ?_; rintro e w2 ⟨rfl, b2⟩; have B2 := Lib.hid (B1.out.trans (b2.mono B1.out.size)); have QB2 := Lib.hid (QB1.out.call b2); clear QBc0 QBc1 QBc2 QBlt; have QBc0 : w2.cell? ⟨w.heap.size, 0, none⟩ = some (.int .i64 q0.ph) := QB2.out.cell 0; have QBc1 : w2.cell? ⟨w.heap.size, 1, none⟩ = some (.int .i64 q0.te) := QB2.out.cell 1; have QBc2 : w2.cell? ⟨w.heap.size, 2, none⟩ = some (.string ⟨q0.us.toArray⟩) := QB2.out.cell 2; have QBlt : w.heap.size < w2.heap.size := QB2.out.lt; have YL2 := Lib.hid (YL1.out.call b2); clear YL1; clear HA1; clear QB1)
        | (go_at_call 11; refine (HA2.out _ (YL2.out.alloc (.cells #[.int .i64 r1.ph, .int .i64 r1.te, .string ⟨r1.us.toArray⟩] 23))).mono ?_; rintro e w3 ⟨rfl, b3⟩; have B3 := Lib.hid (((B2.out).alloc B2.out.size (.cells #[.int .i64 r1.ph, .int .i64 r1.te, .string ⟨r1.us.toArray⟩] 23)).trans (b3.mono (by have := B2.out.size; simp <;> omega))); have QB3 := Lib.hid ((QB2.out.alloc (.cells #[.int .i64 r1.ph, .int .i64 r1.te, .string ⟨r1.us.toArray⟩] 23)).call b3); clear QBc0 QBc1 QBc2 QBlt; have QBc0 : w3.cell? ⟨w.heap.size, 0, none⟩ = some (.int .i64 q0.ph) := QB3.out.cell 0; have QBc1 : w3.cell? ⟨w.heap.size, 1, none⟩ = some (.int .i64 q0.te) := QB3.out.cell 1; have QBc2 : w3.cell? ⟨w.heap.size, 2, none⟩ = some (.string ⟨q0.us.toArray⟩) := QB3.out.cell 2; have QBlt : w.heap.size < w3.heap.size := QB3.out.lt; have YL3 := Lib.hid ((YL2.out.alloc (.cells #[.int .i64 r1.ph, .int .i64 r1.te, .string ⟨r1.us.toArray⟩] 23)).call b3); clear YL2; clear HA2; clear QB2)
        | (go_at_call 15; refine (HA3.out _).mono ?_; rintro e w4 ⟨rfl, b4⟩; have B4 := Lib.hid (((B3.out).alloc B3.out.size (.cells #[.int .i64 r2.ph, .int .i64 r2.te, .string ⟨r2.us.toArray⟩] 23)).trans (b4.mono (by have := B3.out.size; simp <;> omega))); have QB4 := Lib.hid ((QB3.out.alloc (.cells #[.int .i64 r2.ph, .int .i64 r2.te, .string ⟨r2.us.toArray⟩] 23)).call b4); clear QBc0 QBc1 QBc2 QBlt; have QBc0 : w4.cell? ⟨w.heap.size, 0, none⟩ = some (.int .i64 q0.ph) := QB4.out.cell 0; have QBc1 : w4.cell? ⟨w.heap.size, 1, none⟩ = some (.int .i64 q0.te) := QB4.out.cell 1; have QBc2 : w4.cell? ⟨w.heap.size, 2, none⟩ = some (.string ⟨q0.us.toArray⟩) := QB4.out.cell 2; have QBlt : w.heap.size < w4.heap.size := QB4.out.lt; have YL4 := Lib.hid ((YL3.out.alloc (.cells #[.int .i64 r2.ph, .int .i64 r2.te, .string ⟨r2.us.toArray⟩] 23)).call b4); clear YL3; clear HA3; clear QB3)
        | (go_at_call 17; refine (HA4.out _).mono ?_; rintro e w5 ⟨rfl, b5⟩; have B5 := Lib.hid (((B4.out).alloc B4.out.size (.cells #[.int .i64 r3.ph, .int .i64 r3.te, .string ⟨r3.us.toArray⟩] 23)).trans (b5.mono (by have := B4.out.size; simp <;> omega))); have QB5 := Lib.hid ((QB4.out.alloc (.cells #[.int .i64 r3.ph, .int .i64 r3.te, .string ⟨r3.us.toArray⟩] 23)).call b5); clear QBc0 QBc1 QBc2 QBlt; have QBc0 : w5.cell? ⟨w.heap.size, 0, none⟩ = some (.int .i64 q0.ph) := QB5.out.cell 0; have QBc1 : w5.cell? ⟨w.heap.size, 1, none⟩ = some (.int .i64 q0.te) := QB5.out.cell 1; have QBc2 : w5.cell? ⟨w.heap.size, 2, none⟩ = some (.string ⟨q0.us.toArray⟩) := QB5.out.cell 2; have QBlt : w.heap.size < w5.heap.size := QB5.out.lt; have YL5 := Lib.hid ((YL4.out.alloc (.cells #[.int .i64 r3.ph, .int .i64 r3.te, .string ⟨r3.us.toArray⟩] 23)).call b5); clear YL4; clear HA4; clear QB4))
    all_goals (go_ret; exact ⟨by first | rfl | (simp; done) | (simp; omega), (B5.out).alloc B5.out.size (.cells #[.int .i64 r4.ph, .int .i64 r4.te, .string ⟨r4.us.toArray⟩] 23)⟩)
  have HA4 := Lib.hid (fun W => heard_of q0 q0 n3 0 l3 h3 (hear_still (Or.inl (by omega))) W)
  clear e1 e2 e3 e4 z0
  have heq : ∀ W, (Op.equalIn 10000 23 (.agg #[.int .i64 q0.ph, .int .i64 q0.te, .string ⟨q0.us.toArray⟩]) (.agg #[.int .i64 q0.ph, .int .i64 q0.te, .string ⟨q0.us.toArray⟩])).run Try.prog W = .ok true W := fun W => by
    have := equal_logins q0 q0 W
    rw [eqL_self] at this
    exact this
  go_enter Try.func8, Try.ntmps8
  go_wp2_with (first
      | (go_at_call 10; refine (AWK.out _ (E.below ((B0.out).alloc B0.out.size (.cells #[.int .i64 q0.ph, .int .i64 q0.te, .string ⟨q0.us.toArray⟩] 23)))).mono ?_; rintro e w1 ⟨rfl, b1⟩; have B1 := Lib.hid (((B0.out).alloc B0.out.size (.cells #[.int .i64 q0.ph, .int .i64 q0.te, .string ⟨q0.us.toArray⟩] 23)).trans (b1.mono (by have := B0.out.size; simp <;> omega))); have QB1 := Lib.hid ((IsRow.made w 23 #[.int .i64 q0.ph, .int .i64 q0.te, .string ⟨q0.us.toArray⟩]).call b1); have QBc0 : w1.cell? ⟨w.heap.size, 0, none⟩ = some (.int .i64 q0.ph) := QB1.out.cell 0; have QBc1 : w1.cell? ⟨w.heap.size, 1, none⟩ = some (.int .i64 q0.te) := QB1.out.cell 1; have QBc2 : w1.cell? ⟨w.heap.size, 2, none⟩ = some (.string ⟨q0.us.toArray⟩) := QB1.out.cell 2; have QBlt : w.heap.size < w1.heap.size := QB1.out.lt; have YL1 := Lib.hid ((YL0.out.alloc (.cells #[.int .i64 q0.ph, .int .i64 q0.te, .string ⟨q0.us.toArray⟩] 23)).call b1); clear YL0)
      | (go_at_call 13; refine (HA1.out _).mono ?_; rintro e w2 ⟨rfl, b2⟩; have B2 := Lib.hid (B1.out.trans (b2.mono B1.out.size)); have QB2 := Lib.hid (QB1.out.call b2); clear QBc0 QBc1 QBc2 QBlt; have QBc0 : w2.cell? ⟨w.heap.size, 0, none⟩ = some (.int .i64 q0.ph) := QB2.out.cell 0; have QBc1 : w2.cell? ⟨w.heap.size, 1, none⟩ = some (.int .i64 q0.te) := QB2.out.cell 1; have QBc2 : w2.cell? ⟨w.heap.size, 2, none⟩ = some (.string ⟨q0.us.toArray⟩) := QB2.out.cell 2; have QBlt : w.heap.size < w2.heap.size := QB2.out.lt; have YL2 := Lib.hid (YL1.out.call b2); clear YL1; clear HA1; clear QB1)
      | (go_at_call 11; refine (HA2.out _ (YL2.out.alloc (.cells #[.int .i64 r1.ph, .int .i64 r1.te, .string ⟨r1.us.toArray⟩] 23))).mono ?_; rintro e w3 ⟨rfl, b3⟩; have B3 := Lib.hid (((B2.out).alloc B2.out.size (.cells #[.int .i64 r1.ph, .int .i64 r1.te, .string ⟨r1.us.toArray⟩] 23)).trans (b3.mono (by have := B2.out.size; simp <;> omega))); have QB3 := Lib.hid ((QB2.out.alloc (.cells #[.int .i64 r1.ph, .int .i64 r1.te, .string ⟨r1.us.toArray⟩] 23)).call b3); clear QBc0 QBc1 QBc2 QBlt; have QBc0 : w3.cell? ⟨w.heap.size, 0, none⟩ = some (.int .i64 q0.ph) := QB3.out.cell 0; have QBc1 : w3.cell? ⟨w.heap.size, 1, none⟩ = some (.int .i64 q0.te) := QB3.out.cell 1; have QBc2 : w3.cell? ⟨w.heap.size, 2, none⟩ = some (.string ⟨q0.us.toArray⟩) := QB3.out.cell 2; have QBlt : w.heap.size < w3.heap.size := QB3.out.lt; have YL3 := Lib.hid ((YL2.out.alloc (.cells #[.int .i64 r1.ph, .int .i64 r1.te, .string ⟨r1.us.toArray⟩] 23)).call b3); clear YL2; clear HA2; clear QB2)
      | (go_at_call 15; refine (HA3.out _).mono ?_; rintro e w4 ⟨rfl, b4⟩; have B4 := Lib.hid (((B3.out).alloc B3.out.size (.cells #[.int .i64 r2.ph, .int .i64 r2.te, .string ⟨r2.us.toArray⟩] 23)).trans (b4.mono (by have := B3.out.size; simp <;> omega))); have QB4 := Lib.hid ((QB3.out.alloc (.cells #[.int .i64 r2.ph, .int .i64 r2.te, .string ⟨r2.us.toArray⟩] 23)).call b4); clear QBc0 QBc1 QBc2 QBlt; have QBc0 : w4.cell? ⟨w.heap.size, 0, none⟩ = some (.int .i64 q0.ph) := QB4.out.cell 0; have QBc1 : w4.cell? ⟨w.heap.size, 1, none⟩ = some (.int .i64 q0.te) := QB4.out.cell 1; have QBc2 : w4.cell? ⟨w.heap.size, 2, none⟩ = some (.string ⟨q0.us.toArray⟩) := QB4.out.cell 2; have QBlt : w.heap.size < w4.heap.size := QB4.out.lt; have YL4 := Lib.hid ((YL3.out.alloc (.cells #[.int .i64 r2.ph, .int .i64 r2.te, .string ⟨r2.us.toArray⟩] 23)).call b4); clear YL3; clear HA3; clear QB3)
      | (go_at_call 17; refine (HA4.out _).mono ?_; rintro e w5 ⟨rfl, b5⟩; have B5 := Lib.hid (((B4.out).alloc B4.out.size (.cells #[.int .i64 r3.ph, .int .i64 r3.te, .string ⟨r3.us.toArray⟩] 23)).trans (b5.mono (by have := B4.out.size; simp <;> omega))); have QB5 := Lib.hid ((QB4.out.alloc (.cells #[.int .i64 r3.ph, .int .i64 r3.te, .string ⟨r3.us.toArray⟩] 23)).call b5); clear QBc0 QBc1 QBc2 QBlt; have QBc0 : w5.cell? ⟨w.heap.size, 0, none⟩ = some (.int .i64 q0.ph) := QB5.out.cell 0; have QBc1 : w5.cell? ⟨w.heap.size, 1, none⟩ = some (.int .i64 q0.te) := QB5.out.cell 1; have QBc2 : w5.cell? ⟨w.heap.size, 2, none⟩ = some (.string ⟨q0.us.toArray⟩) := QB5.out.cell 2; have QBlt : w.heap.size < w5.heap.size := QB5.out.lt; have YL5 := Lib.hid ((YL4.out.alloc (.cells #[.int .i64 r3.ph, .int .i64 r3.te, .string ⟨r3.us.toArray⟩] 23)).call b5); clear YL4; clear HA4; clear QB4))
  all_goals (go_ret; exact ⟨by first | rfl | (simp; done) | (simp; omega), (B5.out).alloc B5.out.size (.cells #[.int .i64 q0.ph, .int .i64 q0.te, .string ⟨q0.us.toArray⟩] 23)⟩)

set_option maxRecDepth 100000 in
theorem lifted (os : Os) (started : os.Started) (H : Type) (enc : TypeId × Value → H) :
    ReturnsInHanded {} Try.checked os 8 .any (Rows.loginWaitsSpec.pre6 enc Try.prog Try.f8 Rows.loginWaitsRow.domain false) (Rows.loginWaitsSpec.post enc Try.prog Try.f8 false true false false) := by
  refine returnsInHanded_of_change (C := Try.checked) ownKnobs started (by kernel_rfl) Try.func8
    (ChangeSpec.witness6 (enc := enc) (C := Try.checked) false ⟨#[], #[.agg #[.int .i64 0, .int .i64 0, .string ⟨#[]⟩], .slice none 0 0, .string ⟨#[]⟩, .int .i64 0], []⟩ 8 (by kernel_rfl) (by kernel_rfl) (by kernel_rfl) (by kernel_rfl)) ?_
  intro W base args ds gs before hval0 hW _ _
  have E : Env W := trivial
  have hval : ∀ (j : Nat) t v, Try.f8.params[j]? = some t → args[j]? = some v → Value.okWide Try.prog W .any base t v := hval0
  have hW' := hW
  obtain ⟨p, q, hA0, hV, rfl, _, _⟩ := hW
  have hA : DataW.TrodAll enc Try.prog W 0 (fun _ => true) true Try.f8.params.toList args.toList ds p := hA0
  rw [Try.params8] at hA hval
  obtain ⟨v0, vs0, d0, ds0, p0, q0, hargs, rfl, rfl, r0, t0⟩ := trodAll_cons hA
  obtain ⟨v1, vs1, d1, ds1, p1, q1, rfl, rfl, rfl, r1, t1⟩ := trodAll_cons t0
  obtain ⟨v2, vs2, d2, ds2, p2, q2, rfl, rfl, rfl, r2, t2⟩ := trodAll_cons t1
  obtain ⟨v3, vs3, d3, ds3, p3, q3, rfl, rfl, rfl, r3, t3⟩ := trodAll_cons t2
  obtain ⟨rfl, rfl, rfl⟩ := trodAll_nil t3
  obtain rfl : args = #[v0, v1, v2, v3] := by cases args; simp_all
  obtain ⟨rfl, rfl⟩ := trodVars_none hV
  obtain ⟨q0, rfl, z0⟩ := open_login (hval 0 23 v0 rfl rfl) r0
  obtain ⟨s1, y1⟩ := open_hosts (hval 1 24 v1 rfl rfl) r1
  obtain ⟨x2, rfl, rfl, rfl, w2⟩ := open_string Try.underlying9 (hval 2 9 v2 rfl rfl) r2
  obtain ⟨s2, rfl⟩ : ∃ l : List UInt8, x2 = ⟨l.toArray⟩ := ⟨x2.data.toList, by simp⟩
  obtain ⟨n3, rfl, rfl, rfl, w3⟩ := open_int Try.underlying3 (hval 3 3 v3 rfl rfl) r3
  clear hA0 hval0
  simp only [List.append_nil] at hW'
  refine (walk q0 z0 v1 s1 s2 (by have := w2; rw [size_mk] at this; unfold maxLen at this; exact this) n3 (int_wf w3).1 (int_wf w3).2 W y1 E).mono fun e W' ⟨he, hb⟩ => ?_
  subst he
  have t0' := Below.trod laid_out (by kernel_rfl) (of_decide_eq_true (by kernel_rfl)) r0 hb (fun x hx => hW'.lt x (by simp [hx]))
  have t1' := Below.trod laid_out (by kernel_rfl) (of_decide_eq_true (by kernel_rfl)) r1 hb (fun x hx => hW'.lt x (by simp [hx]))
  exact ⟨_, rfl, told hW' (fun _ _ _ => trodAll_cons_mk (shut_bool Try.underlying4 _) trodAll_mk0) (trodAll_cons_mk (t0') (trodAll_cons_mk (t1') (trodAll_cons_mk (shut_string Try.underlying9 w2) (trodAll_cons_mk (shut_int Try.underlying3 w3) trodAll_mk0)))) (fun _ => rfl) hb⟩

theorem over : Rows.loginWaitsRow.holds Try.pinned (OpenSpec.ofChange Rows.loginWaitsSpec) :=
  OpenClaim.holds_of_wide 8 Try.f8 rfl rfl rfl rfl rfl rfl rfl ⟨rfl, rfl, rfl, rfl, rfl⟩ rfl rfl rfl rfl rfl (by kernel_rfl) Try.func8 (by kernel_rfl)
    (of_decide_eq_true (by kernel_rfl)) (by unfold Func.isWrapper; first | (rw [if_pos (by decide +kernel)]; kernel_rfl) | (rw [if_neg (by decide +kernel)]; exact ⟨rfl, rfl⟩))
    (fun os started H enc _ => lifted os started H enc)

theorem proved : Rows.LoginWaitsSaid :=
  over
#print axioms proved
end Go.Proofs.Ytkkajbnonfnbjaa.loginWaits
