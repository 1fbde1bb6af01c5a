/- Proved: for every login, tenants, text, code and bool (held against 10 tenants, 200 bytes): the login may be, and leads, by User, Pass, Dialed and Heard, where the document's answer says. Conditions: none beyond the row's own (the library's variables start as the program's text lays them: the card ties them). -/
import Derived.Test.YtkkajbnonfnbjaaLoginAwake
import Derived.BigQuiet
import Derived.Deep.QuietTactic
import Derived.Lib.QuietBelow

namespace Go.Proofs.Ytkkajbnonfnbjaa.loginGoes
open Go.Proofs.Ytkkajbnonfnbjaa Go.Proofs.Ytkkajbnonfnbjaa.Lo Go.Proofs.Ytkkajbnonfnbjaa.Ro Go.Sort
open Go.ChangeShapes Go.WideShapes Go.ChangeAt Go.RowKit Go.Sort Go.ChangeMaps
set_option linter.unusedSimpArgs false
set_option linter.unusedVariables false
set_option linter.unusedVariables false in
set_option maxHeartbeats 16000000 in
set_option maxRecDepth 100000 in
theorem walk (q0 : Lg) (z0 : q0.Wf) (u1 : Value) (s1 : List (List UInt8)) (s2 : List UInt8) (z2 : s2.length ≤ 9223372036854775807) (n3 : Int) (l3 : -9223372036854775808 ≤ n3) (h3 : n3 ≤ 9223372036854775807) (b4 : Bool) (w : World) (y1 : HostsIs w u1 s1) (E : Env w) :
    Calls Try.prog 3 #[loginV q0, u1, str s2, .int .i64 n3, .bool b4] w fun e w' => e = .returned (.bool true) ∧ Below w.heap.size w w' := by
  have AWK := Lib.hid (fun W EW => awake_any W EW)
  have B0 := Lib.hid (Below.refl w.heap.size w)
  obtain ⟨p, n, c, rfl, hn⟩ := y1.form
  have HN := Lib.hid hn
  have YL0 := Lib.hid y1
  clear hn y1
  by_cases g1 : 10 < n
  · have g1' : (10 : Int) < (n : Int) := by omega
    go_enter Try.func3, Try.ntmps3
    go_wp2_with (first
        | (go_at_call 10; refine (AWK.out _ (E.below ((B0.out).alloc B0.out.size (.cells #[.int .i64 q0.ph, .int .i64 q0.te, .string ⟨q0.us.toArray⟩] 23)))).mono ?_; rintro e w1 ⟨rfl, b1⟩; have B1 := Lib.hid (((B0.out).alloc B0.out.size (.cells #[.int .i64 q0.ph, .int .i64 q0.te, .string ⟨q0.us.toArray⟩] 23)).trans (b1.mono (by have := B0.out.size; simp <;> omega))); have QB1 := Lib.hid ((IsRow.made w 23 #[.int .i64 q0.ph, .int .i64 q0.te, .string ⟨q0.us.toArray⟩]).call b1); have QBc0 : w1.cell? ⟨w.heap.size, 0, none⟩ = some (.int .i64 q0.ph) := QB1.out.cell 0; have QBc1 : w1.cell? ⟨w.heap.size, 1, none⟩ = some (.int .i64 q0.te) := QB1.out.cell 1; have QBc2 : w1.cell? ⟨w.heap.size, 2, none⟩ = some (.string ⟨q0.us.toArray⟩) := QB1.out.cell 2; have QBlt : w.heap.size < w1.heap.size := QB1.out.lt; have YL1 := Lib.hid ((YL0.out.alloc (.cells #[.int .i64 q0.ph, .int .i64 q0.te, .string ⟨q0.us.toArray⟩] 23)).call b1); clear YL0))
    all_goals (go_ret; exact ⟨by first | rfl | (simp; done) | (simp; omega), B1.out⟩)
  have g1' : ¬ (10 : Int) < (n : Int) := by omega
  by_cases g2 : 200 < s2.length
  · have g2' : (200 : Int) < (s2.length : Int) := by omega
    go_enter Try.func3, Try.ntmps3
    go_wp2_with (first
        | (go_at_call 10; refine (AWK.out _ (E.below ((B0.out).alloc B0.out.size (.cells #[.int .i64 q0.ph, .int .i64 q0.te, .string ⟨q0.us.toArray⟩] 23)))).mono ?_; rintro e w1 ⟨rfl, b1⟩; have B1 := Lib.hid (((B0.out).alloc B0.out.size (.cells #[.int .i64 q0.ph, .int .i64 q0.te, .string ⟨q0.us.toArray⟩] 23)).trans (b1.mono (by have := B0.out.size; simp <;> omega))); have QB1 := Lib.hid ((IsRow.made w 23 #[.int .i64 q0.ph, .int .i64 q0.te, .string ⟨q0.us.toArray⟩]).call b1); have QBc0 : w1.cell? ⟨w.heap.size, 0, none⟩ = some (.int .i64 q0.ph) := QB1.out.cell 0; have QBc1 : w1.cell? ⟨w.heap.size, 1, none⟩ = some (.int .i64 q0.te) := QB1.out.cell 1; have QBc2 : w1.cell? ⟨w.heap.size, 2, none⟩ = some (.string ⟨q0.us.toArray⟩) := QB1.out.cell 2; have QBlt : w.heap.size < w1.heap.size := QB1.out.lt; have YL1 := Lib.hid ((YL0.out.alloc (.cells #[.int .i64 q0.ph, .int .i64 q0.te, .string ⟨q0.us.toArray⟩] 23)).call b1); clear YL0))
    all_goals (go_ret; exact ⟨by first | rfl | (simp; done) | (simp; omega), B1.out⟩)
  have g2' : ¬ (200 : Int) < (s2.length : Int) := by omega
  by_cases g3 : 200 < q0.us.length
  · have g3' : (200 : Int) < (q0.us.length : Int) := by omega
    go_enter Try.func3, Try.ntmps3
    go_wp2_with (first
        | (go_at_call 10; refine (AWK.out _ (E.below ((B0.out).alloc B0.out.size (.cells #[.int .i64 q0.ph, .int .i64 q0.te, .string ⟨q0.us.toArray⟩] 23)))).mono ?_; rintro e w1 ⟨rfl, b1⟩; have B1 := Lib.hid (((B0.out).alloc B0.out.size (.cells #[.int .i64 q0.ph, .int .i64 q0.te, .string ⟨q0.us.toArray⟩] 23)).trans (b1.mono (by have := B0.out.size; simp <;> omega))); have QB1 := Lib.hid ((IsRow.made w 23 #[.int .i64 q0.ph, .int .i64 q0.te, .string ⟨q0.us.toArray⟩]).call b1); have QBc0 : w1.cell? ⟨w.heap.size, 0, none⟩ = some (.int .i64 q0.ph) := QB1.out.cell 0; have QBc1 : w1.cell? ⟨w.heap.size, 1, none⟩ = some (.int .i64 q0.te) := QB1.out.cell 1; have QBc2 : w1.cell? ⟨w.heap.size, 2, none⟩ = some (.string ⟨q0.us.toArray⟩) := QB1.out.cell 2; have QBlt : w.heap.size < w1.heap.size := QB1.out.lt; have YL1 := Lib.hid ((YL0.out.alloc (.cells #[.int .i64 q0.ph, .int .i64 q0.te, .string ⟨q0.us.toArray⟩] 23)).call b1); clear YL0))
    all_goals (go_ret; exact ⟨by first | rfl | (simp; done) | (simp; omega), B1.out⟩)
  have g3' : ¬ (200 : Int) < (q0.us.length : Int) := by omega
  obtain ⟨r1, k1, e1⟩ : ∃ r k, userL q0 s1 s2 = (r, k) := ⟨_, _, rfl⟩
  obtain ⟨r2, k2, e2⟩ : ∃ r k, passL q0 = (r, k) := ⟨_, _, rfl⟩
  obtain ⟨r3, k3, e3⟩ : ∃ r k, dialL q0 b4 = (r, k) := ⟨_, _, rfl⟩
  obtain ⟨r4, k4, e4⟩ : ∃ r k, hearL q0 n3 = (r, k) := ⟨_, _, rfl⟩
  obtain ⟨m, hm⟩ : ∃ b, mayL q0 = b := ⟨_, rfl⟩
  have HA1 := Lib.hid (fun W HR => user_of q0 r1 (.slice p n c) s1 s2 (by omega) k1 e1 W HR)
  have HB1 := Lib.hid (fun W HR => ruser_of q0 r1 (.slice p n c) s1 s2 (by omega) k1 e1 W HR)
  have heq1 : ∀ W, (Op.equalIn 10000 23 (.agg #[.int .i64 r1.ph, .int .i64 r1.te, .string ⟨r1.us.toArray⟩]) (.agg #[.int .i64 r1.ph, .int .i64 r1.te, .string ⟨r1.us.toArray⟩])).run Try.prog W = .ok true W := fun W => by
    have := equal_logins r1 r1 W
    rw [eqL_self] at this
    exact this
  have HA2 := Lib.hid (fun W => pass_of q0 r2 k2 e2 W)
  have HB2 := Lib.hid (fun W => rpass_of q0 r2 k2 e2 W)
  have heq2 : ∀ W, (Op.equalIn 10000 23 (.agg #[.int .i64 r2.ph, .int .i64 r2.te, .string ⟨r2.us.toArray⟩]) (.agg #[.int .i64 r2.ph, .int .i64 r2.te, .string ⟨r2.us.toArray⟩])).run Try.prog W = .ok true W := fun W => by
    have := equal_logins r2 r2 W
    rw [eqL_self] at this
    exact this
  have HA3 := Lib.hid (fun W => dial_of q0 r3 b4 k3 e3 W)
  have HB3 := Lib.hid (fun W => rdial_of q0 r3 b4 k3 e3 W)
  have heq3 : ∀ W, (Op.equalIn 10000 23 (.agg #[.int .i64 r3.ph, .int .i64 r3.te, .string ⟨r3.us.toArray⟩]) (.agg #[.int .i64 r3.ph, .int .i64 r3.te, .string ⟨r3.us.toArray⟩])).run Try.prog W = .ok true W := fun W => by
    have := equal_logins r3 r3 W
    rw [eqL_self] at this
    exact this
  have HA4 := Lib.hid (fun W => heard_of q0 r4 n3 k4 l3 h3 e4 W)
  have HB4 := Lib.hid (fun W => rheard_of q0 r4 n3 k4 e4 W)
  have heq4 : ∀ W, (Op.equalIn 10000 23 (.agg #[.int .i64 r4.ph, .int .i64 r4.te, .string ⟨r4.us.toArray⟩]) (.agg #[.int .i64 r4.ph, .int .i64 r4.te, .string ⟨r4.us.toArray⟩])).run Try.prog W = .ok true W := fun W => by
    have := equal_logins r4 r4 W
    rw [eqL_self] at this
    exact this
  have HM1 := Lib.hid (fun W => may_of q0 (by omega) m hm W)
  have HM2 := Lib.hid (fun W => rmay_of q0 (by omega) m hm W)
  have HN1 := Lib.hid (fun W => new_any W)
  have HN2 := Lib.hid (fun W => rnew_any W)
  have heqN : ∀ W, (Op.equalIn 10000 23 (.agg #[.int .i64 0, .int .i64 (-1), .string ⟨#[]⟩]) (.agg #[.int .i64 0, .int .i64 (-1), .string ⟨#[]⟩])).run Try.prog W = .ok true W := fun W => by
    have := equal_logins ⟨0, -1, []⟩ ⟨0, -1, []⟩ W
    rw [eqL_self] at this
    exact this
  have hmm : (m == m) = true := by simp
  have hk1 : (k1 == k1) = true := by simp
  have hk2 : (k2 == k2) = true := by simp
  have hk3 : (k3 == k3) = true := by simp
  have hk4 : (k4 == k4) = true := by simp
  clear e1 e2 e3 e4 hm z0
  go_enter Try.func3, Try.ntmps3
  go_wp2_with (first
      | (go_at_call 10; refine (AWK.out _ (E.below ((B0.out).alloc B0.out.size (.cells #[.int .i64 q0.ph, .int .i64 q0.te, .string ⟨q0.us.toArray⟩] 23)))).mono ?_; rintro e w1 ⟨rfl, b1⟩; have B1 := Lib.hid (((B0.out).alloc B0.out.size (.cells #[.int .i64 q0.ph, .int .i64 q0.te, .string ⟨q0.us.toArray⟩] 23)).trans (b1.mono (by have := B0.out.size; simp <;> omega))); have QB1 := Lib.hid ((IsRow.made w 23 #[.int .i64 q0.ph, .int .i64 q0.te, .string ⟨q0.us.toArray⟩]).call b1); have QBc0 : w1.cell? ⟨w.heap.size, 0, none⟩ = some (.int .i64 q0.ph) := QB1.out.cell 0; have QBc1 : w1.cell? ⟨w.heap.size, 1, none⟩ = some (.int .i64 q0.te) := QB1.out.cell 1; have QBc2 : w1.cell? ⟨w.heap.size, 2, none⟩ = some (.string ⟨q0.us.toArray⟩) := QB1.out.cell 2; have QBlt : w.heap.size < w1.heap.size := QB1.out.lt; have YL1 := Lib.hid ((YL0.out.alloc (.cells #[.int .i64 q0.ph, .int .i64 q0.te, .string ⟨q0.us.toArray⟩] 23)).call b1); clear YL0)
      | (go_at_call 11; refine (HA1.out _ YL1.out).mono ?_; rintro e w2 ⟨rfl, b2⟩; have B2 := Lib.hid (B1.out.trans (b2.mono B1.out.size)); have QB2 := Lib.hid (QB1.out.call b2); clear QBc0 QBc1 QBc2 QBlt; have QBc0 : w2.cell? ⟨w.heap.size, 0, none⟩ = some (.int .i64 q0.ph) := QB2.out.cell 0; have QBc1 : w2.cell? ⟨w.heap.size, 1, none⟩ = some (.int .i64 q0.te) := QB2.out.cell 1; have QBc2 : w2.cell? ⟨w.heap.size, 2, none⟩ = some (.string ⟨q0.us.toArray⟩) := QB2.out.cell 2; have QBlt : w.heap.size < w2.heap.size := QB2.out.lt; have YL2 := Lib.hid (YL1.out.call b2); clear YL1; clear HA1; clear QB1)
      | (go_at_call 12; refine (HB1.out _ (YL2.out.alloc (.cells #[.int .i64 r1.ph, .int .i64 r1.te, .string ⟨r1.us.toArray⟩] 23))).mono ?_; rintro e w3 ⟨rfl, b3⟩; have B3 := Lib.hid (((B2.out).alloc B2.out.size (.cells #[.int .i64 r1.ph, .int .i64 r1.te, .string ⟨r1.us.toArray⟩] 23)).trans (b3.mono (by have := B2.out.size; simp <;> omega))); have QB3 := Lib.hid ((QB2.out.alloc (.cells #[.int .i64 r1.ph, .int .i64 r1.te, .string ⟨r1.us.toArray⟩] 23)).call b3); have A13 := Lib.hid ((IsRow.made w2 23 #[.int .i64 r1.ph, .int .i64 r1.te, .string ⟨r1.us.toArray⟩]).call b3); clear QBc0 QBc1 QBc2 QBlt; have QBc0 : w3.cell? ⟨w.heap.size, 0, none⟩ = some (.int .i64 q0.ph) := QB3.out.cell 0; have QBc1 : w3.cell? ⟨w.heap.size, 1, none⟩ = some (.int .i64 q0.te) := QB3.out.cell 1; have QBc2 : w3.cell? ⟨w.heap.size, 2, none⟩ = some (.string ⟨q0.us.toArray⟩) := QB3.out.cell 2; have QBlt : w.heap.size < w3.heap.size := QB3.out.lt; have YL3 := Lib.hid ((YL2.out.alloc (.cells #[.int .i64 r1.ph, .int .i64 r1.te, .string ⟨r1.us.toArray⟩] 23)).call b3); clear YL2; clear HB1; clear QB2)
      | (go_at_call 13; refine (HA2.out _).mono ?_; rintro e w4 ⟨rfl, b4⟩; have B4 := Lib.hid (((B3.out).alloc B3.out.size (.cells #[.int .i64 r1.ph, .int .i64 r1.te, .string ⟨r1.us.toArray⟩] 23)).trans (b4.mono (by have := B3.out.size; simp <;> omega))); have QB4 := Lib.hid ((QB3.out.alloc (.cells #[.int .i64 r1.ph, .int .i64 r1.te, .string ⟨r1.us.toArray⟩] 23)).call b4); have A14 := Lib.hid ((A13.out.alloc (.cells #[.int .i64 r1.ph, .int .i64 r1.te, .string ⟨r1.us.toArray⟩] 23)).call b4); have B14 := Lib.hid ((IsRow.made w3 23 #[.int .i64 r1.ph, .int .i64 r1.te, .string ⟨r1.us.toArray⟩]).call b4); clear QBc0 QBc1 QBc2 QBlt; have QBc0 : w4.cell? ⟨w.heap.size, 0, none⟩ = some (.int .i64 q0.ph) := QB4.out.cell 0; have QBc1 : w4.cell? ⟨w.heap.size, 1, none⟩ = some (.int .i64 q0.te) := QB4.out.cell 1; have QBc2 : w4.cell? ⟨w.heap.size, 2, none⟩ = some (.string ⟨q0.us.toArray⟩) := QB4.out.cell 2; have QBlt : w.heap.size < w4.heap.size := QB4.out.lt; have YL4 := Lib.hid ((YL3.out.alloc (.cells #[.int .i64 r1.ph, .int .i64 r1.te, .string ⟨r1.us.toArray⟩] 23)).call b4); clear YL3; clear HA2; clear QB3 A13)
      | (go_at_call 14; refine (HB2.out _).mono ?_; rintro e w5 ⟨rfl, b5⟩; have B5 := Lib.hid (((B4.out).alloc B4.out.size (.cells #[.int .i64 r2.ph, .int .i64 r2.te, .string ⟨r2.us.toArray⟩] 23)).trans (b5.mono (by have := B4.out.size; simp <;> omega))); have QB5 := Lib.hid ((QB4.out.alloc (.cells #[.int .i64 r2.ph, .int .i64 r2.te, .string ⟨r2.us.toArray⟩] 23)).call b5); have A15 := Lib.hid ((A14.out.alloc (.cells #[.int .i64 r2.ph, .int .i64 r2.te, .string ⟨r2.us.toArray⟩] 23)).call b5); have B15 := Lib.hid ((B14.out.alloc (.cells #[.int .i64 r2.ph, .int .i64 r2.te, .string ⟨r2.us.toArray⟩] 23)).call b5); have A25 := Lib.hid ((IsRow.made w4 23 #[.int .i64 r2.ph, .int .i64 r2.te, .string ⟨r2.us.toArray⟩]).call b5); clear QBc0 QBc1 QBc2 QBlt; have QBc0 : w5.cell? ⟨w.heap.size, 0, none⟩ = some (.int .i64 q0.ph) := QB5.out.cell 0; have QBc1 : w5.cell? ⟨w.heap.size, 1, none⟩ = some (.int .i64 q0.te) := QB5.out.cell 1; have QBc2 : w5.cell? ⟨w.heap.size, 2, none⟩ = some (.string ⟨q0.us.toArray⟩) := QB5.out.cell 2; have QBlt : w.heap.size < w5.heap.size := QB5.out.lt; have YL5 := Lib.hid ((YL4.out.alloc (.cells #[.int .i64 r2.ph, .int .i64 r2.te, .string ⟨r2.us.toArray⟩] 23)).call b5); clear YL4; clear HB2; clear QB4 A14 B14)
      | (go_at_call 15; refine (HA3.out _).mono ?_; rintro e w6 ⟨rfl, b6⟩; have B6 := Lib.hid (((B5.out).alloc B5.out.size (.cells #[.int .i64 r2.ph, .int .i64 r2.te, .string ⟨r2.us.toArray⟩] 23)).trans (b6.mono (by have := B5.out.size; simp <;> omega))); have QB6 := Lib.hid ((QB5.out.alloc (.cells #[.int .i64 r2.ph, .int .i64 r2.te, .string ⟨r2.us.toArray⟩] 23)).call b6); have A16 := Lib.hid ((A15.out.alloc (.cells #[.int .i64 r2.ph, .int .i64 r2.te, .string ⟨r2.us.toArray⟩] 23)).call b6); have B16 := Lib.hid ((B15.out.alloc (.cells #[.int .i64 r2.ph, .int .i64 r2.te, .string ⟨r2.us.toArray⟩] 23)).call b6); have A26 := Lib.hid ((A25.out.alloc (.cells #[.int .i64 r2.ph, .int .i64 r2.te, .string ⟨r2.us.toArray⟩] 23)).call b6); have B26 := Lib.hid ((IsRow.made w5 23 #[.int .i64 r2.ph, .int .i64 r2.te, .string ⟨r2.us.toArray⟩]).call b6); clear QBc0 QBc1 QBc2 QBlt; have QBc0 : w6.cell? ⟨w.heap.size, 0, none⟩ = some (.int .i64 q0.ph) := QB6.out.cell 0; have QBc1 : w6.cell? ⟨w.heap.size, 1, none⟩ = some (.int .i64 q0.te) := QB6.out.cell 1; have QBc2 : w6.cell? ⟨w.heap.size, 2, none⟩ = some (.string ⟨q0.us.toArray⟩) := QB6.out.cell 2; have QBlt : w.heap.size < w6.heap.size := QB6.out.lt; have YL6 := Lib.hid ((YL5.out.alloc (.cells #[.int .i64 r2.ph, .int .i64 r2.te, .string ⟨r2.us.toArray⟩] 23)).call b6); clear YL5; clear HA3; clear QB5 A15 B15 A25)
      | (go_at_call 16; refine (HB3.out _).mono ?_; rintro e w7 ⟨rfl, b7⟩; have B7 := Lib.hid (((B6.out).alloc B6.out.size (.cells #[.int .i64 r3.ph, .int .i64 r3.te, .string ⟨r3.us.toArray⟩] 23)).trans (b7.mono (by have := B6.out.size; simp <;> omega))); have QB7 := Lib.hid ((QB6.out.alloc (.cells #[.int .i64 r3.ph, .int .i64 r3.te, .string ⟨r3.us.toArray⟩] 23)).call b7); have A17 := Lib.hid ((A16.out.alloc (.cells #[.int .i64 r3.ph, .int .i64 r3.te, .string ⟨r3.us.toArray⟩] 23)).call b7); have B17 := Lib.hid ((B16.out.alloc (.cells #[.int .i64 r3.ph, .int .i64 r3.te, .string ⟨r3.us.toArray⟩] 23)).call b7); have A27 := Lib.hid ((A26.out.alloc (.cells #[.int .i64 r3.ph, .int .i64 r3.te, .string ⟨r3.us.toArray⟩] 23)).call b7); have B27 := Lib.hid ((B26.out.alloc (.cells #[.int .i64 r3.ph, .int .i64 r3.te, .string ⟨r3.us.toArray⟩] 23)).call b7); have A37 := Lib.hid ((IsRow.made w6 23 #[.int .i64 r3.ph, .int .i64 r3.te, .string ⟨r3.us.toArray⟩]).call b7); clear QBc0 QBc1 QBc2 QBlt; have QBc0 : w7.cell? ⟨w.heap.size, 0, none⟩ = some (.int .i64 q0.ph) := QB7.out.cell 0; have QBc1 : w7.cell? ⟨w.heap.size, 1, none⟩ = some (.int .i64 q0.te) := QB7.out.cell 1; have QBc2 : w7.cell? ⟨w.heap.size, 2, none⟩ = some (.string ⟨q0.us.toArray⟩) := QB7.out.cell 2; have QBlt : w.heap.size < w7.heap.size := QB7.out.lt; have YL7 := Lib.hid ((YL6.out.alloc (.cells #[.int .i64 r3.ph, .int .i64 r3.te, .string ⟨r3.us.toArray⟩] 23)).call b7); clear YL6; clear HB3; clear QB6 A16 B16 A26 B26)
      | (go_at_call 17; refine (HA4.out _).mono ?_; rintro e w8 ⟨rfl, b8⟩; have B8 := Lib.hid (((B7.out).alloc B7.out.size (.cells #[.int .i64 r3.ph, .int .i64 r3.te, .string ⟨r3.us.toArray⟩] 23)).trans (b8.mono (by have := B7.out.size; simp <;> omega))); have QB8 := Lib.hid ((QB7.out.alloc (.cells #[.int .i64 r3.ph, .int .i64 r3.te, .string ⟨r3.us.toArray⟩] 23)).call b8); have A18 := Lib.hid ((A17.out.alloc (.cells #[.int .i64 r3.ph, .int .i64 r3.te, .string ⟨r3.us.toArray⟩] 23)).call b8); have B18 := Lib.hid ((B17.out.alloc (.cells #[.int .i64 r3.ph, .int .i64 r3.te, .string ⟨r3.us.toArray⟩] 23)).call b8); have A28 := Lib.hid ((A27.out.alloc (.cells #[.int .i64 r3.ph, .int .i64 r3.te, .string ⟨r3.us.toArray⟩] 23)).call b8); have B28 := Lib.hid ((B27.out.alloc (.cells #[.int .i64 r3.ph, .int .i64 r3.te, .string ⟨r3.us.toArray⟩] 23)).call b8); have A38 := Lib.hid ((A37.out.alloc (.cells #[.int .i64 r3.ph, .int .i64 r3.te, .string ⟨r3.us.toArray⟩] 23)).call b8); have B38 := Lib.hid ((IsRow.made w7 23 #[.int .i64 r3.ph, .int .i64 r3.te, .string ⟨r3.us.toArray⟩]).call b8); clear QBc0 QBc1 QBc2 QBlt; have QBc0 : w8.cell? ⟨w.heap.size, 0, none⟩ = some (.int .i64 q0.ph) := QB8.out.cell 0; have QBc1 : w8.cell? ⟨w.heap.size, 1, none⟩ = some (.int .i64 q0.te) := QB8.out.cell 1; have QBc2 : w8.cell? ⟨w.heap.size, 2, none⟩ = some (.string ⟨q0.us.toArray⟩) := QB8.out.cell 2; have QBlt : w.heap.size < w8.heap.size := QB8.out.lt; have YL8 := Lib.hid ((YL7.out.alloc (.cells #[.int .i64 r3.ph, .int .i64 r3.te, .string ⟨r3.us.toArray⟩] 23)).call b8); clear YL7; clear HA4; clear QB7 A17 B17 A27 B27 A37)
      | (go_at_call 18; refine (HB4.out _).mono ?_; rintro e w9 ⟨rfl, b9⟩; have B9 := Lib.hid (((B8.out).alloc B8.out.size (.cells #[.int .i64 r4.ph, .int .i64 r4.te, .string ⟨r4.us.toArray⟩] 23)).trans (b9.mono (by have := B8.out.size; simp <;> omega))); have QB9 := Lib.hid ((QB8.out.alloc (.cells #[.int .i64 r4.ph, .int .i64 r4.te, .string ⟨r4.us.toArray⟩] 23)).call b9); have A19 := Lib.hid ((A18.out.alloc (.cells #[.int .i64 r4.ph, .int .i64 r4.te, .string ⟨r4.us.toArray⟩] 23)).call b9); have B19 := Lib.hid ((B18.out.alloc (.cells #[.int .i64 r4.ph, .int .i64 r4.te, .string ⟨r4.us.toArray⟩] 23)).call b9); have A29 := Lib.hid ((A28.out.alloc (.cells #[.int .i64 r4.ph, .int .i64 r4.te, .string ⟨r4.us.toArray⟩] 23)).call b9); have B29 := Lib.hid ((B28.out.alloc (.cells #[.int .i64 r4.ph, .int .i64 r4.te, .string ⟨r4.us.toArray⟩] 23)).call b9); have A39 := Lib.hid ((A38.out.alloc (.cells #[.int .i64 r4.ph, .int .i64 r4.te, .string ⟨r4.us.toArray⟩] 23)).call b9); have B39 := Lib.hid ((B38.out.alloc (.cells #[.int .i64 r4.ph, .int .i64 r4.te, .string ⟨r4.us.toArray⟩] 23)).call b9); have A49 := Lib.hid ((IsRow.made w8 23 #[.int .i64 r4.ph, .int .i64 r4.te, .string ⟨r4.us.toArray⟩]).call b9); clear QBc0 QBc1 QBc2 QBlt; have QBc0 : w9.cell? ⟨w.heap.size, 0, none⟩ = some (.int .i64 q0.ph) := QB9.out.cell 0; have QBc1 : w9.cell? ⟨w.heap.size, 1, none⟩ = some (.int .i64 q0.te) := QB9.out.cell 1; have QBc2 : w9.cell? ⟨w.heap.size, 2, none⟩ = some (.string ⟨q0.us.toArray⟩) := QB9.out.cell 2; have QBlt : w.heap.size < w9.heap.size := QB9.out.lt; have YL9 := Lib.hid ((YL8.out.alloc (.cells #[.int .i64 r4.ph, .int .i64 r4.te, .string ⟨r4.us.toArray⟩] 23)).call b9); clear YL8; clear HB4; clear QB8 A18 B18 A28 B28 A38 B38)
      | (go_at_call 19; refine (HM2.out _).mono ?_; rintro e w10 ⟨rfl, b10⟩; have B10 := Lib.hid (((B9.out).alloc B9.out.size (.cells #[.int .i64 r4.ph, .int .i64 r4.te, .string ⟨r4.us.toArray⟩] 23)).trans (b10.mono (by have := B9.out.size; simp <;> omega))); have QB10 := Lib.hid ((QB9.out.alloc (.cells #[.int .i64 r4.ph, .int .i64 r4.te, .string ⟨r4.us.toArray⟩] 23)).call b10); have A110 := Lib.hid ((A19.out.alloc (.cells #[.int .i64 r4.ph, .int .i64 r4.te, .string ⟨r4.us.toArray⟩] 23)).call b10); have B110 := Lib.hid ((B19.out.alloc (.cells #[.int .i64 r4.ph, .int .i64 r4.te, .string ⟨r4.us.toArray⟩] 23)).call b10); have A210 := Lib.hid ((A29.out.alloc (.cells #[.int .i64 r4.ph, .int .i64 r4.te, .string ⟨r4.us.toArray⟩] 23)).call b10); have B210 := Lib.hid ((B29.out.alloc (.cells #[.int .i64 r4.ph, .int .i64 r4.te, .string ⟨r4.us.toArray⟩] 23)).call b10); have A310 := Lib.hid ((A39.out.alloc (.cells #[.int .i64 r4.ph, .int .i64 r4.te, .string ⟨r4.us.toArray⟩] 23)).call b10); have B310 := Lib.hid ((B39.out.alloc (.cells #[.int .i64 r4.ph, .int .i64 r4.te, .string ⟨r4.us.toArray⟩] 23)).call b10); have A410 := Lib.hid ((A49.out.alloc (.cells #[.int .i64 r4.ph, .int .i64 r4.te, .string ⟨r4.us.toArray⟩] 23)).call b10); have B410 := Lib.hid ((IsRow.made w9 23 #[.int .i64 r4.ph, .int .i64 r4.te, .string ⟨r4.us.toArray⟩]).call b10); clear QBc0 QBc1 QBc2 QBlt; have QBc0 : w10.cell? ⟨w.heap.size, 0, none⟩ = some (.int .i64 q0.ph) := QB10.out.cell 0; have QBc1 : w10.cell? ⟨w.heap.size, 1, none⟩ = some (.int .i64 q0.te) := QB10.out.cell 1; have QBc2 : w10.cell? ⟨w.heap.size, 2, none⟩ = some (.string ⟨q0.us.toArray⟩) := QB10.out.cell 2; have QBlt : w.heap.size < w10.heap.size := QB10.out.lt; have A1c0 : w10.cell? ⟨w2.heap.size, 0, none⟩ = some (.int .i64 r1.ph) := A110.out.cell 0; have A1c1 : w10.cell? ⟨w2.heap.size, 1, none⟩ = some (.int .i64 r1.te) := A110.out.cell 1; have A1c2 : w10.cell? ⟨w2.heap.size, 2, none⟩ = some (.string ⟨r1.us.toArray⟩) := A110.out.cell 2; have A1lt : w2.heap.size < w10.heap.size := A110.out.lt; have B1c0 : w10.cell? ⟨w3.heap.size, 0, none⟩ = some (.int .i64 r1.ph) := B110.out.cell 0; have B1c1 : w10.cell? ⟨w3.heap.size, 1, none⟩ = some (.int .i64 r1.te) := B110.out.cell 1; have B1c2 : w10.cell? ⟨w3.heap.size, 2, none⟩ = some (.string ⟨r1.us.toArray⟩) := B110.out.cell 2; have B1lt : w3.heap.size < w10.heap.size := B110.out.lt; have A2c0 : w10.cell? ⟨w4.heap.size, 0, none⟩ = some (.int .i64 r2.ph) := A210.out.cell 0; have A2c1 : w10.cell? ⟨w4.heap.size, 1, none⟩ = some (.int .i64 r2.te) := A210.out.cell 1; have A2c2 : w10.cell? ⟨w4.heap.size, 2, none⟩ = some (.string ⟨r2.us.toArray⟩) := A210.out.cell 2; have A2lt : w4.heap.size < w10.heap.size := A210.out.lt; have B2c0 : w10.cell? ⟨w5.heap.size, 0, none⟩ = some (.int .i64 r2.ph) := B210.out.cell 0; have B2c1 : w10.cell? ⟨w5.heap.size, 1, none⟩ = some (.int .i64 r2.te) := B210.out.cell 1; have B2c2 : w10.cell? ⟨w5.heap.size, 2, none⟩ = some (.string ⟨r2.us.toArray⟩) := B210.out.cell 2; have B2lt : w5.heap.size < w10.heap.size := B210.out.lt; have A3c0 : w10.cell? ⟨w6.heap.size, 0, none⟩ = some (.int .i64 r3.ph) := A310.out.cell 0; have A3c1 : w10.cell? ⟨w6.heap.size, 1, none⟩ = some (.int .i64 r3.te) := A310.out.cell 1; have A3c2 : w10.cell? ⟨w6.heap.size, 2, none⟩ = some (.string ⟨r3.us.toArray⟩) := A310.out.cell 2; have A3lt : w6.heap.size < w10.heap.size := A310.out.lt; have B3c0 : w10.cell? ⟨w7.heap.size, 0, none⟩ = some (.int .i64 r3.ph) := B310.out.cell 0; have B3c1 : w10.cell? ⟨w7.heap.size, 1, none⟩ = some (.int .i64 r3.te) := B310.out.cell 1; have B3c2 : w10.cell? ⟨w7.heap.size, 2, none⟩ = some (.string ⟨r3.us.toArray⟩) := B310.out.cell 2; have B3lt : w7.heap.size < w10.heap.size := B310.out.lt; have A4c0 : w10.cell? ⟨w8.heap.size, 0, none⟩ = some (.int .i64 r4.ph) := A410.out.cell 0; have A4c1 : w10.cell? ⟨w8.heap.size, 1, none⟩ = some (.int .i64 r4.te) := A410.out.cell 1; have A4c2 : w10.cell? ⟨w8.heap.size, 2, none⟩ = some (.string ⟨r4.us.toArray⟩) := A410.out.cell 2; have A4lt : w8.heap.size < w10.heap.size := A410.out.lt; have B4c0 : w10.cell? ⟨w9.heap.size, 0, none⟩ = some (.int .i64 r4.ph) := B410.out.cell 0; have B4c1 : w10.cell? ⟨w9.heap.size, 1, none⟩ = some (.int .i64 r4.te) := B410.out.cell 1; have B4c2 : w10.cell? ⟨w9.heap.size, 2, none⟩ = some (.string ⟨r4.us.toArray⟩) := B410.out.cell 2; have B4lt : w9.heap.size < w10.heap.size := B410.out.lt; have YL10 := Lib.hid ((YL9.out.alloc (.cells #[.int .i64 r4.ph, .int .i64 r4.te, .string ⟨r4.us.toArray⟩] 23)).call b10); clear YL9; clear HM2; clear QB9 A19 B19 A29 B29 A39 B39 A49)
      | (go_at_call 20; refine (HM1.out _).mono ?_; rintro e w11 ⟨rfl, b11⟩; have B11 := Lib.hid (B10.out.trans (b11.mono B10.out.size)); clear QBc0 QBc1 QBc2 QBlt A1c0 A1c1 A1c2 A1lt B1c0 B1c1 B1c2 B1lt A2c0 A2c1 A2c2 A2lt B2c0 B2c1 B2c2 B2lt A3c0 A3c1 A3c2 A3lt B3c0 B3c1 B3c2 B3lt A4c0 A4c1 A4c2 A4lt B4c0 B4c1 B4c2 B4lt; have YL11 := Lib.hid (YL10.out.call b11); clear YL10; clear HM1)
      | (go_at_call 21; refine (HN1.out _).mono ?_; rintro e w12 ⟨rfl, b12⟩; have B12 := Lib.hid (B11.out.trans (b12.mono B11.out.size)); have YL12 := Lib.hid (YL11.out.call b12); clear YL11; clear HN1)
      | (go_at_call 22; refine (HN2.out _).mono ?_; rintro e w13 ⟨rfl, b13⟩; have B13 := Lib.hid (B12.out.trans (b13.mono B12.out.size)); have YL13 := Lib.hid (YL12.out.call b13); clear YL12; clear HN2))
  all_goals (go_ret; exact ⟨by first | rfl | (simp; done) | (simp; omega), B13.out⟩)

set_option maxRecDepth 100000 in
theorem lifted (os : Os) (started : os.Started) (H : Type) (enc : TypeId × Value → H) :
    ReturnsInHanded {} Try.checked os 3 .any (Rows.loginGoesSpec.pre6 enc Try.prog Try.f3 Rows.loginGoesRow.domain false) (Rows.loginGoesSpec.post enc Try.prog Try.f3 false true false false) := by
  refine returnsInHanded_of_change (C := Try.checked) ownKnobs started (by kernel_rfl) Try.func3
    (ChangeSpec.witness6 (enc := enc) (C := Try.checked) false ⟨#[], #[.agg #[.int .i64 0, .int .i64 0, .string ⟨#[]⟩], .slice none 0 0, .string ⟨#[]⟩, .int .i64 0, .bool false], []⟩ 8 (by kernel_rfl) (by kernel_rfl) (by kernel_rfl) (by kernel_rfl)) ?_
  intro W base args ds gs before hval0 hW _ _
  have E : Env W := trivial
  have hval : ∀ (j : Nat) t v, Try.f3.params[j]? = some t → args[j]? = some v → Value.okWide Try.prog W .any base t v := hval0
  have hW' := hW
  obtain ⟨p, q, hA0, hV, rfl, _, _⟩ := hW
  have hA : DataW.TrodAll enc Try.prog W 0 (fun _ => true) true Try.f3.params.toList args.toList ds p := hA0
  rw [Try.params3] at hA hval
  obtain ⟨v0, vs0, d0, ds0, p0, q0, hargs, rfl, rfl, r0, t0⟩ := trodAll_cons hA
  obtain ⟨v1, vs1, d1, ds1, p1, q1, rfl, rfl, rfl, r1, t1⟩ := trodAll_cons t0
  obtain ⟨v2, vs2, d2, ds2, p2, q2, rfl, rfl, rfl, r2, t2⟩ := trodAll_cons t1
  obtain ⟨v3, vs3, d3, ds3, p3, q3, rfl, rfl, rfl, r3, t3⟩ := trodAll_cons t2
  obtain ⟨v4, vs4, d4, ds4, p4, q4, rfl, rfl, rfl, r4, t4⟩ := trodAll_cons t3
  obtain ⟨rfl, rfl, rfl⟩ := trodAll_nil t4
  obtain rfl : args = #[v0, v1, v2, v3, v4] := by cases args; simp_all
  obtain ⟨rfl, rfl⟩ := trodVars_none hV
  obtain ⟨q0, rfl, z0⟩ := open_login (hval 0 23 v0 rfl rfl) r0
  obtain ⟨s1, y1⟩ := open_hosts (hval 1 24 v1 rfl rfl) r1
  obtain ⟨x2, rfl, rfl, rfl, w2⟩ := open_string Try.underlying9 (hval 2 9 v2 rfl rfl) r2
  obtain ⟨s2, rfl⟩ : ∃ l : List UInt8, x2 = ⟨l.toArray⟩ := ⟨x2.data.toList, by simp⟩
  obtain ⟨n3, rfl, rfl, rfl, w3⟩ := open_int Try.underlying3 (hval 3 3 v3 rfl rfl) r3
  obtain ⟨b4, rfl, rfl, rfl⟩ := open_bool Try.underlying4 (hval 4 4 v4 rfl rfl) r4
  clear hA0 hval0
  simp only [List.append_nil] at hW'
  refine (walk q0 z0 v1 s1 s2 (by have := w2; rw [size_mk] at this; unfold maxLen at this; exact this) n3 (int_wf w3).1 (int_wf w3).2 b4 W y1 E).mono fun e W' ⟨he, hb⟩ => ?_
  subst he
  have t0' := Below.trod laid_out (by kernel_rfl) (of_decide_eq_true (by kernel_rfl)) r0 hb (fun x hx => hW'.lt x (by simp [hx]))
  have t1' := Below.trod laid_out (by kernel_rfl) (of_decide_eq_true (by kernel_rfl)) r1 hb (fun x hx => hW'.lt x (by simp [hx]))
  exact ⟨_, rfl, told hW' (fun _ _ _ => trodAll_cons_mk (shut_bool Try.underlying4 _) trodAll_mk0) (trodAll_cons_mk (t0') (trodAll_cons_mk (t1') (trodAll_cons_mk (shut_string Try.underlying9 w2) (trodAll_cons_mk (shut_int Try.underlying3 w3) (trodAll_cons_mk (shut_bool Try.underlying4 b4) trodAll_mk0))))) (fun _ => rfl) hb⟩

theorem over : Rows.loginGoesRow.holds Try.pinned (OpenSpec.ofChange Rows.loginGoesSpec) :=
  OpenClaim.holds_of_wide 3 Try.f3 rfl rfl rfl rfl rfl rfl rfl ⟨rfl, rfl, rfl, rfl, rfl⟩ rfl rfl rfl rfl rfl (by kernel_rfl) Try.func3 (by kernel_rfl)
    (of_decide_eq_true (by kernel_rfl)) (by unfold Func.isWrapper; first | (rw [if_pos (by decide +kernel)]; kernel_rfl) | (rw [if_neg (by decide +kernel)]; exact ⟨rfl, rfl⟩))
    (fun os started H enc _ => lifted os started H enc)

theorem proved : Rows.LoginGoesSaid :=
  over
#print axioms proved
end Go.Proofs.Ytkkajbnonfnbjaa.loginGoes
