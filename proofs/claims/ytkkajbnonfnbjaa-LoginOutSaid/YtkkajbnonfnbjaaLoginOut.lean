/- Proved: for every login, tenants, text and code (held against 4 tenants, 200 bytes): whose server lets nobody in may tell who they are anew; a server that is not there is as none that was asked. Conditions: none beyond the row's own (the library's variables start as the program's text lays them: the card ties them). -/
import Derived.Test.YtkkajbnonfnbjaaLoginAwake
import Derived.BigQuiet
import Derived.Deep.QuietTactic
import Derived.Lib.QuietBelow

namespace Go.Proofs.Ytkkajbnonfnbjaa.loginOut
open Go.Proofs.Ytkkajbnonfnbjaa Go.Proofs.Ytkkajbnonfnbjaa.Lo Go.Proofs.Ytkkajbnonfnbjaa.Ro Go.Sort
open Go.ChangeShapes Go.WideShapes Go.ChangeAt Go.RowKit Go.Sort Go.ChangeMaps
set_option linter.unusedSimpArgs false
set_option linter.unusedVariables false
set_option linter.unusedVariables false in
set_option maxHeartbeats 16000000 in
set_option maxRecDepth 100000 in
theorem walk (q0 : Lg) (z0 : q0.Wf) (u1 : Value) (s1 : List (List UInt8)) (s2 : List UInt8) (z2 : s2.length ≤ 9223372036854775807) (n3 : Int) (l3 : -9223372036854775808 ≤ n3) (h3 : n3 ≤ 9223372036854775807) (w : World) (y1 : HostsIs w u1 s1) (E : Env w) :
    Calls Try.prog 7 #[loginV q0, u1, str s2, .int .i64 n3] w fun e w' => e = .returned (.bool true) ∧ Below w.heap.size w w' := by
  have AWK := Lib.hid (fun W EW => awake_any W EW)
  have B0 := Lib.hid (Below.refl w.heap.size w)
  obtain ⟨p, n, c, rfl, hn⟩ := y1.form
  have HN := Lib.hid hn
  have YL0 := Lib.hid y1
  clear hn y1
  by_cases g1 : 4 < n
  · have g1' : (4 : Int) < (n : Int) := by omega
    go_enter Try.func7, Try.ntmps7
    go_wp2_with (first
        | (go_at_call 10; refine (AWK.out _ (E.below ((B0.out).alloc B0.out.size (.cells #[.int .i64 q0.ph, .int .i64 q0.te, .string ⟨q0.us.toArray⟩] 23)))).mono ?_; rintro e w1 ⟨rfl, b1⟩; have B1 := Lib.hid (((B0.out).alloc B0.out.size (.cells #[.int .i64 q0.ph, .int .i64 q0.te, .string ⟨q0.us.toArray⟩] 23)).trans (b1.mono (by have := B0.out.size; simp <;> omega))); have QB1 := Lib.hid ((IsRow.made w 23 #[.int .i64 q0.ph, .int .i64 q0.te, .string ⟨q0.us.toArray⟩]).call b1); have QBc0 : w1.cell? ⟨w.heap.size, 0, none⟩ = some (.int .i64 q0.ph) := QB1.out.cell 0; have QBc1 : w1.cell? ⟨w.heap.size, 1, none⟩ = some (.int .i64 q0.te) := QB1.out.cell 1; have QBc2 : w1.cell? ⟨w.heap.size, 2, none⟩ = some (.string ⟨q0.us.toArray⟩) := QB1.out.cell 2; have QBlt : w.heap.size < w1.heap.size := QB1.out.lt; have YL1 := Lib.hid ((YL0.out.alloc (.cells #[.int .i64 q0.ph, .int .i64 q0.te, .string ⟨q0.us.toArray⟩] 23)).call b1); clear YL0))
    all_goals (go_ret; exact ⟨by first | rfl | (simp; done) | (simp; omega), B1.out⟩)
  have g1' : ¬ (4 : Int) < (n : Int) := by omega
  by_cases g2 : 200 < s2.length
  · have g2' : (200 : Int) < (s2.length : Int) := by omega
    go_enter Try.func7, Try.ntmps7
    go_wp2_with (first
        | (go_at_call 10; refine (AWK.out _ (E.below ((B0.out).alloc B0.out.size (.cells #[.int .i64 q0.ph, .int .i64 q0.te, .string ⟨q0.us.toArray⟩] 23)))).mono ?_; rintro e w1 ⟨rfl, b1⟩; have B1 := Lib.hid (((B0.out).alloc B0.out.size (.cells #[.int .i64 q0.ph, .int .i64 q0.te, .string ⟨q0.us.toArray⟩] 23)).trans (b1.mono (by have := B0.out.size; simp <;> omega))); have QB1 := Lib.hid ((IsRow.made w 23 #[.int .i64 q0.ph, .int .i64 q0.te, .string ⟨q0.us.toArray⟩]).call b1); have QBc0 : w1.cell? ⟨w.heap.size, 0, none⟩ = some (.int .i64 q0.ph) := QB1.out.cell 0; have QBc1 : w1.cell? ⟨w.heap.size, 1, none⟩ = some (.int .i64 q0.te) := QB1.out.cell 1; have QBc2 : w1.cell? ⟨w.heap.size, 2, none⟩ = some (.string ⟨q0.us.toArray⟩) := QB1.out.cell 2; have QBlt : w.heap.size < w1.heap.size := QB1.out.lt; have YL1 := Lib.hid ((YL0.out.alloc (.cells #[.int .i64 q0.ph, .int .i64 q0.te, .string ⟨q0.us.toArray⟩] 23)).call b1); clear YL0))
    all_goals (go_ret; exact ⟨by first | rfl | (simp; done) | (simp; omega), B1.out⟩)
  have g2' : ¬ (200 : Int) < (s2.length : Int) := by omega
  obtain ⟨r, k, e⟩ : ∃ r k, hearL q0 n3 = (r, k) := ⟨_, _, rfl⟩
  obtain ⟨rb, kb, eb⟩ : ∃ r k, userL ⟨0, -1, []⟩ s1 s2 = (r, k) := ⟨_, _, rfl⟩
  have hoff : k = 3 → r = ⟨0, -1, []⟩ := by
    intro h3
    rcases hear_ways q0 n3 with ⟨-, e'⟩ | ⟨-, -, ⟨-, -, e'⟩ | ⟨-, -, e'⟩ | ⟨-, -, e'⟩ | ⟨-, -, -, e'⟩⟩ <;> (rw [e'] at e; injection e with e1 e2) <;> first | exact e1.symm | omega
  have hfine : kb = 0 → ∃ t u, rb = ⟨1, t, u⟩ := by
    intro h0
    rcases user_ways ⟨0, -1, []⟩ s1 s2 with ⟨-, e'⟩ | ⟨-, k', hk', e'⟩ | ⟨-, t, u, -, -, -, e'⟩ <;> (rw [e'] at eb; injection eb with e1 e2)
    · omega
    · omega
    · exact ⟨t, u, e1.symm⟩
  have HA := Lib.hid (fun W => heard_of q0 r n3 k l3 h3 e W)
  have HB := Lib.hid (fun W HR => user_of ⟨0, -1, []⟩ rb (.slice p n c) s1 s2 (by omega) kb eb W HR)
  by_cases gk : k = 3
  · obtain rfl := hoff gk
    subst gk
    have HRA := Lib.hid (fun W HR => user_of ⟨0, -1, []⟩ rb (.slice p n c) s1 s2 (by omega) kb eb W HR)
    have hnq : ∀ W, (Op.equalIn 10000 23 (.agg #[.int .i64 rb.ph, .int .i64 rb.te, .string ⟨rb.us.toArray⟩]) (.agg #[.int .i64 rb.ph, .int .i64 rb.te, .string ⟨rb.us.toArray⟩])).run Try.prog W = .ok true W := fun W => by
      have := equal_logins rb rb W
      rw [eqL_self] at this
      exact this
    have hkk : (kb != kb) = false := by simp
    clear e
    by_cases gb : kb = 0
    · obtain ⟨t, u, hrb⟩ := hfine gb
      subst gb
      subst hrb
      have HD1 := Lib.hid (fun W => dial_of ⟨1, t, u⟩ ⟨0, -1, []⟩ false 0 rfl W)
      have HD2 := Lib.hid (fun W => dial_of ⟨1, t, u⟩ ⟨2, t, u⟩ true 0 rfl W)
      clear hoff hfine eb
      have hnr : ∀ W, (Op.equalIn 10000 23 (.agg #[.int .i64 1, .int .i64 t, .string ⟨u.toArray⟩]) (.agg #[.int .i64 1, .int .i64 t, .string ⟨u.toArray⟩])).run Try.prog W = .ok true W := fun W => by
        have := equal_logins ⟨1, t, u⟩ ⟨1, t, u⟩ W
        rw [eqL_self] at this
        exact this
      have hkk2 : ((0 : Int) != 0) = false := rfl
      have heq : ∀ W, (Op.equalIn 10000 23 (.agg #[.int .i64 0, .int .i64 (-1), .string ⟨#[]⟩]) (.agg #[.int .i64 0, .int .i64 (-1), .string ⟨#[]⟩])).run Try.prog W = .ok true W := fun W => by
        have := equal_logins ⟨0, -1, []⟩ ⟨0, -1, []⟩ W
        rw [eqL_self] at this
        exact this
      have htt : (t == t) = true := by simp
      go_enter Try.func7, Try.ntmps7
      go_wp2_with (first
          | (go_at_call 10; refine (AWK.out _ (E.below ((B0.out).alloc B0.out.size (.cells #[.int .i64 q0.ph, .int .i64 q0.te, .string ⟨q0.us.toArray⟩] 23)))).mono ?_; rintro e w1 ⟨rfl, b1⟩; have B1 := Lib.hid (((B0.out).alloc B0.out.size (.cells #[.int .i64 q0.ph, .int .i64 q0.te, .string ⟨q0.us.toArray⟩] 23)).trans (b1.mono (by have := B0.out.size; simp <;> omega))); have QB1 := Lib.hid ((IsRow.made w 23 #[.int .i64 q0.ph, .int .i64 q0.te, .string ⟨q0.us.toArray⟩]).call b1); have QBc0 : w1.cell? ⟨w.heap.size, 0, none⟩ = some (.int .i64 q0.ph) := QB1.out.cell 0; have QBc1 : w1.cell? ⟨w.heap.size, 1, none⟩ = some (.int .i64 q0.te) := QB1.out.cell 1; have QBc2 : w1.cell? ⟨w.heap.size, 2, none⟩ = some (.string ⟨q0.us.toArray⟩) := QB1.out.cell 2; have QBlt : w.heap.size < w1.heap.size := QB1.out.lt; have YL1 := Lib.hid ((YL0.out.alloc (.cells #[.int .i64 q0.ph, .int .i64 q0.te, .string ⟨q0.us.toArray⟩] 23)).call b1); clear YL0)
          | (go_at_call 17; refine (HA.out _).mono ?_; rintro e w2 ⟨rfl, b2⟩; have B2 := Lib.hid (B1.out.trans (b2.mono B1.out.size)); have QB2 := Lib.hid (QB1.out.call b2); clear QBc0 QBc1 QBc2 QBlt; have YL2 := Lib.hid (YL1.out.call b2); clear YL1; clear HA; clear QB1)
          | (go_at_call 11; refine (HRA.out _ (YL2.out.alloc (.cells #[.int .i64 0, .int .i64 (-1), .string ⟨#[]⟩] 23))).mono ?_; rintro e w3 ⟨rfl, b3⟩; have B3 := Lib.hid (((B2.out).alloc B2.out.size (.cells #[.int .i64 0, .int .i64 (-1), .string ⟨#[]⟩] 23)).trans (b3.mono (by have := B2.out.size; simp <;> omega))); have MB3 := Lib.hid ((IsRow.made w2 23 #[.int .i64 0, .int .i64 (-1), .string ⟨#[]⟩]).call b3); have YL3 := Lib.hid ((YL2.out.alloc (.cells #[.int .i64 0, .int .i64 (-1), .string ⟨#[]⟩] 23)).call b3); clear YL2; clear HRA)
          | (go_at_call 21; refine (new_any _).mono ?_; rintro e w4 ⟨rfl, b4⟩; have B4 := Lib.hid (((B3.out).alloc B3.out.size (.cells #[.int .i64 1, .int .i64 t, .string ⟨u.toArray⟩] 23)).trans (b4.mono (by have := B3.out.size; simp <;> omega))); have AB4 := Lib.hid ((IsRow.made w3 23 #[.int .i64 1, .int .i64 t, .string ⟨u.toArray⟩]).call b4); have YL4 := Lib.hid ((YL3.out.alloc (.cells #[.int .i64 1, .int .i64 t, .string ⟨u.toArray⟩] 23)).call b4); clear YL3)
          | (go_at_call 11; refine (HB.out _ YL4.out).mono ?_; rintro e w5 ⟨rfl, b5⟩; have B5 := Lib.hid (B4.out.trans (b5.mono B4.out.size)); have AB5 := Lib.hid (AB4.out.call b5); have ABc0 : w5.cell? ⟨w3.heap.size, 0, none⟩ = some (.int .i64 1) := AB5.out.cell 0; have ABc1 : w5.cell? ⟨w3.heap.size, 1, none⟩ = some (.int .i64 t) := AB5.out.cell 1; have ABc2 : w5.cell? ⟨w3.heap.size, 2, none⟩ = some (.string ⟨u.toArray⟩) := AB5.out.cell 2; have ABlt : w3.heap.size < w5.heap.size := AB5.out.lt; have YL5 := Lib.hid (YL4.out.call b5); clear YL4; clear HB; clear AB4)
          | (go_at_call 15; refine (HD1.out _).mono ?_; rintro e w6 ⟨rfl, b6⟩; have B6 := Lib.hid (((B5.out).alloc B5.out.size (.cells #[.int .i64 1, .int .i64 t, .string ⟨u.toArray⟩] 23)).trans (b6.mono (by have := B5.out.size; simp <;> omega))); have AB6 := Lib.hid ((AB5.out.alloc (.cells #[.int .i64 1, .int .i64 t, .string ⟨u.toArray⟩] 23)).call b6); have BB6 := Lib.hid ((IsRow.made w5 23 #[.int .i64 1, .int .i64 t, .string ⟨u.toArray⟩]).call b6); clear ABc0 ABc1 ABc2 ABlt; have BBc0 : w6.cell? ⟨w5.heap.size, 0, none⟩ = some (.int .i64 1) := BB6.out.cell 0; have BBc1 : w6.cell? ⟨w5.heap.size, 1, none⟩ = some (.int .i64 t) := BB6.out.cell 1; have BBc2 : w6.cell? ⟨w5.heap.size, 2, none⟩ = some (.string ⟨u.toArray⟩) := BB6.out.cell 2; have BBlt : w5.heap.size < w6.heap.size := BB6.out.lt; have YL6 := Lib.hid ((YL5.out.alloc (.cells #[.int .i64 1, .int .i64 t, .string ⟨u.toArray⟩] 23)).call b6); clear YL5; clear HD1; clear AB5)
          | (go_at_call 15; refine (HD2.out _).mono ?_; rintro e w7 ⟨rfl, b7⟩; have B7 := Lib.hid (((B6.out).alloc B6.out.size (.cells #[.int .i64 0, .int .i64 (-1), .string ⟨#[]⟩] 23)).trans (b7.mono (by have := B6.out.size; simp <;> omega))); have AB7 := Lib.hid ((AB6.out.alloc (.cells #[.int .i64 0, .int .i64 (-1), .string ⟨#[]⟩] 23)).call b7); have BB7 := Lib.hid ((BB6.out.alloc (.cells #[.int .i64 0, .int .i64 (-1), .string ⟨#[]⟩] 23)).call b7); have CB7 := Lib.hid ((IsRow.made w6 23 #[.int .i64 0, .int .i64 (-1), .string ⟨#[]⟩]).call b7); clear BBc0 BBc1 BBc2 BBlt; have BBc0 : w7.cell? ⟨w5.heap.size, 0, none⟩ = some (.int .i64 1) := BB7.out.cell 0; have BBc1 : w7.cell? ⟨w5.heap.size, 1, none⟩ = some (.int .i64 t) := BB7.out.cell 1; have BBc2 : w7.cell? ⟨w5.heap.size, 2, none⟩ = some (.string ⟨u.toArray⟩) := BB7.out.cell 2; have BBlt : w5.heap.size < w7.heap.size := BB7.out.lt; have CBc0 : w7.cell? ⟨w6.heap.size, 0, none⟩ = some (.int .i64 0) := CB7.out.cell 0; have CBc1 : w7.cell? ⟨w6.heap.size, 1, none⟩ = some (.int .i64 (-1)) := CB7.out.cell 1; have CBc2 : w7.cell? ⟨w6.heap.size, 2, none⟩ = some (.string ⟨#[]⟩) := CB7.out.cell 2; have CBlt : w6.heap.size < w7.heap.size := CB7.out.lt; have YL7 := Lib.hid ((YL6.out.alloc (.cells #[.int .i64 0, .int .i64 (-1), .string ⟨#[]⟩] 23)).call b7); clear YL6; clear HD2; clear AB6 BB6))
      obtain ⟨v0, hv⟩ : ∃ V, w7.alloc (.cells #[.int .i64 2, .int .i64 t, .string ⟨u.toArray⟩] 23) = V := ⟨_, rfl⟩
      have RB : IsRow v0 (w5.heap.size) 23 #[.int .i64 1, .int .i64 t, .string ⟨u.toArray⟩] := by rw [← hv]; exact BB7.out.alloc _
      have RC : IsRow v0 (w6.heap.size) 23 #[.int .i64 0, .int .i64 (-1), .string ⟨#[]⟩] := by rw [← hv]; exact CB7.out.alloc _
      have RD : IsRow v0 (w7.heap.size) 23 #[.int .i64 2, .int .i64 t, .string ⟨u.toArray⟩] := by rw [← hv]; exact IsRow.made _ _ _
      have BV : Below w.heap.size w v0 := by rw [← hv]; exact B7.out.alloc B7.out.size _
      rw [hv]
      clear hv
      clear BBc0 BBc1 BBc2 BBlt CBc0 CBc1 CBc2 CBlt
      have k0 := cell_regrown (show v0.cell? ⟨w5.heap.size, 0, none⟩ = some (.int .i64 1) from RB.cell 0)
      have k1 := cell_regrown (show v0.cell? ⟨w5.heap.size, 1, none⟩ = some (.int .i64 t) from RB.cell 1)
      have k2 := cell_regrown (show v0.cell? ⟨w5.heap.size, 2, none⟩ = some (.string ⟨u.toArray⟩) from RB.cell 2)
      have k3 := cell_regrown (show v0.cell? ⟨w6.heap.size, 0, none⟩ = some (.int .i64 0) from RC.cell 0)
      have k4 := cell_regrown (show v0.cell? ⟨w6.heap.size, 1, none⟩ = some (.int .i64 (-1)) from RC.cell 1)
      have k5 := cell_regrown (show v0.cell? ⟨w6.heap.size, 2, none⟩ = some (.string ⟨#[]⟩) from RC.cell 2)
      have k6 := cell_regrown (show v0.cell? ⟨w7.heap.size, 0, none⟩ = some (.int .i64 2) from RD.cell 0)
      have k7 := cell_regrown (show v0.cell? ⟨w7.heap.size, 1, none⟩ = some (.int .i64 t) from RD.cell 1)
      have k8 := cell_regrown (show v0.cell? ⟨w7.heap.size, 2, none⟩ = some (.string ⟨u.toArray⟩) from RD.cell 2)
      have KN := Lib.hid (show ∀ dd os, Calls Try.prog 21 #[] (grow (redrawn v0 dd) os) fun e w'' => e = .returned (.agg #[.int .i64 0, .int .i64 (-1), .string ⟨#[]⟩]) ∧ ∃ p : Regrown, w'' = grow (redrawn v0 p.d) p.os from fun dd os => Calls.regrown_of (new_any _))
      refine wp_region_quiet_below (by kernel_rfl) (by kernel_rfl) ?_
      repeat (go_big_quiet_step (first | with_reducible exact KN.out _ _))
      refine wpQuiet_nil ?_
      intro _ hw'
      obtain ⟨⟨dq, osq⟩, hw''⟩ := hw'
      subst hw''
      go_wp2_with fail
      go_ret
      exact ⟨by first | rfl | (simp; done) | (simp; omega), BV.trans ((below_regrown v0 dq osq).mono BV.size)⟩
    have gb' : (kb != 0) = true := bne_iff_ne.2 gb
    clear gb hoff hfine eb
    go_enter Try.func7, Try.ntmps7
    go_wp2_with (first
        | (go_at_call 10; refine (AWK.out _ (E.below ((B0.out).alloc B0.out.size (.cells #[.int .i64 q0.ph, .int .i64 q0.te, .string ⟨q0.us.toArray⟩] 23)))).mono ?_; rintro e w1 ⟨rfl, b1⟩; have B1 := Lib.hid (((B0.out).alloc B0.out.size (.cells #[.int .i64 q0.ph, .int .i64 q0.te, .string ⟨q0.us.toArray⟩] 23)).trans (b1.mono (by have := B0.out.size; simp <;> omega))); have QB1 := Lib.hid ((IsRow.made w 23 #[.int .i64 q0.ph, .int .i64 q0.te, .string ⟨q0.us.toArray⟩]).call b1); have QBc0 : w1.cell? ⟨w.heap.size, 0, none⟩ = some (.int .i64 q0.ph) := QB1.out.cell 0; have QBc1 : w1.cell? ⟨w.heap.size, 1, none⟩ = some (.int .i64 q0.te) := QB1.out.cell 1; have QBc2 : w1.cell? ⟨w.heap.size, 2, none⟩ = some (.string ⟨q0.us.toArray⟩) := QB1.out.cell 2; have QBlt : w.heap.size < w1.heap.size := QB1.out.lt; have YL1 := Lib.hid ((YL0.out.alloc (.cells #[.int .i64 q0.ph, .int .i64 q0.te, .string ⟨q0.us.toArray⟩] 23)).call b1); clear YL0)
        | (go_at_call 17; refine (HA.out _).mono ?_; rintro e w2 ⟨rfl, b2⟩; have B2 := Lib.hid (B1.out.trans (b2.mono B1.out.size)); have QB2 := Lib.hid (QB1.out.call b2); clear QBc0 QBc1 QBc2 QBlt; have YL2 := Lib.hid (YL1.out.call b2); clear YL1; clear HA; clear QB1)
        | (go_at_call 11; refine (HRA.out _ (YL2.out.alloc (.cells #[.int .i64 0, .int .i64 (-1), .string ⟨#[]⟩] 23))).mono ?_; rintro e w3 ⟨rfl, b3⟩; have B3 := Lib.hid (((B2.out).alloc B2.out.size (.cells #[.int .i64 0, .int .i64 (-1), .string ⟨#[]⟩] 23)).trans (b3.mono (by have := B2.out.size; simp <;> omega))); have MB3 := Lib.hid ((IsRow.made w2 23 #[.int .i64 0, .int .i64 (-1), .string ⟨#[]⟩]).call b3); have YL3 := Lib.hid ((YL2.out.alloc (.cells #[.int .i64 0, .int .i64 (-1), .string ⟨#[]⟩] 23)).call b3); clear YL2; clear HRA)
        | (go_at_call 21; refine (new_any _).mono ?_; rintro e w4 ⟨rfl, b4⟩; have B4 := Lib.hid (((B3.out).alloc B3.out.size (.cells #[.int .i64 rb.ph, .int .i64 rb.te, .string ⟨rb.us.toArray⟩] 23)).trans (b4.mono (by have := B3.out.size; simp <;> omega))); have AB4 := Lib.hid ((IsRow.made w3 23 #[.int .i64 rb.ph, .int .i64 rb.te, .string ⟨rb.us.toArray⟩]).call b4); have YL4 := Lib.hid ((YL3.out.alloc (.cells #[.int .i64 rb.ph, .int .i64 rb.te, .string ⟨rb.us.toArray⟩] 23)).call b4); clear YL3)
        | (go_at_call 11; refine (HB.out _ YL4.out).mono ?_; rintro e w5 ⟨rfl, b5⟩; have B5 := Lib.hid (B4.out.trans (b5.mono B4.out.size)); have AB5 := Lib.hid (AB4.out.call b5); have ABc0 : w5.cell? ⟨w3.heap.size, 0, none⟩ = some (.int .i64 rb.ph) := AB5.out.cell 0; have ABc1 : w5.cell? ⟨w3.heap.size, 1, none⟩ = some (.int .i64 rb.te) := AB5.out.cell 1; have ABc2 : w5.cell? ⟨w3.heap.size, 2, none⟩ = some (.string ⟨rb.us.toArray⟩) := AB5.out.cell 2; have ABlt : w3.heap.size < w5.heap.size := AB5.out.lt; have YL5 := Lib.hid (YL4.out.call b5); clear YL4; clear HB; clear AB4))
    all_goals (go_ret; exact ⟨by first | rfl | (simp; done) | (simp; omega), (B5.out).alloc B5.out.size (.cells #[.int .i64 rb.ph, .int .i64 rb.te, .string ⟨rb.us.toArray⟩] 23)⟩)
  have gk' : (k == 3) = false := beq_eq_false_iff_ne.2 gk
  clear gk
  obtain ⟨ra, ka, ea⟩ : ∃ r' k', userL r s1 s2 = (r', k') := ⟨_, _, rfl⟩
  have HRA := Lib.hid (fun W HR => user_of r ra (.slice p n c) s1 s2 (by omega) ka ea W HR)
  clear e ea
  by_cases gb : kb = 0
  · obtain ⟨t, u, hrb⟩ := hfine gb
    subst gb
    subst hrb
    have HD1 := Lib.hid (fun W => dial_of ⟨1, t, u⟩ ⟨0, -1, []⟩ false 0 rfl W)
    have HD2 := Lib.hid (fun W => dial_of ⟨1, t, u⟩ ⟨2, t, u⟩ true 0 rfl W)
    clear hoff hfine eb
    have heq : ∀ W, (Op.equalIn 10000 23 (.agg #[.int .i64 0, .int .i64 (-1), .string ⟨#[]⟩]) (.agg #[.int .i64 0, .int .i64 (-1), .string ⟨#[]⟩])).run Try.prog W = .ok true W := fun W => by
      have := equal_logins ⟨0, -1, []⟩ ⟨0, -1, []⟩ W
      rw [eqL_self] at this
      exact this
    have htt : (t == t) = true := by simp
    go_enter Try.func7, Try.ntmps7
    go_wp2_with (first
        | (go_at_call 10; refine (AWK.out _ (E.below ((B0.out).alloc B0.out.size (.cells #[.int .i64 q0.ph, .int .i64 q0.te, .string ⟨q0.us.toArray⟩] 23)))).mono ?_; rintro e w1 ⟨rfl, b1⟩; have B1 := Lib.hid (((B0.out).alloc B0.out.size (.cells #[.int .i64 q0.ph, .int .i64 q0.te, .string ⟨q0.us.toArray⟩] 23)).trans (b1.mono (by have := B0.out.size; simp <;> omega))); have QB1 := Lib.hid ((IsRow.made w 23 #[.int .i64 q0.ph, .int .i64 q0.te, .string ⟨q0.us.toArray⟩]).call b1); have QBc0 : w1.cell? ⟨w.heap.size, 0, none⟩ = some (.int .i64 q0.ph) := QB1.out.cell 0; have QBc1 : w1.cell? ⟨w.heap.size, 1, none⟩ = some (.int .i64 q0.te) := QB1.out.cell 1; have QBc2 : w1.cell? ⟨w.heap.size, 2, none⟩ = some (.string ⟨q0.us.toArray⟩) := QB1.out.cell 2; have QBlt : w.heap.size < w1.heap.size := QB1.out.lt; have YL1 := Lib.hid ((YL0.out.alloc (.cells #[.int .i64 q0.ph, .int .i64 q0.te, .string ⟨q0.us.toArray⟩] 23)).call b1); clear YL0)
        | (go_at_call 17; refine (HA.out _).mono ?_; rintro e w2 ⟨rfl, b2⟩; have B2 := Lib.hid (B1.out.trans (b2.mono B1.out.size)); have QB2 := Lib.hid (QB1.out.call b2); clear QBc0 QBc1 QBc2 QBlt; have YL2 := Lib.hid (YL1.out.call b2); clear YL1; clear HA; clear QB1)
        | (go_at_call 11; refine (HRA.out _ (YL2.out.alloc (.cells #[.int .i64 r.ph, .int .i64 r.te, .string ⟨r.us.toArray⟩] 23))).mono ?_; rintro e w3 ⟨rfl, b3⟩; have B3 := Lib.hid (((B2.out).alloc B2.out.size (.cells #[.int .i64 r.ph, .int .i64 r.te, .string ⟨r.us.toArray⟩] 23)).trans (b3.mono (by have := B2.out.size; simp <;> omega))); have MB3 := Lib.hid ((IsRow.made w2 23 #[.int .i64 r.ph, .int .i64 r.te, .string ⟨r.us.toArray⟩]).call b3); have YL3 := Lib.hid ((YL2.out.alloc (.cells #[.int .i64 r.ph, .int .i64 r.te, .string ⟨r.us.toArray⟩] 23)).call b3); clear YL2; clear HRA)
        | (go_at_call 21; refine (new_any _).mono ?_; rintro e w4 ⟨rfl, b4⟩; have B4 := Lib.hid (((B3.out).alloc B3.out.size (.cells #[.int .i64 ra.ph, .int .i64 ra.te, .string ⟨ra.us.toArray⟩] 23)).trans (b4.mono (by have := B3.out.size; simp <;> omega))); have AB4 := Lib.hid ((IsRow.made w3 23 #[.int .i64 ra.ph, .int .i64 ra.te, .string ⟨ra.us.toArray⟩]).call b4); have YL4 := Lib.hid ((YL3.out.alloc (.cells #[.int .i64 ra.ph, .int .i64 ra.te, .string ⟨ra.us.toArray⟩] 23)).call b4); clear YL3)
        | (go_at_call 11; refine (HB.out _ YL4.out).mono ?_; rintro e w5 ⟨rfl, b5⟩; have B5 := Lib.hid (B4.out.trans (b5.mono B4.out.size)); have AB5 := Lib.hid (AB4.out.call b5); have ABc0 : w5.cell? ⟨w3.heap.size, 0, none⟩ = some (.int .i64 ra.ph) := AB5.out.cell 0; have ABc1 : w5.cell? ⟨w3.heap.size, 1, none⟩ = some (.int .i64 ra.te) := AB5.out.cell 1; have ABc2 : w5.cell? ⟨w3.heap.size, 2, none⟩ = some (.string ⟨ra.us.toArray⟩) := AB5.out.cell 2; have ABlt : w3.heap.size < w5.heap.size := AB5.out.lt; have YL5 := Lib.hid (YL4.out.call b5); clear YL4; clear HB; clear AB4)
        | (go_at_call 15; refine (HD1.out _).mono ?_; rintro e w6 ⟨rfl, b6⟩; have B6 := Lib.hid (((B5.out).alloc B5.out.size (.cells #[.int .i64 1, .int .i64 t, .string ⟨u.toArray⟩] 23)).trans (b6.mono (by have := B5.out.size; simp <;> omega))); have AB6 := Lib.hid ((AB5.out.alloc (.cells #[.int .i64 1, .int .i64 t, .string ⟨u.toArray⟩] 23)).call b6); have BB6 := Lib.hid ((IsRow.made w5 23 #[.int .i64 1, .int .i64 t, .string ⟨u.toArray⟩]).call b6); clear ABc0 ABc1 ABc2 ABlt; have BBc0 : w6.cell? ⟨w5.heap.size, 0, none⟩ = some (.int .i64 1) := BB6.out.cell 0; have BBc1 : w6.cell? ⟨w5.heap.size, 1, none⟩ = some (.int .i64 t) := BB6.out.cell 1; have BBc2 : w6.cell? ⟨w5.heap.size, 2, none⟩ = some (.string ⟨u.toArray⟩) := BB6.out.cell 2; have BBlt : w5.heap.size < w6.heap.size := BB6.out.lt; have YL6 := Lib.hid ((YL5.out.alloc (.cells #[.int .i64 1, .int .i64 t, .string ⟨u.toArray⟩] 23)).call b6); clear YL5; clear HD1; clear AB5)
        | (go_at_call 15; refine (HD2.out _).mono ?_; rintro e w7 ⟨rfl, b7⟩; have B7 := Lib.hid (((B6.out).alloc B6.out.size (.cells #[.int .i64 0, .int .i64 (-1), .string ⟨#[]⟩] 23)).trans (b7.mono (by have := B6.out.size; simp <;> omega))); have AB7 := Lib.hid ((AB6.out.alloc (.cells #[.int .i64 0, .int .i64 (-1), .string ⟨#[]⟩] 23)).call b7); have BB7 := Lib.hid ((BB6.out.alloc (.cells #[.int .i64 0, .int .i64 (-1), .string ⟨#[]⟩] 23)).call b7); have CB7 := Lib.hid ((IsRow.made w6 23 #[.int .i64 0, .int .i64 (-1), .string ⟨#[]⟩]).call b7); clear BBc0 BBc1 BBc2 BBlt; have BBc0 : w7.cell? ⟨w5.heap.size, 0, none⟩ = some (.int .i64 1) := BB7.out.cell 0; have BBc1 : w7.cell? ⟨w5.heap.size, 1, none⟩ = some (.int .i64 t) := BB7.out.cell 1; have BBc2 : w7.cell? ⟨w5.heap.size, 2, none⟩ = some (.string ⟨u.toArray⟩) := BB7.out.cell 2; have BBlt : w5.heap.size < w7.heap.size := BB7.out.lt; have CBc0 : w7.cell? ⟨w6.heap.size, 0, none⟩ = some (.int .i64 0) := CB7.out.cell 0; have CBc1 : w7.cell? ⟨w6.heap.size, 1, none⟩ = some (.int .i64 (-1)) := CB7.out.cell 1; have CBc2 : w7.cell? ⟨w6.heap.size, 2, none⟩ = some (.string ⟨#[]⟩) := CB7.out.cell 2; have CBlt : w6.heap.size < w7.heap.size := CB7.out.lt; have YL7 := Lib.hid ((YL6.out.alloc (.cells #[.int .i64 0, .int .i64 (-1), .string ⟨#[]⟩] 23)).call b7); clear YL6; clear HD2; clear AB6 BB6))
    obtain ⟨v0, hv⟩ : ∃ V, w7.alloc (.cells #[.int .i64 2, .int .i64 t, .string ⟨u.toArray⟩] 23) = V := ⟨_, rfl⟩
    have RB : IsRow v0 (w5.heap.size) 23 #[.int .i64 1, .int .i64 t, .string ⟨u.toArray⟩] := by rw [← hv]; exact BB7.out.alloc _
    have RC : IsRow v0 (w6.heap.size) 23 #[.int .i64 0, .int .i64 (-1), .string ⟨#[]⟩] := by rw [← hv]; exact CB7.out.alloc _
    have RD : IsRow v0 (w7.heap.size) 23 #[.int .i64 2, .int .i64 t, .string ⟨u.toArray⟩] := by rw [← hv]; exact IsRow.made _ _ _
    have BV : Below w.heap.size w v0 := by rw [← hv]; exact B7.out.alloc B7.out.size _
    rw [hv]
    clear hv
    clear BBc0 BBc1 BBc2 BBlt CBc0 CBc1 CBc2 CBlt
    have k0 := cell_regrown (show v0.cell? ⟨w5.heap.size, 0, none⟩ = some (.int .i64 1) from RB.cell 0)
    have k1 := cell_regrown (show v0.cell? ⟨w5.heap.size, 1, none⟩ = some (.int .i64 t) from RB.cell 1)
    have k2 := cell_regrown (show v0.cell? ⟨w5.heap.size, 2, none⟩ = some (.string ⟨u.toArray⟩) from RB.cell 2)
    have k3 := cell_regrown (show v0.cell? ⟨w6.heap.size, 0, none⟩ = some (.int .i64 0) from RC.cell 0)
    have k4 := cell_regrown (show v0.cell? ⟨w6.heap.size, 1, none⟩ = some (.int .i64 (-1)) from RC.cell 1)
    have k5 := cell_regrown (show v0.cell? ⟨w6.heap.size, 2, none⟩ = some (.string ⟨#[]⟩) from RC.cell 2)
    have k6 := cell_regrown (show v0.cell? ⟨w7.heap.size, 0, none⟩ = some (.int .i64 2) from RD.cell 0)
    have k7 := cell_regrown (show v0.cell? ⟨w7.heap.size, 1, none⟩ = some (.int .i64 t) from RD.cell 1)
    have k8 := cell_regrown (show v0.cell? ⟨w7.heap.size, 2, none⟩ = some (.string ⟨u.toArray⟩) from RD.cell 2)
    have KN := Lib.hid (show ∀ dd os, Calls Try.prog 21 #[] (grow (redrawn v0 dd) os) fun e w'' => e = .returned (.agg #[.int .i64 0, .int .i64 (-1), .string ⟨#[]⟩]) ∧ ∃ p : Regrown, w'' = grow (redrawn v0 p.d) p.os from fun dd os => Calls.regrown_of (new_any _))
    refine wp_region_quiet_below (by kernel_rfl) (by kernel_rfl) ?_
    repeat (go_big_quiet_step (first | with_reducible exact KN.out _ _))
    refine wpQuiet_nil ?_
    intro _ hw'
    obtain ⟨⟨dq, osq⟩, hw''⟩ := hw'
    subst hw''
    go_wp2_with fail
    go_ret
    exact ⟨by first | rfl | (simp; done) | (simp; omega), BV.trans ((below_regrown v0 dq osq).mono BV.size)⟩
  have gb' : (kb != 0) = true := bne_iff_ne.2 gb
  clear gb hoff hfine eb
  go_enter Try.func7, Try.ntmps7
  go_wp2_with (first
      | (go_at_call 10; refine (AWK.out _ (E.below ((B0.out).alloc B0.out.size (.cells #[.int .i64 q0.ph, .int .i64 q0.te, .string ⟨q0.us.toArray⟩] 23)))).mono ?_; rintro e w1 ⟨rfl, b1⟩; have B1 := Lib.hid (((B0.out).alloc B0.out.size (.cells #[.int .i64 q0.ph, .int .i64 q0.te, .string ⟨q0.us.toArray⟩] 23)).trans (b1.mono (by have := B0.out.size; simp <;> omega))); have QB1 := Lib.hid ((IsRow.made w 23 #[.int .i64 q0.ph, .int .i64 q0.te, .string ⟨q0.us.toArray⟩]).call b1); have QBc0 : w1.cell? ⟨w.heap.size, 0, none⟩ = some (.int .i64 q0.ph) := QB1.out.cell 0; have QBc1 : w1.cell? ⟨w.heap.size, 1, none⟩ = some (.int .i64 q0.te) := QB1.out.cell 1; have QBc2 : w1.cell? ⟨w.heap.size, 2, none⟩ = some (.string ⟨q0.us.toArray⟩) := QB1.out.cell 2; have QBlt : w.heap.size < w1.heap.size := QB1.out.lt; have YL1 := Lib.hid ((YL0.out.alloc (.cells #[.int .i64 q0.ph, .int .i64 q0.te, .string ⟨q0.us.toArray⟩] 23)).call b1); clear YL0)
      | (go_at_call 17; refine (HA.out _).mono ?_; rintro e w2 ⟨rfl, b2⟩; have B2 := Lib.hid (B1.out.trans (b2.mono B1.out.size)); have QB2 := Lib.hid (QB1.out.call b2); clear QBc0 QBc1 QBc2 QBlt; have YL2 := Lib.hid (YL1.out.call b2); clear YL1; clear HA; clear QB1)
      | (go_at_call 11; refine (HRA.out _ (YL2.out.alloc (.cells #[.int .i64 r.ph, .int .i64 r.te, .string ⟨r.us.toArray⟩] 23))).mono ?_; rintro e w3 ⟨rfl, b3⟩; have B3 := Lib.hid (((B2.out).alloc B2.out.size (.cells #[.int .i64 r.ph, .int .i64 r.te, .string ⟨r.us.toArray⟩] 23)).trans (b3.mono (by have := B2.out.size; simp <;> omega))); have MB3 := Lib.hid ((IsRow.made w2 23 #[.int .i64 r.ph, .int .i64 r.te, .string ⟨r.us.toArray⟩]).call b3); have YL3 := Lib.hid ((YL2.out.alloc (.cells #[.int .i64 r.ph, .int .i64 r.te, .string ⟨r.us.toArray⟩] 23)).call b3); clear YL2; clear HRA)
      | (go_at_call 21; refine (new_any _).mono ?_; rintro e w4 ⟨rfl, b4⟩; have B4 := Lib.hid (((B3.out).alloc B3.out.size (.cells #[.int .i64 ra.ph, .int .i64 ra.te, .string ⟨ra.us.toArray⟩] 23)).trans (b4.mono (by have := B3.out.size; simp <;> omega))); have AB4 := Lib.hid ((IsRow.made w3 23 #[.int .i64 ra.ph, .int .i64 ra.te, .string ⟨ra.us.toArray⟩]).call b4); have YL4 := Lib.hid ((YL3.out.alloc (.cells #[.int .i64 ra.ph, .int .i64 ra.te, .string ⟨ra.us.toArray⟩] 23)).call b4); clear YL3)
      | (go_at_call 11; refine (HB.out _ YL4.out).mono ?_; rintro e w5 ⟨rfl, b5⟩; have B5 := Lib.hid (B4.out.trans (b5.mono B4.out.size)); have AB5 := Lib.hid (AB4.out.call b5); have ABc0 : w5.cell? ⟨w3.heap.size, 0, none⟩ = some (.int .i64 ra.ph) := AB5.out.cell 0; have ABc1 : w5.cell? ⟨w3.heap.size, 1, none⟩ = some (.int .i64 ra.te) := AB5.out.cell 1; have ABc2 : w5.cell? ⟨w3.heap.size, 2, none⟩ = some (.string ⟨ra.us.toArray⟩) := AB5.out.cell 2; have ABlt : w3.heap.size < w5.heap.size := AB5.out.lt; have YL5 := Lib.hid (YL4.out.call b5); clear YL4; clear HB; clear AB4))
  all_goals (go_ret; exact ⟨by first | rfl | (simp; done) | (simp; omega), (B5.out).alloc B5.out.size (.cells #[.int .i64 rb.ph, .int .i64 rb.te, .string ⟨rb.us.toArray⟩] 23)⟩)

set_option maxRecDepth 100000 in
theorem lifted (os : Os) (started : os.Started) (H : Type) (enc : TypeId × Value → H) :
    ReturnsInHanded {} Try.checked os 7 .any (Rows.loginOutSpec.pre6 enc Try.prog Try.f7 Rows.loginOutRow.domain false) (Rows.loginOutSpec.post enc Try.prog Try.f7 false true false false) := by
  refine returnsInHanded_of_change (C := Try.checked) ownKnobs started (by kernel_rfl) Try.func7
    (ChangeSpec.witness6 (enc := enc) (C := Try.checked) false ⟨#[], #[.agg #[.int .i64 0, .int .i64 0, .string ⟨#[]⟩], .slice none 0 0, .string ⟨#[]⟩, .int .i64 0], []⟩ 8 (by kernel_rfl) (by kernel_rfl) (by kernel_rfl) (by kernel_rfl)) ?_
  intro W base args ds gs before hval0 hW _ _
  have E : Env W := trivial
  have hval : ∀ (j : Nat) t v, Try.f7.params[j]? = some t → args[j]? = some v → Value.okWide Try.prog W .any base t v := hval0
  have hW' := hW
  obtain ⟨p, q, hA0, hV, rfl, _, _⟩ := hW
  have hA : DataW.TrodAll enc Try.prog W 0 (fun _ => true) true Try.f7.params.toList args.toList ds p := hA0
  rw [Try.params7] at hA hval
  obtain ⟨v0, vs0, d0, ds0, p0, q0, hargs, rfl, rfl, r0, t0⟩ := trodAll_cons hA
  obtain ⟨v1, vs1, d1, ds1, p1, q1, rfl, rfl, rfl, r1, t1⟩ := trodAll_cons t0
  obtain ⟨v2, vs2, d2, ds2, p2, q2, rfl, rfl, rfl, r2, t2⟩ := trodAll_cons t1
  obtain ⟨v3, vs3, d3, ds3, p3, q3, rfl, rfl, rfl, r3, t3⟩ := trodAll_cons t2
  obtain ⟨rfl, rfl, rfl⟩ := trodAll_nil t3
  obtain rfl : args = #[v0, v1, v2, v3] := by cases args; simp_all
  obtain ⟨rfl, rfl⟩ := trodVars_none hV
  obtain ⟨q0, rfl, z0⟩ := open_login (hval 0 23 v0 rfl rfl) r0
  obtain ⟨s1, y1⟩ := open_hosts (hval 1 24 v1 rfl rfl) r1
  obtain ⟨x2, rfl, rfl, rfl, w2⟩ := open_string Try.underlying9 (hval 2 9 v2 rfl rfl) r2
  obtain ⟨s2, rfl⟩ : ∃ l : List UInt8, x2 = ⟨l.toArray⟩ := ⟨x2.data.toList, by simp⟩
  obtain ⟨n3, rfl, rfl, rfl, w3⟩ := open_int Try.underlying3 (hval 3 3 v3 rfl rfl) r3
  clear hA0 hval0
  simp only [List.append_nil] at hW'
  refine (walk q0 z0 v1 s1 s2 (by have := w2; rw [size_mk] at this; unfold maxLen at this; exact this) n3 (int_wf w3).1 (int_wf w3).2 W y1 E).mono fun e W' ⟨he, hb⟩ => ?_
  subst he
  have t0' := Below.trod laid_out (by kernel_rfl) (of_decide_eq_true (by kernel_rfl)) r0 hb (fun x hx => hW'.lt x (by simp [hx]))
  have t1' := Below.trod laid_out (by kernel_rfl) (of_decide_eq_true (by kernel_rfl)) r1 hb (fun x hx => hW'.lt x (by simp [hx]))
  exact ⟨_, rfl, told hW' (fun _ _ _ => trodAll_cons_mk (shut_bool Try.underlying4 _) trodAll_mk0) (trodAll_cons_mk (t0') (trodAll_cons_mk (t1') (trodAll_cons_mk (shut_string Try.underlying9 w2) (trodAll_cons_mk (shut_int Try.underlying3 w3) trodAll_mk0)))) (fun _ => rfl) hb⟩

theorem over : Rows.loginOutRow.holds Try.pinned (OpenSpec.ofChange Rows.loginOutSpec) :=
  OpenClaim.holds_of_wide 7 Try.f7 rfl rfl rfl rfl rfl rfl rfl ⟨rfl, rfl, rfl, rfl, rfl⟩ rfl rfl rfl rfl rfl (by kernel_rfl) Try.func7 (by kernel_rfl)
    (of_decide_eq_true (by kernel_rfl)) (by unfold Func.isWrapper; first | (rw [if_pos (by decide +kernel)]; kernel_rfl) | (rw [if_neg (by decide +kernel)]; exact ⟨rfl, rfl⟩))
    (fun os started H enc _ => lifted os started H enc)

theorem proved : Rows.LoginOutSaid :=
  over
#print axioms proved
end Go.Proofs.Ytkkajbnonfnbjaa.loginOut
