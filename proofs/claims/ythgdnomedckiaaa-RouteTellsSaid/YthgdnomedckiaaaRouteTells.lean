/- Proved: for every text and tenants (held against 200 bytes, 10 tenants): whether the text may be a name, a user, how it is split, and whose host it is, is what the document's answer says. Conditions: none beyond the row's own (the library's variables start as the program's text lays them: the card ties them). -/
import Derived.Test.YthgdnomedckiaaaRouteAwake
import Derived.BigQuiet
import Derived.Deep.QuietTactic

namespace Go.Proofs.Ythgdnomedckiaaa.routeTells
open Go.Proofs.Ythgdnomedckiaaa Go.Proofs.Ythgdnomedckiaaa.Ro Go.Proofs.Ythgdnomedckiaaa.Cm
open Go.ChangeShapes Go.WideShapes Go.ChangeAt Go.RowKit Go.Sort Go.ChangeMaps
set_option linter.unusedSimpArgs false
set_option linter.unusedVariables false in
set_option maxHeartbeats 2000000 in
set_option maxRecDepth 100000 in
theorem walk (s0 : List UInt8) (z0 : s0.length ≤ 9223372036854775807) (u1 : Value) (s1 : List (List UInt8)) (w : World) (y1 : HostsIs w u1 s1) (E : Env w) :
    Calls Try.prog 3 #[str s0, u1] w fun e w' => e = .returned (.bool true) ∧ Below w.heap.size w w' := by
  have AWK := Lib.hid (fun W EW => awake_any W EW)
  have B0 := Lib.hid (Below.refl w.heap.size w)
  obtain ⟨p, n, c, rfl, hn⟩ := y1.form
  have Y1 := Lib.hid y1
  clear hn y1
  by_cases g0 : 200 < s0.length
  · have g0' : (200 : Int) < (s0.length : Int) := by omega
    go_enter Try.func3, Try.ntmps3
    go_wp2_with (first
        | (go_at_call 7; refine (AWK.out _ (E.below (B0.out))).mono ?_; rintro e w1 ⟨rfl, b1⟩; have B1 := Lib.hid (B0.out.trans (b1.mono B0.out.size)); clear AWK))
    all_goals (go_ret; exact ⟨by first | rfl | (simp; done) | (simp; omega), B1.out⟩)
  have g0' : ¬ (200 : Int) < (s0.length : Int) := by omega
  by_cases gn : 10 < n
  · have gn' : (10 : Int) < (n : Int) := by omega
    go_enter Try.func3, Try.ntmps3
    go_wp2_with (first
        | (go_at_call 7; refine (AWK.out _ (E.below (B0.out))).mono ?_; rintro e w1 ⟨rfl, b1⟩; have B1 := Lib.hid (B0.out.trans (b1.mono B0.out.size)); clear AWK))
    all_goals (go_ret; exact ⟨by first | rfl | (simp; done) | (simp; omega), B1.out⟩)
  have gn' : ¬ (10 : Int) < (n : Int) := by omega
  obtain ⟨a, b, t, hS⟩ : ∃ a b t, splitR s0 = (a, b, t) := ⟨_, _, _, rfl⟩
  have H1 := Lib.hid (fun W EW => split_at s0 (by omega) a b t hS W EW)
  have H2 := Lib.hid (fun W => rsplit_at s0 (by omega) a b t hS W)
  have H3 := Lib.hid (fun W => rname_any s0 (by omega) W)
  have H4 := Lib.hid (fun W => ruser_any s0 (by omega) W)
  have H5 := Lib.hid (fun W EW => name_of s0 (by omega) (nameB s0) rfl W EW)
  have H6 := Lib.hid (fun W EW => user_of s0 (by omega) (userB s0) rfl W EW)
  have H7 := Lib.hid (fun W EW HR => find_of (.slice p n c) s1 s0 (findH s1 s0) rfl W EW HR)
  have H8 := Lib.hid (fun W HR => rfind_any (.slice p n c) s1 s0 W HR)
  clear hS
  generalize nameB s0 = x at *
  generalize userB s0 = y at *
  generalize findH s1 s0 = z at *
  go_enter Try.func3, Try.ntmps3
  go_wp2_with (first
      | (go_at_call 7; refine (AWK.out _ (E.below (B0.out))).mono ?_; rintro e w1 ⟨rfl, b1⟩; have B1 := Lib.hid (B0.out.trans (b1.mono B0.out.size)); clear AWK)
      | (go_at_call 8; refine (H1.out _ (E.below (B1.out))).mono ?_; rintro e w2 ⟨rfl, b2⟩; have B2 := Lib.hid (B1.out.trans (b2.mono B1.out.size)); clear H1)
      | (go_at_call 9; refine (H2.out _).mono ?_; rintro e w3 ⟨rfl, b3⟩; have B3 := Lib.hid (B2.out.trans (b3.mono B2.out.size)); clear H2)
      | (go_at_call 10; refine (H3.out _).mono ?_; rintro e w4 ⟨rfl, b4⟩; have B4 := Lib.hid (B3.out.trans (b4.mono B3.out.size)); clear H3)
      | (go_at_call 11; refine (H4.out _).mono ?_; rintro e w5 ⟨rfl, b5⟩; have B5 := Lib.hid (B4.out.trans (b5.mono B4.out.size)); clear H4)
      | (go_at_call 12; refine (H5.out _ (E.below (B5.out))).mono ?_; rintro e w6 ⟨rfl, b6⟩; have B6 := Lib.hid (B5.out.trans (b6.mono B5.out.size)); clear H5)
      | (go_at_call 13; refine (H6.out _ (E.below (B6.out))).mono ?_; rintro e w7 ⟨rfl, b7⟩; have B7 := Lib.hid (B6.out.trans (b7.mono B6.out.size)); clear H6)
      | (go_at_call 14; refine (H7.out _ (E.below (B7.out)) (Y1.out.call (B7.out))).mono ?_; rintro e w8 ⟨rfl, b8⟩; have B8 := Lib.hid (B7.out.trans (b8.mono B7.out.size)); clear H7)
      | (go_at_call 15; refine (H8.out _ (Y1.out.call (B8.out))).mono ?_; rintro e w9 ⟨rfl, b9⟩; have B9 := Lib.hid (B8.out.trans (b9.mono B8.out.size)); clear H8))
  all_goals (go_ret; exact ⟨by first | rfl | (simp; done) | (simp; omega), B9.out⟩)

set_option maxRecDepth 100000 in
theorem lifted (os : Os) (started : os.Started) (H : Type) (enc : TypeId × Value → H) :
    ReturnsInHanded {} Try.checked os 3 .any (Rows.routeTellsSpec.pre6 enc Try.prog Try.f3 Rows.routeTellsRow.domain false) (Rows.routeTellsSpec.post enc Try.prog Try.f3 false true false false) := by
  refine returnsInHanded_of_change (C := Try.checked) ownKnobs started (by kernel_rfl) Try.func3
    (ChangeSpec.witness6 (enc := enc) (C := Try.checked) false ⟨#[], #[.string ⟨#[]⟩, .slice none 0 0], []⟩ 8 (by kernel_rfl) (by kernel_rfl) (by kernel_rfl) (by kernel_rfl)) ?_
  intro W base args ds gs before hval0 hW _ _
  have E : Env W := trivial
  have hval : ∀ (j : Nat) t v, Try.f3.params[j]? = some t → args[j]? = some v → Value.okWide Try.prog W .any base t v := hval0
  have hW' := hW
  obtain ⟨p, q, hA0, hV, rfl, _, _⟩ := hW
  have hA : DataW.TrodAll enc Try.prog W 0 (fun _ => true) true Try.f3.params.toList args.toList ds p := hA0
  rw [Try.params3] at hA hval
  obtain ⟨v0, vs0, d0, ds0, p0, q0, hargs, rfl, rfl, r0, t0⟩ := trodAll_cons hA
  obtain ⟨v1, vs1, d1, ds1, p1, q1, rfl, rfl, rfl, r1, t1⟩ := trodAll_cons t0
  obtain ⟨rfl, rfl, rfl⟩ := trodAll_nil t1
  obtain rfl : args = #[v0, v1] := by cases args; simp_all
  obtain ⟨rfl, rfl⟩ := trodVars_none hV
  obtain ⟨x0, rfl, rfl, rfl, w0⟩ := open_string Try.underlying9 (hval 0 9 v0 rfl rfl) r0
  obtain ⟨s0, rfl⟩ : ∃ l : List UInt8, x0 = ⟨l.toArray⟩ := ⟨x0.data.toList, by simp⟩
  obtain ⟨s1, y1⟩ := open_hosts (hval 1 22 v1 rfl rfl) r1
  clear hA0 hval0
  simp only [List.append_nil] at hW'
  refine (walk s0 (by have := w0; rw [size_mk] at this; unfold maxLen at this; exact this) v1 s1 W y1 E).mono fun e W' ⟨he, hb⟩ => ?_
  subst he
  have t1' := Below.trod laid_out (by kernel_rfl) (of_decide_eq_true (by kernel_rfl)) r1 hb (fun x hx => hW'.lt x (by simp [hx]))
  exact ⟨_, rfl, told hW' (fun _ _ _ => trodAll_cons_mk (shut_bool Try.underlying4 _) trodAll_mk0) (trodAll_cons_mk (shut_string Try.underlying9 w0) (trodAll_cons_mk (t1') trodAll_mk0)) (fun _ => rfl) hb⟩

theorem over : Rows.routeTellsRow.holds Try.pinned (OpenSpec.ofChange Rows.routeTellsSpec) :=
  OpenClaim.holds_of_wide 3 Try.f3 rfl rfl rfl rfl rfl rfl rfl ⟨rfl, rfl, rfl, rfl, rfl⟩ rfl rfl rfl rfl rfl (by kernel_rfl) Try.func3 (by kernel_rfl)
    (of_decide_eq_true (by kernel_rfl)) (by unfold Func.isWrapper; first | (rw [if_pos (by decide +kernel)]; kernel_rfl) | (rw [if_neg (by decide +kernel)]; exact ⟨rfl, rfl⟩))
    (fun os started H enc _ => lifted os started H enc)

theorem proved : Rows.RouteTellsSaid :=
  over
#print axioms proved
end Go.Proofs.Ythgdnomedckiaaa.routeTells
