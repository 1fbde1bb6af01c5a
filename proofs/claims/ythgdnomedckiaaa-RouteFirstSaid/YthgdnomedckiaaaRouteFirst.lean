/- Proved: for every tenants and host (held against 10 tenants): the tenant that is found has that host, and none ahead of it has. Conditions: none beyond the row's own (the library's variables start as the program's text lays them: the card ties them). -/
import Derived.Test.YthgdnomedckiaaaRouteAwake
import Derived.BigQuiet
import Derived.Deep.QuietTactic

namespace Go.Proofs.Ythgdnomedckiaaa.routeFirst
open Go.Proofs.Ythgdnomedckiaaa Go.Proofs.Ythgdnomedckiaaa.Ro Go.Proofs.Ythgdnomedckiaaa.Cm
open Go.ChangeShapes Go.WideShapes Go.ChangeAt Go.RowKit Go.Sort Go.ChangeMaps
set_option linter.unusedSimpArgs false
set_option linter.unusedVariables false in
set_option maxHeartbeats 2000000 in
set_option maxRecDepth 100000 in
theorem walk (u0 : Value) (s0 : List (List UInt8)) (s1 : List UInt8) (z1 : s1.length ≤ 9223372036854775807) (w : World) (y0 : HostsIs w u0 s0) (E : Env w) :
    Calls Try.prog 4 #[u0, str s1] w fun e w' => e = .returned (.bool true) ∧ Below w.heap.size w w' := by
  have AWK := Lib.hid (fun W EW => awake_any W EW)
  have B0 := Lib.hid (Below.refl w.heap.size w)
  obtain ⟨p, n, c, rfl, hn⟩ := y0.form
  have HN := Lib.hid hn
  have Y0 := Lib.hid y0
  have hmax := y0.max
  rw [← hn] at hmax
  clear hn y0
  by_cases gn : 10 < n
  · have gn' : (10 : Int) < (n : Int) := by omega
    go_enter Try.func4, Try.ntmps4
    go_wp2_with (first
        | (go_at_call 7; refine (AWK.out _ (E.below (B0.out))).mono ?_; rintro e w1 ⟨rfl, b1⟩; have B1 := Lib.hid (B0.out.trans (b1.mono B0.out.size)); clear AWK))
    all_goals (go_ret; exact ⟨by first | rfl | (simp; done) | (simp; omega), B1.out⟩)
  have gn' : ¬ (10 : Int) < (n : Int) := by omega
  have HX : Hid (∀ j (hj : j < s0.length), s0[j] = s1 → (∀ i (hi : i < s0.length), i < j → s0[i] ≠ s1) → findH s0 s1 = (j : Int)) := Lib.hid (fun j hj he hn => find_at hj he hn)
  have HE : Hid ((∀ i (hi : i < s0.length), s0[i] ≠ s1) → findH s0 s1 = -1) := Lib.hid (fun h => find_none h)
  have HF := Lib.hid (fun W EW HR => find_of (.slice p n c) s0 s1 (findH s0 s1) rfl W EW HR)
  generalize findH s0 s1 = F at *
  go_enter Try.func4, Try.ntmps4
  go_wp2_with (first
      | (go_at_call 7; refine (AWK.out _ (E.below (B0.out))).mono ?_; rintro e w1 ⟨rfl, b1⟩; have B1 := Lib.hid (B0.out.trans (b1.mono B0.out.size)); clear AWK)
      | (go_at_call 14; refine (HF.out _ (E.below (B1.out)) (Y0.out.call (B1.out))).mono ?_; rintro e w2 ⟨rfl, b2⟩; have B2 := Lib.hid (B1.out.trans (b2.mono B1.out.size)); have Y2 := Lib.hid (Y0.out.call B2.out); clear HF))
  go_loopw [7] (fun x7 wr => ∃ (k : Nat), x7 = .int .i64 (k : Int) ∧ k ≤ n ∧ Hid (∀ j (hj : j < s0.length), j < k → s0[j] ≠ s1) ∧ Hid (wr = w2)) (fun i _ => n - (intOf i).toNat)
  case atStart => exact ⟨0, rfl, Nat.zero_le _, Lib.hid (fun _ _ h => absurd h (by omega)), by first | exact Lib.hid rfl | exact Lib.hid trivial⟩
  case round =>
    obtain ⟨k, rfl, hk, HO, HW⟩ := hrel
    obtain rfl := HW.out
    by_cases hlt : k < n
    · have hkl : k < s0.length := by rw [← HN.out]; exact hlt
      have hji : (k : Int) < (n : Int) := by omega
      have HK : Hid (k + 1 ≤ n) := Lib.hid hlt
      obtain ⟨b, o, rfl, hbl, hcell⟩ := Y2.out.some (by omega)
      have e1 := hcell k hkl
      have HX2 : Hid (s0[k] = s1 → F = (k : Int)) := Lib.hid (fun e => HX.out k hkl e HO.out)
      have HN2 : Hid (s0[k] ≠ s1 → ∀ j (hj : j < s0.length), j < k + 1 → s0[j] ≠ s1) := Lib.hid (fun hne j hj hji => by
        by_cases e : j = k
        · subst e; exact hne
        · exact HO.out j hj (by omega))
      clear hcell
      generalize s0[k] = t at *
      cases h1 : (t == s1) with
      | true =>
        have gF : (F == (k : Int)) = true := by rw [beq_iff_eq]; exact HX2.out (beq_iff_eq.1 h1)
        clear HX2 HN2
        go_wp2_with fail
        go_ret
        exact ⟨by first | rfl | (simp; done), B2.out⟩
      | false =>
        have HV := Lib.hid (HN2.out (beq_eq_false_iff_ne.1 h1))
        clear HX2 HN2
        go_wp2_with fail
        go_roundw
        case rel => exact ⟨k + 1, by go_num, HK.out, HV, by first | exact Lib.hid rfl | exact Lib.hid trivial⟩
        case measure => have := HK.out; simp [intOf]; omega
    · have hji : ¬ (k : Int) < (n : Int) := by omega
      have gF : (F == -1) = true := by rw [beq_iff_eq]; exact HE.out (fun j hj => HO.out j hj (by have := HN.out; omega))
      go_wp2_with fail
      go_ret
      exact ⟨by first | rfl | (simp; done), B2.out⟩

set_option maxRecDepth 100000 in
theorem lifted (os : Os) (started : os.Started) (H : Type) (enc : TypeId × Value → H) :
    ReturnsInHanded {} Try.checked os 4 .any (Rows.routeFirstSpec.pre6 enc Try.prog Try.f4 Rows.routeFirstRow.domain false) (Rows.routeFirstSpec.post enc Try.prog Try.f4 false true false false) := by
  refine returnsInHanded_of_change (C := Try.checked) ownKnobs started (by kernel_rfl) Try.func4
    (ChangeSpec.witness6 (enc := enc) (C := Try.checked) false ⟨#[], #[.slice none 0 0, .string ⟨#[]⟩], []⟩ 8 (by kernel_rfl) (by kernel_rfl) (by kernel_rfl) (by kernel_rfl)) ?_
  intro W base args ds gs before hval0 hW _ _
  have E : Env W := trivial
  have hval : ∀ (j : Nat) t v, Try.f4.params[j]? = some t → args[j]? = some v → Value.okWide Try.prog W .any base t v := hval0
  have hW' := hW
  obtain ⟨p, q, hA0, hV, rfl, _, _⟩ := hW
  have hA : DataW.TrodAll enc Try.prog W 0 (fun _ => true) true Try.f4.params.toList args.toList ds p := hA0
  rw [Try.params4] at hA hval
  obtain ⟨v0, vs0, d0, ds0, p0, q0, hargs, rfl, rfl, r0, t0⟩ := trodAll_cons hA
  obtain ⟨v1, vs1, d1, ds1, p1, q1, rfl, rfl, rfl, r1, t1⟩ := trodAll_cons t0
  obtain ⟨rfl, rfl, rfl⟩ := trodAll_nil t1
  obtain rfl : args = #[v0, v1] := by cases args; simp_all
  obtain ⟨rfl, rfl⟩ := trodVars_none hV
  obtain ⟨s0, y0⟩ := open_hosts (hval 0 22 v0 rfl rfl) r0
  obtain ⟨x1, rfl, rfl, rfl, w1⟩ := open_string Try.underlying9 (hval 1 9 v1 rfl rfl) r1
  obtain ⟨s1, rfl⟩ : ∃ l : List UInt8, x1 = ⟨l.toArray⟩ := ⟨x1.data.toList, by simp⟩
  clear hA0 hval0
  simp only [List.append_nil] at hW'
  refine (walk v0 s0 s1 (by have := w1; rw [size_mk] at this; unfold maxLen at this; exact this) W y0 E).mono fun e W' ⟨he, hb⟩ => ?_
  subst he
  have t0' := Below.trod laid_out (by kernel_rfl) (of_decide_eq_true (by kernel_rfl)) r0 hb (fun x hx => hW'.lt x (by simp [hx]))
  exact ⟨_, rfl, told hW' (fun _ _ _ => trodAll_cons_mk (shut_bool Try.underlying4 _) trodAll_mk0) (trodAll_cons_mk (t0') (trodAll_cons_mk (shut_string Try.underlying9 w1) trodAll_mk0)) (fun _ => rfl) hb⟩

theorem over : Rows.routeFirstRow.holds Try.pinned (OpenSpec.ofChange Rows.routeFirstSpec) :=
  OpenClaim.holds_of_wide 4 Try.f4 rfl rfl rfl rfl rfl rfl rfl ⟨rfl, rfl, rfl, rfl, rfl⟩ rfl rfl rfl rfl rfl (by kernel_rfl) Try.func4 (by kernel_rfl)
    (of_decide_eq_true (by kernel_rfl)) (by unfold Func.isWrapper; first | (rw [if_pos (by decide +kernel)]; kernel_rfl) | (rw [if_neg (by decide +kernel)]; exact ⟨rfl, rfl⟩))
    (fun os started H enc _ => lifted os started H enc)

theorem proved : Rows.RouteFirstSaid :=
  over
#print axioms proved
end Go.Proofs.Ythgdnomedckiaaa.routeFirst
