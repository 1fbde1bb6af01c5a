/- Proved: for every bytes (held against 300) and number: a beginning of bytes is as long as is asked for, if there are so many, and is their first ones. Conditions: none beyond the row's own (the library's variables start as the program's text lays them: the card ties them). -/
import Derived.Test.YtipagdnkmeaicaaQuotaAwake
import Derived.BigQuiet
import Derived.Deep.QuietTactic
import Derived.Deep.RegionHeld

namespace Go.Proofs.Ytipagdnkmeaicaa.quotaCuts
open Go.Proofs.Ytipagdnkmeaicaa Go.Proofs.Ytipagdnkmeaicaa.Qt
open Go.ChangeShapes Go.WideShapes Go.ChangeAt Go.RowKit Go.Sort Go.ChangeMaps
set_option linter.unusedSimpArgs false
set_option linter.unusedVariables false
set_option linter.unusedVariables false in
set_option maxHeartbeats 16000000 in
set_option maxRecDepth 100000 in
theorem walk (u0 : Value) (s0 : List UInt8) (n1 : Int) (l1 : -9223372036854775808 ≤ n1) (h1 : n1 ≤ 9223372036854775807) (w : World) (y0 : BytesIs w u0 s0) (E : Env w) :
    Calls Try.prog 6 #[u0, .int .i64 n1] w fun e w' => e = .returned (.bool true) ∧ Below w.heap.size w w' := by
  have AWK := Lib.hid (fun W EW => awake_any W EW)
  have B0 := Lib.hid (Below.refl w.heap.size w)
  obtain ⟨p, cc, hu⟩ := y0.form
  obtain ⟨nn, hnn⟩ : ∃ n, n = s0.length := ⟨_, rfl⟩
  rw [← hnn] at hu
  subst hu
  by_cases g : 300 < nn
  · have g' : (300 : Int) < (nn : Int) := by omega
    clear hnn y0
    go_enter Try.func6, Try.ntmps6
    go_wp2_with (first
        | (go_at_call 8; refine (AWK.out _ (E.below (B0.out))).mono ?_; rintro e w1 ⟨rfl, b1⟩; have B1 := Lib.hid (B0.out.trans (b1.mono B0.out.size)); clear AWK))
    all_goals (go_ret; exact ⟨by first | rfl | (simp; done) | (simp; omega), B1.out⟩)
  have g' : ¬ (300 : Int) < (nn : Int) := by omega
  obtain ⟨k, hk⟩ : ∃ k : Nat, k = min n1.toNat nn := ⟨_, rfl⟩
  have HB0 := bytes_head y0 k (by omega)
  have gc : (k : Int) ≤ (cc : Int) := by have := bytes_cap y0; omega
  have hrk : s0.take k = s0.take n1.toNat := by
    by_cases h : n1.toNat ≤ nn
    · rw [show k = n1.toNat from by omega]
    · rw [List.take_of_length_le (by omega), List.take_of_length_le (by omega)]
  rw [hrk] at HB0
  obtain ⟨r, hr⟩ : ∃ r, s0.take n1.toNat = r := ⟨_, rfl⟩
  have hrl : r.length = k := by rw [← hr, List.length_take]; omega
  rw [hr] at HB0
  have HB := Lib.hid HB0
  have Y0 := Lib.hid y0
  have hl0 : s0.length ≤ 1000000 := by omega
  have hkz : (k : Int) = if n1 < 0 then 0 else if (nn : Int) < n1 then (nn : Int) else n1 := by split <;> (try split) <;> omega
  by_cases c1 : n1 < 0
  · rw [if_pos c1] at hkz
    obtain rfl : k = 0 := by omega
    have gz : ¬ (nn : Int) < 0 := by omega
    have H1 := Lib.hid (fun W EW HR => cut_n (.slice p nn cc) s0 n1 hl0 r hr (0) hrl W EW HR)
    clear HB0 hr hrk hrl hnn y0 hk hkz hl0
    go_enter Try.func6, Try.ntmps6
    go_wp2_with (first
        | (go_at_call 8; refine (AWK.out _ (E.below (B0.out))).mono ?_; rintro e w1 ⟨rfl, b1⟩; have B1 := Lib.hid (B0.out.trans (b1.mono B0.out.size)); clear AWK)
        | (go_at_call 11; refine (H1.out _ (E.below (B1.out)) (Y0.out.call (B1.out))).mono ?_; rintro e w2 ⟨⟨p2, c2, rfl, h2⟩, b2⟩; have B2 := Lib.hid (B1.out.trans (b2.mono B1.out.size)); have hs2 := str_of_bytes (w := w2.drew) (h2.call (Below.refl w2.heap.size w2).drew); have ht2 := str_of_bytes (w := w2.drew) (HB.out.call B2.out.drew); clear H1 h2 HB))
    go_region_held (fun w' => (convert 22 9 (.slice p2 (0) c2)).run Try.prog w' = .ok (.string ⟨r.toArray⟩) w' ∧ (convert 22 9 (.slice p (0) cc)).run Try.prog w' = .ok (.string ⟨r.toArray⟩) w') (exact ⟨hs2, ht2⟩) (fail)
    all_goals (
      go_wp2_with fail
      go_ret
      exact ⟨by first | rfl | (simp; done), B2.out.drew⟩)
  rw [if_neg c1] at hkz
  by_cases c2 : (nn : Int) < n1
  · rw [if_pos c2] at hkz
    have e : k = nn := by omega
    subst e
    have H1 := Lib.hid (fun W EW HR => cut_n (.slice p k cc) s0 n1 hl0 r hr (k) hrl W EW HR)
    clear HB0 hr hrk hrl hnn y0 hk hkz hl0
    go_enter Try.func6, Try.ntmps6
    go_wp2_with (first
        | (go_at_call 8; refine (AWK.out _ (E.below (B0.out))).mono ?_; rintro e w1 ⟨rfl, b1⟩; have B1 := Lib.hid (B0.out.trans (b1.mono B0.out.size)); clear AWK)
        | (go_at_call 11; refine (H1.out _ (E.below (B1.out)) (Y0.out.call (B1.out))).mono ?_; rintro e w2 ⟨⟨p2, c2, rfl, h2⟩, b2⟩; have B2 := Lib.hid (B1.out.trans (b2.mono B1.out.size)); have hs2 := str_of_bytes (w := w2.drew) (h2.call (Below.refl w2.heap.size w2).drew); have ht2 := str_of_bytes (w := w2.drew) (HB.out.call B2.out.drew); clear H1 h2 HB))
    go_region_held (fun w' => (convert 22 9 (.slice p2 (k) c2)).run Try.prog w' = .ok (.string ⟨r.toArray⟩) w' ∧ (convert 22 9 (.slice p (k) cc)).run Try.prog w' = .ok (.string ⟨r.toArray⟩) w') (exact ⟨hs2, ht2⟩) (fail)
    all_goals (
      go_wp2_with fail
      go_ret
      exact ⟨by first | rfl | (simp; done), B2.out.drew⟩)
  rw [if_neg c2] at hkz
  have e : n1 = (k : Int) := by omega
  have H1 := Lib.hid (fun W EW HR => cut_n (.slice p nn cc) s0 n1 hl0 r hr (k) hrl W EW HR)
  clear HB0 hr hrk hrl hnn y0 hk hkz hl0
  subst e
  go_enter Try.func6, Try.ntmps6
  go_wp2_with (first
      | (go_at_call 8; refine (AWK.out _ (E.below (B0.out))).mono ?_; rintro e w1 ⟨rfl, b1⟩; have B1 := Lib.hid (B0.out.trans (b1.mono B0.out.size)); clear AWK)
      | (go_at_call 11; refine (H1.out _ (E.below (B1.out)) (Y0.out.call (B1.out))).mono ?_; rintro e w2 ⟨⟨p2, c2, rfl, h2⟩, b2⟩; have B2 := Lib.hid (B1.out.trans (b2.mono B1.out.size)); have hs2 := str_of_bytes (w := w2.drew) (h2.call (Below.refl w2.heap.size w2).drew); have ht2 := str_of_bytes (w := w2.drew) (HB.out.call B2.out.drew); clear H1 h2 HB))
  go_region_held (fun w' => (convert 22 9 (.slice p2 (k) c2)).run Try.prog w' = .ok (.string ⟨r.toArray⟩) w' ∧ (convert 22 9 (.slice p (k) cc)).run Try.prog w' = .ok (.string ⟨r.toArray⟩) w') (exact ⟨hs2, ht2⟩) (fail)
  all_goals (
    go_wp2_with fail
    go_ret
    exact ⟨by first | rfl | (simp; done), B2.out.drew⟩)

set_option maxRecDepth 100000 in
theorem lifted (os : Os) (started : os.Started) (H : Type) (enc : TypeId × Value → H) :
    ReturnsInHanded {} Try.checked os 6 .any (Rows.quotaCutsSpec.pre6 enc Try.prog Try.f6 Rows.quotaCutsRow.domain false) (Rows.quotaCutsSpec.post enc Try.prog Try.f6 false true false false) := by
  refine returnsInHanded_of_change (C := Try.checked) ownKnobs started (by kernel_rfl) Try.func6
    (ChangeSpec.witness6 (enc := enc) (C := Try.checked) false ⟨#[], #[.slice none 0 0, .int .i64 0], []⟩ 8 (by kernel_rfl) (by kernel_rfl) (by kernel_rfl) (by kernel_rfl)) ?_
  intro W base args ds gs before hval0 hW _ _
  have E : Env W := trivial
  have hval : ∀ (j : Nat) t v, Try.f6.params[j]? = some t → args[j]? = some v → Value.okWide Try.prog W .any base t v := hval0
  have hW' := hW
  obtain ⟨p, q, hA0, hV, rfl, _, _⟩ := hW
  have hA : DataW.TrodAll enc Try.prog W 0 (fun _ => true) true Try.f6.params.toList args.toList ds p := hA0
  rw [Try.params6] at hA hval
  obtain ⟨v0, vs0, d0, ds0, p0, q0, hargs, rfl, rfl, r0, t0⟩ := trodAll_cons hA
  obtain ⟨v1, vs1, d1, ds1, p1, q1, rfl, rfl, rfl, r1, t1⟩ := trodAll_cons t0
  obtain ⟨rfl, rfl, rfl⟩ := trodAll_nil t1
  obtain rfl : args = #[v0, v1] := by cases args; simp_all
  obtain ⟨rfl, rfl⟩ := trodVars_none hV
  obtain ⟨s0, y0, k0⟩ := open_bytes (hval 0 22 v0 rfl rfl) r0
  obtain ⟨n1, rfl, rfl, rfl, w1⟩ := open_int Try.underlying3 (hval 1 3 v1 rfl rfl) r1
  clear hA0 hval0
  simp only [List.append_nil] at hW'
  refine (walk v0 s0 n1 (int_wf w1).1 (int_wf w1).2 W y0 E).mono fun e W' ⟨he, hb⟩ => ?_
  subst he
  obtain ⟨pa0, z0⟩ := k0 W' hb
  exact ⟨_, rfl, told hW' (fun _ _ _ => trodAll_cons_mk (shut_bool Try.underlying4 _) trodAll_mk0) (trodAll_cons_mk (z0) (trodAll_cons_mk (shut_int Try.underlying3 w1) trodAll_mk0)) (fun _ => rfl) hb⟩

theorem over : Rows.quotaCutsRow.holds Try.pinned (OpenSpec.ofChange Rows.quotaCutsSpec) :=
  OpenClaim.holds_of_wide 6 Try.f6 rfl rfl rfl rfl rfl rfl rfl ⟨rfl, rfl, rfl, rfl, rfl⟩ rfl rfl rfl rfl rfl (by kernel_rfl) Try.func6 (by kernel_rfl)
    (of_decide_eq_true (by kernel_rfl)) (by unfold Func.isWrapper; first | (rw [if_pos (by decide +kernel)]; kernel_rfl) | (rw [if_neg (by decide +kernel)]; exact ⟨rfl, rfl⟩))
    (fun os started H enc _ => lifted os started H enc)

theorem proved : Rows.QuotaCutsSaid :=
  over
#print axioms proved
end Go.Proofs.Ytipagdnkmeaicaa.quotaCuts
