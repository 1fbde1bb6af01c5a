/- Proved: for every three texts (held against 60 bytes each): of several @ the last one tells the host. Conditions: none beyond the row's own (the library's variables start as the program's text lays them: the card ties them). -/
import Derived.Test.YthgdnomedckiaaaRouteAwake
import Derived.BigQuiet
import Derived.Deep.QuietTactic

namespace Go.Proofs.Ythgdnomedckiaaa.routeLast
open Go.Proofs.Ythgdnomedckiaaa Go.Proofs.Ythgdnomedckiaaa.Ro Go.Proofs.Ythgdnomedckiaaa.Cm
open Go.ChangeShapes Go.WideShapes Go.ChangeAt Go.RowKit Go.Sort Go.ChangeMaps
set_option linter.unusedSimpArgs false
set_option linter.unusedVariables false in
set_option maxHeartbeats 2000000 in
set_option maxRecDepth 100000 in
theorem walk (s0 : List UInt8) (z0 : s0.length ≤ 9223372036854775807) (s1 : List UInt8) (z1 : s1.length ≤ 9223372036854775807) (s2 : List UInt8) (z2 : s2.length ≤ 9223372036854775807) (w : World)  (E : Env w) :
    Calls Try.prog 6 #[str s0, str s1, str s2] w fun e w' => e = .returned (.bool true) ∧ Below w.heap.size w w' := by
  have AWK := Lib.hid (fun W EW => awake_any W EW)
  have B0 := Lib.hid (Below.refl w.heap.size w)
  by_cases g0 : 60 < s0.length
  · have g0' : (60 : Int) < (s0.length : Int) := by omega
    go_enter Try.func6, Try.ntmps6
    go_wp2_with (first
        | (go_at_call 7; refine (AWK.out _ (E.below (B0.out))).mono ?_; rintro e w1 ⟨rfl, b1⟩; have B1 := Lib.hid (B0.out.trans (b1.mono B0.out.size)); clear AWK))
    all_goals (go_ret; exact ⟨by first | rfl | (simp; done) | (simp; omega), B1.out⟩)
  have g0' : ¬ (60 : Int) < (s0.length : Int) := by omega
  by_cases g1 : 60 < s1.length
  · have g1' : (60 : Int) < (s1.length : Int) := by omega
    go_enter Try.func6, Try.ntmps6
    go_wp2_with (first
        | (go_at_call 7; refine (AWK.out _ (E.below (B0.out))).mono ?_; rintro e w1 ⟨rfl, b1⟩; have B1 := Lib.hid (B0.out.trans (b1.mono B0.out.size)); clear AWK))
    all_goals (go_ret; exact ⟨by first | rfl | (simp; done) | (simp; omega), B1.out⟩)
  have g1' : ¬ (60 : Int) < (s1.length : Int) := by omega
  by_cases g2 : 60 < s2.length
  · have g2' : (60 : Int) < (s2.length : Int) := by omega
    go_enter Try.func6, Try.ntmps6
    go_wp2_with (first
        | (go_at_call 7; refine (AWK.out _ (E.below (B0.out))).mono ?_; rintro e w1 ⟨rfl, b1⟩; have B1 := Lib.hid (B0.out.trans (b1.mono B0.out.size)); clear AWK))
    all_goals (go_ret; exact ⟨by first | rfl | (simp; done) | (simp; omega), B1.out⟩)
  have g2' : ¬ (60 : Int) < (s2.length : Int) := by omega
  obtain ⟨q1, hq1⟩ : ∃ q, q = s0 ++ [(64 : UInt8)] := ⟨_, rfl⟩
  obtain ⟨q2, hq2⟩ : ∃ q, q = q1 ++ s1 := ⟨_, rfl⟩
  obtain ⟨q3, hq3⟩ : ∃ q, q = q2 ++ [(64 : UInt8)] := ⟨_, rfl⟩
  obtain ⟨q4, hq4⟩ : ∃ q, q = q3 ++ s2 := ⟨_, rfl⟩
  have hx1 : ByteArray.mk s0.toArray ++ ByteArray.mk #[64] = ⟨q1.toArray⟩ := by rw [hq1]; apply ByteArray.ext; simp [ByteArray.data_append]
  have hx2 : ByteArray.mk q1.toArray ++ ByteArray.mk s1.toArray = ⟨q2.toArray⟩ := by rw [hq2]; apply ByteArray.ext; simp [ByteArray.data_append]
  have hx3 : ByteArray.mk q2.toArray ++ ByteArray.mk #[64] = ⟨q3.toArray⟩ := by rw [hq3]; apply ByteArray.ext; simp [ByteArray.data_append]
  have hx4 : ByteArray.mk q3.toArray ++ ByteArray.mk s2.toArray = ⟨q4.toArray⟩ := by rw [hq4]; apply ByteArray.ext; simp [ByteArray.data_append]
  have l1 : q1.length = s0.length + 1 := by rw [hq1, List.length_append]; rfl
  have l2 : q2.length = q1.length + s1.length := by rw [hq2, List.length_append]
  have l3 : q3.length = q2.length + 1 := by rw [hq3, List.length_append]; rfl
  have l4 : q4.length = q3.length + s2.length := by rw [hq4, List.length_append]
  have n1 : ¬ 9223372036854775807 < s0.length + 1 := by omega
  have n2 : ¬ 9223372036854775807 < q1.length + s1.length := by omega
  have n3 : ¬ 9223372036854775807 < q2.length + 1 := by omega
  have n4 : ¬ 9223372036854775807 < q3.length + s2.length := by omega
  have LQ2 : Hid (q2.length ≤ 1000) := Lib.hid (by omega)
  have LQ4 : Hid (q4.length ≤ 1000) := Lib.hid (by omega)
  have e4 : q4 = q2 ++ 64 :: s2 := by rw [hq4, hq3, List.append_assoc]; rfl
  clear l1 l2 l3 l4 hq1 hq2 hq3 hq4
  cases hu : userB q2 with
  | true =>
    have HU := Lib.hid (fun W EW => user_of q2 (by have := LQ2.out; omega) true hu W EW)
    cases hm : nameB s2 with
    | true =>
      have HM := Lib.hid (fun W EW => name_of s2 (by omega) true hm W EW)
      have HS := Lib.hid (fun W EW => split_at q4 (by have := LQ4.out; omega) q2 s2 true (by rw [e4]; exact split_fine hu hm) W EW)
      clear hu hm e4
      go_enter Try.func6, Try.ntmps6
      go_wp2_with (first
          | (go_at_call 7; refine (AWK.out _ (E.below (B0.out))).mono ?_; rintro e w1 ⟨rfl, b1⟩; have B1 := Lib.hid (B0.out.trans (b1.mono B0.out.size)); clear AWK)
          | (go_at_call 8; refine (HS.out _ (E.below (B1.out))).mono ?_; rintro e w2 ⟨rfl, b2⟩; have B2 := Lib.hid (B1.out.trans (b2.mono B1.out.size)); clear HS)
          | (go_at_call 13; refine (HU.out _ (E.below (B2.out))).mono ?_; rintro e w3 ⟨rfl, b3⟩; have B3 := Lib.hid (B2.out.trans (b3.mono B2.out.size)); clear HU)
          | (go_at_call 12; refine (HM.out _ (E.below (B3.out))).mono ?_; rintro e w4 ⟨rfl, b4⟩; have B4 := Lib.hid (B3.out.trans (b4.mono B3.out.size)); clear HM))
      all_goals (go_ret; exact ⟨by first | rfl | (simp; done) | (simp; omega), B4.out⟩)
    | false =>
      have HM := Lib.hid (fun W EW => name_of s2 (by omega) false hm W EW)
      clear e4 hu hm
      cases ht : (splitR q4).2.2 with
      | false =>
        have HS := Lib.hid (fun W EW => split_at q4 (by have := LQ4.out; omega) [] [] false (split_not ht) W EW)
        clear ht
        go_enter Try.func6, Try.ntmps6
        go_wp2_with (first
            | (go_at_call 7; refine (AWK.out _ (E.below (B0.out))).mono ?_; rintro e w1 ⟨rfl, b1⟩; have B1 := Lib.hid (B0.out.trans (b1.mono B0.out.size)); clear AWK)
            | (go_at_call 8; refine (HS.out _ (E.below (B1.out))).mono ?_; rintro e w2 ⟨rfl, b2⟩; have B2 := Lib.hid (B1.out.trans (b2.mono B1.out.size)); clear HS)
            | (go_at_call 13; refine (HU.out _ (E.below (B2.out))).mono ?_; rintro e w3 ⟨rfl, b3⟩; have B3 := Lib.hid (B2.out.trans (b3.mono B2.out.size)); clear HU)
            | (go_at_call 12; refine (HM.out _ (E.below (B3.out))).mono ?_; rintro e w4 ⟨rfl, b4⟩; have B4 := Lib.hid (B3.out.trans (b4.mono B3.out.size)); clear HM))
        all_goals (go_ret; exact ⟨by first | rfl | (simp; done) | (simp; omega), B4.out⟩)
      | true =>
        have hmay := split_may ht
        have hln := split_len q4
        obtain ⟨x, y, t, hS⟩ : ∃ x y t, splitR q4 = (x, y, t) := ⟨_, _, _, rfl⟩
        rw [hS] at ht hmay hln
        obtain rfl : t = true := ht
        have HS := Lib.hid (fun W EW => split_at q4 (by have := LQ4.out; omega) x y true hS W EW)
        have HU2 := Lib.hid (fun W EW => user_of x (by have := LQ4.out; have h := hln.1; simp only at h; omega) true hmay.1 W EW)
        have HM2 := Lib.hid (fun W EW => name_of y (by have := LQ4.out; have h := hln.2; simp only at h; omega) true hmay.2 W EW)
        clear hS hmay hln
        go_enter Try.func6, Try.ntmps6
        go_wp2_with (first
            | (go_at_call 7; refine (AWK.out _ (E.below (B0.out))).mono ?_; rintro e w1 ⟨rfl, b1⟩; have B1 := Lib.hid (B0.out.trans (b1.mono B0.out.size)); clear AWK)
            | (go_at_call 8; refine (HS.out _ (E.below (B1.out))).mono ?_; rintro e w2 ⟨rfl, b2⟩; have B2 := Lib.hid (B1.out.trans (b2.mono B1.out.size)); clear HS)
            | (go_at_call 13; refine (HU.out _ (E.below (B2.out))).mono ?_; rintro e w3 ⟨rfl, b3⟩; have B3 := Lib.hid (B2.out.trans (b3.mono B2.out.size)); clear HU)
            | (go_at_call 12; refine (HM.out _ (E.below (B3.out))).mono ?_; rintro e w4 ⟨rfl, b4⟩; have B4 := Lib.hid (B3.out.trans (b4.mono B3.out.size)); clear HM)
            | (go_at_call 13; refine (HU2.out _ (E.below (B4.out))).mono ?_; rintro e w5 ⟨rfl, b5⟩; have B5 := Lib.hid (B4.out.trans (b5.mono B4.out.size)); clear HU2)
            | (go_at_call 12; refine (HM2.out _ (E.below (B5.out))).mono ?_; rintro e w6 ⟨rfl, b6⟩; have B6 := Lib.hid (B5.out.trans (b6.mono B5.out.size)); clear HM2))
        all_goals (go_ret; exact ⟨by first | rfl | (simp; done) | (simp; omega), B6.out⟩)
  | false =>
    have HU := Lib.hid (fun W EW => user_of q2 (by have := LQ2.out; omega) false hu W EW)
    clear e4 hu
    cases ht : (splitR q4).2.2 with
    | false =>
      have HS := Lib.hid (fun W EW => split_at q4 (by have := LQ4.out; omega) [] [] false (split_not ht) W EW)
      clear ht
      go_enter Try.func6, Try.ntmps6
      go_wp2_with (first
          | (go_at_call 7; refine (AWK.out _ (E.below (B0.out))).mono ?_; rintro e w1 ⟨rfl, b1⟩; have B1 := Lib.hid (B0.out.trans (b1.mono B0.out.size)); clear AWK)
          | (go_at_call 8; refine (HS.out _ (E.below (B1.out))).mono ?_; rintro e w2 ⟨rfl, b2⟩; have B2 := Lib.hid (B1.out.trans (b2.mono B1.out.size)); clear HS)
          | (go_at_call 13; refine (HU.out _ (E.below (B2.out))).mono ?_; rintro e w3 ⟨rfl, b3⟩; have B3 := Lib.hid (B2.out.trans (b3.mono B2.out.size)); clear HU))
      all_goals (go_ret; exact ⟨by first | rfl | (simp; done) | (simp; omega), B3.out⟩)
    | true =>
      have hmay := split_may ht
      have hln := split_len q4
      obtain ⟨x, y, t, hS⟩ : ∃ x y t, splitR q4 = (x, y, t) := ⟨_, _, _, rfl⟩
      rw [hS] at ht hmay hln
      obtain rfl : t = true := ht
      have HS := Lib.hid (fun W EW => split_at q4 (by have := LQ4.out; omega) x y true hS W EW)
      have HU2 := Lib.hid (fun W EW => user_of x (by have := LQ4.out; have h := hln.1; simp only at h; omega) true hmay.1 W EW)
      have HM2 := Lib.hid (fun W EW => name_of y (by have := LQ4.out; have h := hln.2; simp only at h; omega) true hmay.2 W EW)
      clear hS hmay hln
      go_enter Try.func6, Try.ntmps6
      go_wp2_with (first
          | (go_at_call 7; refine (AWK.out _ (E.below (B0.out))).mono ?_; rintro e w1 ⟨rfl, b1⟩; have B1 := Lib.hid (B0.out.trans (b1.mono B0.out.size)); clear AWK)
          | (go_at_call 8; refine (HS.out _ (E.below (B1.out))).mono ?_; rintro e w2 ⟨rfl, b2⟩; have B2 := Lib.hid (B1.out.trans (b2.mono B1.out.size)); clear HS)
          | (go_at_call 13; refine (HU.out _ (E.below (B2.out))).mono ?_; rintro e w3 ⟨rfl, b3⟩; have B3 := Lib.hid (B2.out.trans (b3.mono B2.out.size)); clear HU)
          | (go_at_call 13; refine (HU2.out _ (E.below (B3.out))).mono ?_; rintro e w4 ⟨rfl, b4⟩; have B4 := Lib.hid (B3.out.trans (b4.mono B3.out.size)); clear HU2)
          | (go_at_call 12; refine (HM2.out _ (E.below (B4.out))).mono ?_; rintro e w5 ⟨rfl, b5⟩; have B5 := Lib.hid (B4.out.trans (b5.mono B4.out.size)); clear HM2))
      all_goals (go_ret; exact ⟨by first | rfl | (simp; done) | (simp; omega), B5.out⟩)

set_option maxRecDepth 100000 in
theorem lifted (os : Os) (started : os.Started) (H : Type) (enc : TypeId × Value → H) :
    ReturnsInHanded {} Try.checked os 6 .any (Rows.routeLastSpec.pre6 enc Try.prog Try.f6 Rows.routeLastRow.domain false) (Rows.routeLastSpec.post enc Try.prog Try.f6 false true false false) := by
  refine returnsInHanded_of_change (C := Try.checked) ownKnobs started (by kernel_rfl) Try.func6
    (ChangeSpec.witness6 (enc := enc) (C := Try.checked) false ⟨#[], #[.string ⟨#[]⟩, .string ⟨#[]⟩, .string ⟨#[]⟩], []⟩ 8 (by kernel_rfl) (by kernel_rfl) (by kernel_rfl) (by kernel_rfl)) ?_
  intro W base args ds gs before hval0 hW _ _
  have E : Env W := trivial
  have hval : ∀ (j : Nat) t v, Try.f6.params[j]? = some t → args[j]? = some v → Value.okWide Try.prog W .any base t v := hval0
  have hW' := hW
  obtain ⟨p, q, hA0, hV, rfl, _, _⟩ := hW
  have hA : DataW.TrodAll enc Try.prog W 0 (fun _ => true) true Try.f6.params.toList args.toList ds p := hA0
  rw [Try.params6] at hA hval
  obtain ⟨v0, vs0, d0, ds0, p0, q0, hargs, rfl, rfl, r0, t0⟩ := trodAll_cons hA
  obtain ⟨v1, vs1, d1, ds1, p1, q1, rfl, rfl, rfl, r1, t1⟩ := trodAll_cons t0
  obtain ⟨v2, vs2, d2, ds2, p2, q2, rfl, rfl, rfl, r2, t2⟩ := trodAll_cons t1
  obtain ⟨rfl, rfl, rfl⟩ := trodAll_nil t2
  obtain rfl : args = #[v0, v1, v2] := by cases args; simp_all
  obtain ⟨rfl, rfl⟩ := trodVars_none hV
  obtain ⟨x0, rfl, rfl, rfl, w0⟩ := open_string Try.underlying9 (hval 0 9 v0 rfl rfl) r0
  obtain ⟨s0, rfl⟩ : ∃ l : List UInt8, x0 = ⟨l.toArray⟩ := ⟨x0.data.toList, by simp⟩
  obtain ⟨x1, rfl, rfl, rfl, w1⟩ := open_string Try.underlying9 (hval 1 9 v1 rfl rfl) r1
  obtain ⟨s1, rfl⟩ : ∃ l : List UInt8, x1 = ⟨l.toArray⟩ := ⟨x1.data.toList, by simp⟩
  obtain ⟨x2, rfl, rfl, rfl, w2⟩ := open_string Try.underlying9 (hval 2 9 v2 rfl rfl) r2
  obtain ⟨s2, rfl⟩ : ∃ l : List UInt8, x2 = ⟨l.toArray⟩ := ⟨x2.data.toList, by simp⟩
  clear hA0 hval0
  simp only [List.append_nil] at hW'
  refine (walk s0 (by have := w0; rw [size_mk] at this; unfold maxLen at this; exact this) s1 (by have := w1; rw [size_mk] at this; unfold maxLen at this; exact this) s2 (by have := w2; rw [size_mk] at this; unfold maxLen at this; exact this) W  E).mono fun e W' ⟨he, hb⟩ => ?_
  subst he
  exact ⟨_, rfl, told hW' (fun _ _ _ => trodAll_cons_mk (shut_bool Try.underlying4 _) trodAll_mk0) (trodAll_cons_mk (shut_string Try.underlying9 w0) (trodAll_cons_mk (shut_string Try.underlying9 w1) (trodAll_cons_mk (shut_string Try.underlying9 w2) trodAll_mk0))) (fun _ => rfl) hb⟩

theorem over : Rows.routeLastRow.holds Try.pinned (OpenSpec.ofChange Rows.routeLastSpec) :=
  OpenClaim.holds_of_wide 6 Try.f6 rfl rfl rfl rfl rfl rfl rfl ⟨rfl, rfl, rfl, rfl, rfl⟩ rfl rfl rfl rfl rfl (by kernel_rfl) Try.func6 (by kernel_rfl)
    (of_decide_eq_true (by kernel_rfl)) (by unfold Func.isWrapper; first | (rw [if_pos (by decide +kernel)]; kernel_rfl) | (rw [if_neg (by decide +kernel)]; exact ⟨rfl, rfl⟩))
    (fun os started H enc _ => lifted os started H enc)

theorem proved : Rows.RouteLastSaid :=
  over
#print axioms proved
end Go.Proofs.Ythgdnomedckiaaa.routeLast
