/- Proved: for every text (held against 100 bytes): a text without an @ is split in no way, nor is one that ends, or begins, by its only one. Conditions: none beyond the row's own (the library's variables start as the program's text lays them: the card ties them). -/
import Derived.Test.YthgdnomedckiaaaRouteAwake
import Derived.BigQuiet
import Derived.Deep.QuietTactic

namespace Go.Proofs.Ythgdnomedckiaaa.routeNo
open Go.Proofs.Ythgdnomedckiaaa Go.Proofs.Ythgdnomedckiaaa.Ro Go.Proofs.Ythgdnomedckiaaa.Cm
open Go.ChangeShapes Go.WideShapes Go.ChangeAt Go.RowKit Go.Sort Go.ChangeMaps
set_option linter.unusedSimpArgs false
set_option linter.unusedVariables false in
set_option maxHeartbeats 2000000 in
set_option maxRecDepth 100000 in
theorem walk (s0 : List UInt8) (z0 : s0.length ≤ 9223372036854775807) (w : World)  (E : Env w) :
    Calls Try.prog 5 #[str s0] w fun e w' => e = .returned (.bool true) ∧ Below w.heap.size w w' := by
  have AWK := Lib.hid (fun W EW => awake_any W EW)
  have B0 := Lib.hid (Below.refl w.heap.size w)
  by_cases g0 : 100 < s0.length
  · have g0' : (100 : Int) < (s0.length : Int) := by omega
    go_enter Try.func5, Try.ntmps5
    go_wp2_with (first
        | (go_at_call 7; refine (AWK.out _ (E.below (B0.out))).mono ?_; rintro e w1 ⟨rfl, b1⟩; have B1 := Lib.hid (B0.out.trans (b1.mono B0.out.size)); clear AWK))
    all_goals (go_ret; exact ⟨by first | rfl | (simp; done) | (simp; omega), B1.out⟩)
  have g0' : ¬ (100 : Int) < (s0.length : Int) := by omega
  have HQ : Hid ((64 : UInt8) ∉ s0 → splitR s0 = ([], [], false) ∧ splitR (s0 ++ [64]) = ([], [], false) ∧ splitR (64 :: s0) = ([], [], false)) := Lib.hid (fun h => ⟨split_not (no_sign h).1, split_not (no_sign h).2.1, split_not (no_sign h).2.2⟩)
  obtain ⟨q1, hq1⟩ : ∃ q, q = s0 ++ [(64 : UInt8)] := ⟨_, rfl⟩
  obtain ⟨q2, hq2⟩ : ∃ q, q = (64 : UInt8) :: s0 := ⟨_, rfl⟩
  have hx1 : ByteArray.mk s0.toArray ++ ByteArray.mk #[64] = ⟨q1.toArray⟩ := by rw [hq1]; apply ByteArray.ext; simp [ByteArray.data_append]
  have hx2 : ByteArray.mk #[64] ++ ByteArray.mk s0.toArray = ⟨q2.toArray⟩ := by rw [hq2]; apply ByteArray.ext; simp [ByteArray.data_append]
  have HL1 : Hid (q1.length ≤ 101) := Lib.hid (by rw [hq1, List.length_append]; simp <;> omega)
  have HL2 : Hid (q2.length ≤ 101) := Lib.hid (by rw [hq2, List.length_cons]; omega)
  have n0 : ¬ 9223372036854775807 < s0.length + 1 := by omega
  have n1 : ¬ 9223372036854775807 < 1 + s0.length := by omega
  rw [← hq1, ← hq2] at HQ
  clear hq1 hq2
  go_enter Try.func5, Try.ntmps5
  go_wp2_with (first
      | (go_at_call 7; refine (AWK.out _ (E.below (B0.out))).mono ?_; rintro e w1 ⟨rfl, b1⟩; have B1 := Lib.hid (B0.out.trans (b1.mono B0.out.size)); clear AWK))
  go_loopw [4] (fun x4 wr => ∃ (k : Nat), x4 = .int .i64 (k : Int) ∧ k ≤ s0.length ∧ Hid ((64 : UInt8) ∉ s0.take k) ∧ Hid (wr = w1)) (fun i _ => s0.length - (intOf i).toNat)
  case atStart => exact ⟨0, rfl, Nat.zero_le _, Lib.hid (by simp), by first | exact Lib.hid rfl | exact Lib.hid trivial⟩
  case round =>
    obtain ⟨k, rfl, hk, HF, HW⟩ := hrel
    obtain rfl := HW.out
    by_cases hlt : k < s0.length
    · have hsz : k < (ByteArray.mk s0.toArray).size := by simpa [ByteArray.size] using hlt
      have hji : (k : Int) < (s0.length : Int) := by omega
      have HK : Hid (k + 1 ≤ s0.length) := Lib.hid hlt
      obtain ⟨ch, hcx⟩ : ∃ c : UInt8, (ByteArray.mk s0.toArray)[k]'hsz = c := ⟨_, rfl⟩
      have hc0 : s0[k]'hlt = ch := hcx
      cases h4 : (ch == (64 : UInt8)) with
      | true =>
        have g4 : ((ch.toNat : Int) == 64) = true := by rw [beq_iff_eq] at h4; subst h4; rfl
        clear h4 hc0
        go_wp2_with fail
        go_ret
        exact ⟨rfl, B1.out⟩
      | false =>
        have g4 : ((ch.toNat : Int) == 64) = false := by rw [beq_eq_false_iff_ne]; intro e; rw [beq_eq_false_iff_ne] at h4; exact h4 (UInt8.toNat.inj (by show ch.toNat = 64; omega))
        have HFN : Hid ((64 : UInt8) ∉ s0.take (k + 1)) := Lib.hid (by
          rw [List.take_succ_eq_append_getElem hlt, hc0]
          simp only [List.mem_append, List.mem_singleton, not_or]
          rw [beq_eq_false_iff_ne] at h4
          exact ⟨HF.out, fun e => h4 e.symm⟩)
        clear h4 hc0
        go_wp2_with fail
        go_roundw
        case rel => exact ⟨k + 1, by go_num, HK.out, HFN, by first | exact Lib.hid rfl | exact Lib.hid trivial⟩
        case measure => have := HK.out; simp [intOf]; omega
    · have hji : ¬ (k : Int) < (s0.length : Int) := by omega
      have hq := HQ.out (by have h := HF.out; rwa [List.take_of_length_le (by omega)] at h)
      have H1 := Lib.hid (fun W EW => split_at s0 (by omega) [] [] false hq.1 W EW)
      have H2 := Lib.hid (fun W EW => split_at q1 (by have := HL1.out; omega) [] [] false hq.2.1 W EW)
      have H3 := Lib.hid (fun W EW => split_at q2 (by have := HL2.out; omega) [] [] false hq.2.2 W EW)
      clear hq HF HQ
      go_wp2_with (first
          | (go_at_call 8; refine (H1.out _ (E.below (B1.out))).mono ?_; rintro e w2 ⟨rfl, b2⟩; have B2 := Lib.hid (B1.out.trans (b2.mono B1.out.size)); clear H1)
          | (go_at_call 8; refine (H2.out _ (E.below (B2.out))).mono ?_; rintro e w3 ⟨rfl, b3⟩; have B3 := Lib.hid (B2.out.trans (b3.mono B2.out.size)); clear H2)
          | (go_at_call 8; refine (H3.out _ (E.below (B3.out))).mono ?_; rintro e w4 ⟨rfl, b4⟩; have B4 := Lib.hid (B3.out.trans (b4.mono B3.out.size)); clear H3))
      all_goals (go_ret; exact ⟨by first | rfl | (simp; done) | (simp; omega), B4.out⟩)

set_option maxRecDepth 100000 in
theorem lifted (os : Os) (started : os.Started) (H : Type) (enc : TypeId × Value → H) :
    ReturnsInHanded {} Try.checked os 5 .any (Rows.routeNoSpec.pre6 enc Try.prog Try.f5 Rows.routeNoRow.domain false) (Rows.routeNoSpec.post enc Try.prog Try.f5 false true false false) := by
  refine returnsInHanded_of_change (C := Try.checked) ownKnobs started (by kernel_rfl) Try.func5
    (ChangeSpec.witness6 (enc := enc) (C := Try.checked) false ⟨#[], #[.string ⟨#[]⟩], []⟩ 8 (by kernel_rfl) (by kernel_rfl) (by kernel_rfl) (by kernel_rfl)) ?_
  intro W base args ds gs before hval0 hW _ _
  have E : Env W := trivial
  have hval : ∀ (j : Nat) t v, Try.f5.params[j]? = some t → args[j]? = some v → Value.okWide Try.prog W .any base t v := hval0
  have hW' := hW
  obtain ⟨p, q, hA0, hV, rfl, _, _⟩ := hW
  have hA : DataW.TrodAll enc Try.prog W 0 (fun _ => true) true Try.f5.params.toList args.toList ds p := hA0
  rw [Try.params5] at hA hval
  obtain ⟨v0, vs0, d0, ds0, p0, q0, hargs, rfl, rfl, r0, t0⟩ := trodAll_cons hA
  obtain ⟨rfl, rfl, rfl⟩ := trodAll_nil t0
  obtain rfl : args = #[v0] := by cases args; simp_all
  obtain ⟨rfl, rfl⟩ := trodVars_none hV
  obtain ⟨x0, rfl, rfl, rfl, w0⟩ := open_string Try.underlying9 (hval 0 9 v0 rfl rfl) r0
  obtain ⟨s0, rfl⟩ : ∃ l : List UInt8, x0 = ⟨l.toArray⟩ := ⟨x0.data.toList, by simp⟩
  clear hA0 hval0
  simp only [List.append_nil] at hW'
  refine (walk s0 (by have := w0; rw [size_mk] at this; unfold maxLen at this; exact this) W  E).mono fun e W' ⟨he, hb⟩ => ?_
  subst he
  exact ⟨_, rfl, told hW' (fun _ _ _ => trodAll_cons_mk (shut_bool Try.underlying4 _) trodAll_mk0) (trodAll_cons_mk (shut_string Try.underlying9 w0) trodAll_mk0) (fun _ => rfl) hb⟩

theorem over : Rows.routeNoRow.holds Try.pinned (OpenSpec.ofChange Rows.routeNoSpec) :=
  OpenClaim.holds_of_wide 5 Try.f5 rfl rfl rfl rfl rfl rfl rfl ⟨rfl, rfl, rfl, rfl, rfl⟩ rfl rfl rfl rfl rfl (by kernel_rfl) Try.func5 (by kernel_rfl)
    (of_decide_eq_true (by kernel_rfl)) (by unfold Func.isWrapper; first | (rw [if_pos (by decide +kernel)]; kernel_rfl) | (rw [if_neg (by decide +kernel)]; exact ⟨rfl, rfl⟩))
    (fun os started H enc _ => lifted os started H enc)

theorem proved : Rows.RouteNoSaid :=
  over
#print axioms proved
end Go.Proofs.Ythgdnomedckiaaa.routeNo
