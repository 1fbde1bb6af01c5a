/- Proved: for every number the law VerbKinds of layer 7 answers true. Conditions: none beyond the row's own (the library's variables start as the program's text lays them: the card ties them). -/
import Derived.Test.YtfcbcffkgiajmaaVerbAwake
import Derived.BigQuiet

namespace Go.Proofs.Ytfcbcffkgiajmaa.verbKinds
open Go.Proofs.Ytfcbcffkgiajmaa Go.Proofs.Ytfcbcffkgiajmaa.Vb Go.Proofs.Ytfcbcffkgiajmaa
open Go.ChangeShapes Go.WideShapes Go.ChangeAt Go.RowKit Go.Sort Go.ChangeMaps

set_option linter.unusedVariables false in
set_option maxHeartbeats 2000000 in
set_option maxRecDepth 100000 in
theorem walk (n0 : Int) (l0 : -9223372036854775808 ≤ n0) (h0 : n0 ≤ 9223372036854775807) (w : World)  (E : Env w) :
    Calls Try.prog 7 #[.int .i64 n0] w fun e w' => e = .returned (.bool true) ∧ Below w.heap.size w w' := by
  have HA := Lib.hid (fun W => all_any W)
  by_cases hneg : n0 < 0
  · go_enter Try.func7, Try.ntmps7
    go_wp2_with (first | (go_at_call 8; refine (awake_any _).mono ?_; rintro e w1 ⟨rfl, b1⟩; have B1 := Lib.hid b1; clear b1) | (go_at_call 11; refine (HA.out _).mono ?_; rintro e w2 ⟨p2, c2, rfl, h2, b2⟩; have B2 := Lib.hid (below_then B1.out b2); have V2 := Lib.hid h2; clear b2 h2))
    all_goals (go_ret; exact ⟨by first | rfl | simp, B2.out⟩)
  by_cases hover : 36 ≤ n0
  · go_enter Try.func7, Try.ntmps7
    go_wp2_with (first | (go_at_call 8; refine (awake_any _).mono ?_; rintro e w1 ⟨rfl, b1⟩; have B1 := Lib.hid b1; clear b1) | (go_at_call 11; refine (HA.out _).mono ?_; rintro e w2 ⟨p2, c2, rfl, h2, b2⟩; have B2 := Lib.hid (below_then B1.out b2); have V2 := Lib.hid h2; clear b2 h2))
    all_goals (go_ret; exact ⟨by first | rfl | simp, B2.out⟩)
  obtain ⟨k, rfl⟩ : ∃ k : Nat, n0 = (k : Int) := ⟨n0.toNat, by omega⟩
  have hk : k < verbs.length := by rw [verbs_len]; omega
  have hki : (k : Int) < 36 := by omega
  obtain ⟨vn, vk, va, vp, hv⟩ : ∃ vn vk va vp, verbs[k] = ⟨vn, vk, va, vp⟩ := ⟨_, _, _, _, rfl⟩
  have HC := kinds_cases verbs[k] (List.getElem_mem hk)
  have HV := Lib.hid hv
  rw [hv] at HC
  simp only at HC
  clear hv
  rcases HC with ⟨rfl, rfl, hp⟩ | rfl | rfl | ⟨rfl, rfl, hp⟩ | ⟨rfl, rfl, rfl⟩ | ⟨rfl, rfl, rfl⟩ | ⟨rfl, rfl, rfl⟩ | ⟨rfl, rfl, rfl⟩ | ⟨rfl, rfl, rfl⟩ | ⟨rfl, rfl, rfl⟩ | ⟨rfl, rfl, rfl⟩
  all_goals (
    go_enter Try.func7, Try.ntmps7
    go_wp2_with (first | (go_at_call 8; refine (awake_any _).mono ?_; rintro e w1 ⟨rfl, b1⟩; have B1 := Lib.hid b1; clear b1) | (go_at_call 11; refine (HA.out _).mono ?_; rintro e w2 ⟨p2, c2, rfl, h2, b2⟩; have B2 := Lib.hid (below_then B1.out b2); obtain ⟨b, o, rfl, hb, hcell⟩ := verbs_open h2; obtain ⟨q0, q1, q2, q3⟩ := hcell k hk; rw [HV.out] at q0 q1 q2 q3; simp only at q0 q1 q2 q3; clear b2 h2 hcell))
    all_goals (go_ret; exact ⟨by first | rfl | simp, B2.out.alloc B2.out.size _⟩))

set_option maxRecDepth 100000 in
theorem lifted (os : Os) (started : os.Started) (H : Type) (enc : TypeId × Value → H) :
    ReturnsInHanded {} Try.checked os 7 .any (Rows.verbKindsSpec.pre6 enc Try.prog Try.f7 Rows.verbKindsRow.domain false) (Rows.verbKindsSpec.post enc Try.prog Try.f7 false true false false) := by
  refine returnsInHanded_of_change (C := Try.checked) ownKnobs started (by kernel_rfl) Try.func7
    (ChangeSpec.witness6 (enc := enc) (C := Try.checked) false ⟨#[], #[.int .i64 0], []⟩ 8 (by kernel_rfl) (by kernel_rfl) (by kernel_rfl) (by kernel_rfl)) ?_
  intro W base args ds gs before hval0 hW _ _
  have E : Env W := trivial
  have hval : ∀ (j : Nat) t v, Try.f7.params[j]? = some t → args[j]? = some v → Value.okWide Try.prog W .any base t v := hval0
  have hW' := hW
  obtain ⟨p, q, hA0, hV, rfl, _, _⟩ := hW
  have hA : DataW.TrodAll enc Try.prog W 0 (fun _ => true) true Try.f7.params.toList args.toList ds p := hA0
  rw [Try.params7] at hA hval
  obtain ⟨v0, vs0, d0, ds0, p0, q0, hargs, rfl, rfl, r0, t0⟩ := trodAll_cons hA
  obtain ⟨rfl, rfl, rfl⟩ := trodAll_nil t0
  obtain rfl : args = #[v0] := by cases args; simp_all
  obtain ⟨rfl, rfl⟩ := trodVars_none hV
  obtain ⟨n0, rfl, rfl, rfl, w0⟩ := open_int Try.underlying3 (hval 0 3 v0 rfl rfl) r0
  clear hA0 hval0
  simp only [List.append_nil] at hW'
  refine (walk n0 (int_wf w0).1 (int_wf w0).2 W  E).mono fun e W' ⟨he, hb⟩ => ?_
  subst he
  exact ⟨_, rfl, told hW' (fun _ _ _ => trodAll_cons_mk (shut_bool Try.underlying4 _) trodAll_mk0) (trodAll_cons_mk (shut_int Try.underlying3 w0) trodAll_mk0) (fun _ => rfl) hb⟩

theorem over : Rows.verbKindsRow.holds Try.pinned (OpenSpec.ofChange Rows.verbKindsSpec) :=
  OpenClaim.holds_of_wide 7 Try.f7 rfl rfl rfl rfl rfl rfl rfl ⟨rfl, rfl, rfl, rfl, rfl⟩ rfl rfl rfl rfl rfl (by kernel_rfl) Try.func7 (by kernel_rfl)
    (of_decide_eq_true (by kernel_rfl)) (by unfold Func.isWrapper; first | (rw [if_pos (by decide +kernel)]; kernel_rfl) | (rw [if_neg (by decide +kernel)]; exact ⟨rfl, rfl⟩))
    (fun os started H enc _ => lifted os started H enc)

theorem proved : Rows.VerbKindsSaid :=
  over
#print axioms proved
end Go.Proofs.Ytfcbcffkgiajmaa.verbKinds
