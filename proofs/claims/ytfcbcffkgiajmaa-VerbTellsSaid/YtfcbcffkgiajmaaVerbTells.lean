/- Proved: for every text the law VerbTells of layer 7 answers true. Conditions: none beyond the row's own (the library's variables start as the program's text lays them: the card ties them). -/
import Derived.Test.YtfcbcffkgiajmaaVerbAwake
import Derived.BigQuiet
import Derived.SizedLaws
import Derived.Deep.QuietTactic

namespace Go.Proofs.Ytfcbcffkgiajmaa.verbTells
open Go.Proofs.Ytfcbcffkgiajmaa Go.Proofs.Ytfcbcffkgiajmaa.Vb Go.Proofs.Ytfcbcffkgiajmaa
open Go.ChangeShapes Go.WideShapes Go.ChangeAt Go.RowKit Go.Sort Go.ChangeMaps

set_option linter.unusedVariables false in
set_option maxHeartbeats 8000000 in
set_option maxRecDepth 100000 in
theorem walk (s0 : List UInt8) (z0 : s0.length ≤ 140737488351232) (w : World)  (E : Env w) :
    Calls Try.prog 3 #[.string ⟨s0.toArray⟩] w fun e w' => e = .returned (.bool true) ∧ Below w.heap.size w w' := by
  have HF := Lib.hid (fun W (h : s0.length ≤ 200) => find_any s0 (by omega) W)
  have HF2 := Lib.hid (fun W (h : s0.length ≤ 200) => rfind_any s0 (by omega) W)
  have HA := Lib.hid (fun W => all_any W)
  have HA2 := Lib.hid (fun W => rall_any W)
  have HU := Lib.hid (fun W (h : s0.length ≤ 200) => upper_any s0 (by omega) W)
  have HU2 := Lib.hid (fun W (h : s0.length ≤ 200) => rupper_any s0 (by omega) W)
  by_cases hlen : 200 < s0.length
  · have hl' : (200 : Int) < (s0.length : Int) := by omega
    go_enter Try.func3, Try.ntmps3
    go_wp2_with (go_at_call 8; refine (awake_any _).mono ?_; rintro e w1 ⟨rfl, b1⟩; have B1 := Lib.hid b1; clear b1)
    all_goals (go_ret; exact ⟨by first | rfl | simp, B1.out⟩)
  have hl' : ¬ (200 : Int) < (s0.length : Int) := by omega
  have hle : s0.length ≤ 200 := by omega
  generalize found s0 = F at HF HF2
  obtain ⟨⟨vn, vk, va, vp⟩, is⟩ := F
  simp only at HF HF2
  generalize upper s0 = u at HU HU2
  have eqs : ∀ W, (Op.equalIn 10000 24 (.agg #[.string ⟨vn.toArray⟩, .int .i64 vk, .int .i64 va, .bool vp]) (.agg #[.string ⟨vn.toArray⟩, .int .i64 vk, .int .i64 va, .bool vp])).run Try.prog W = .ok true W := fun W => by
    have := equal_verbs ⟨vn, vk, va, vp⟩ ⟨vn, vk, va, vp⟩ W
    rw [decide_eq_true rfl] at this
    exact this
  have e1 : (is != is) = false := by simp
  have e2 : (u != u) = false := by simp
  clear hlen
  go_enter Try.func3, Try.ntmps3
  go_wp2_with (first
    | (go_at_call 8; refine (awake_any _).mono ?_; rintro e w1 ⟨rfl, b1⟩; have B1 := Lib.hid b1; clear b1)
    | (go_at_call 9; refine (HF.out _ hle).mono ?_; rintro e w2 ⟨rfl, b2⟩; have B2 := Lib.hid ((below_then B1.out b2).alloc (below_then B1.out b2).size (.cells #[.string ⟨vn.toArray⟩, .int .i64 vk, .int .i64 va, .bool vp] 24)); have Q2 := Lib.hid (IsRow.made w2 24 #[.string ⟨vn.toArray⟩, .int .i64 vk, .int .i64 va, .bool vp]); clear b2 B1)
    | (go_at_call 10; refine (HF2.out _ hle).mono ?_; rintro e w3 ⟨rfl, b3⟩; have B3 := Lib.hid ((B2.out.trans (b3.mono B2.out.size)).alloc (B2.out.trans (b3.mono B2.out.size)).size (.cells #[.string ⟨vn.toArray⟩, .int .i64 vk, .int .i64 va, .bool vp] 24)); have Q3 := Lib.hid ((Q2.out.call b3).alloc (.cells #[.string ⟨vn.toArray⟩, .int .i64 vk, .int .i64 va, .bool vp] 24)); have P3 := Lib.hid (IsRow.made w3 24 #[.string ⟨vn.toArray⟩, .int .i64 vk, .int .i64 va, .bool vp]); clear b3 B2 Q2)
    | (go_at_call 11; refine (HA.out _).mono ?_; rintro e w4 ⟨p4, c4, rfl, h4, b4⟩; have B4 := Lib.hid (B3.out.trans (b4.mono B3.out.size)); have V4 := Lib.hid h4; have Q4 := Lib.hid (Q3.out.call b4); have P4 := Lib.hid (P3.out.call b4); clear b4 h4 B3 Q3 P3)
    | (go_at_call 12; refine (HA2.out _).mono ?_; rintro e w5 ⟨p5, c5, rfl, h5, b5⟩; have B5 := Lib.hid (B4.out.trans (b5.mono B4.out.size)); have V5 := Lib.hid (V4.out.call b5); have U5 := Lib.hid h5; have R := Q4.out.call b5; have q0 : w5.cell? ⟨w2.heap.size, 0, none⟩ = some (.string ⟨vn.toArray⟩) := R.cell 0; have q1 : w5.cell? ⟨w2.heap.size, 1, none⟩ = some (.int .i64 vk) := R.cell 1; have q2 : w5.cell? ⟨w2.heap.size, 2, none⟩ = some (.int .i64 va) := R.cell 2; have q3 : w5.cell? ⟨w2.heap.size, 3, none⟩ = some (.bool vp) := R.cell 3; have R' := P4.out.call b5; have p0 : w5.cell? ⟨w3.heap.size, 0, none⟩ = some (.string ⟨vn.toArray⟩) := R'.cell 0; have p1 : w5.cell? ⟨w3.heap.size, 1, none⟩ = some (.int .i64 vk) := R'.cell 1; have p2 : w5.cell? ⟨w3.heap.size, 2, none⟩ = some (.int .i64 va) := R'.cell 2; have p3 : w5.cell? ⟨w3.heap.size, 3, none⟩ = some (.bool vp) := R'.cell 3; clear b5 h5 B4 Q4 P4 V4 R R')
    | (go_at_call 13; refine (HU.out _ hle).mono ?_; rintro e w6 ⟨rfl, b6⟩; have B6 := Lib.hid (B5.out.trans (b6.mono B5.out.size)); have V6 := Lib.hid (V5.out.call b6); have U6 := Lib.hid (U5.out.call b6); clear b6 B5 V5 U5 q0 q1 q2 q3 p0 p1 p2 p3)
    | (go_at_call 14; refine (HU2.out _ hle).mono ?_; rintro e w7 ⟨rfl, b7⟩; have B7 := Lib.hid (B6.out.trans (b7.mono B6.out.size)); have V7 := Lib.hid (V6.out.call b7); have U7 := Lib.hid (U6.out.call b7); clear b7 B6 V6 U6))
  obtain ⟨b, o, rfl, hb, hcell⟩ := verbs_open V7.out
  obtain ⟨b', o', rfl, hb', hcell'⟩ := verbs_open U7.out
  have HC := Lib.hid hcell
  have HC' := Lib.hid hcell'
  clear hcell hcell' V7 U7 eqs e1 e2
  go_loopw [10] (fun x10 wr => ∃ (k : Nat), x10 = .int .i64 (k : Int) ∧ k ≤ 36 ∧ Hid (Below w7.heap.size w7 wr)) (fun i _ => 36 - (intOf i).toNat)
  case atStart => exact ⟨0, rfl, Nat.zero_le _, Lib.hid (Below.refl _ _)⟩
  case round =>
    obtain ⟨k, rfl, hk, HB⟩ := hrel
    by_cases hlt : k < 36
    · have hki : (k : Int) < 36 := by omega
      have hkv : k < verbs.length := by rw [verbs_len]; exact hlt
      obtain ⟨q0, q1, q2, q3⟩ := HC.out k hkv
      obtain ⟨p0, p1, p2, p3⟩ := HC'.out k hkv
      rw [← HB.out.cell (p := ⟨b, _, none⟩) hb] at q0 q1 q2 q3
      rw [← HB.out.cell (p := ⟨b', _, none⟩) hb'] at p0 p1 p2 p3
      generalize verbs[k] = v at *
      obtain ⟨yn, yk, ya, yp⟩ := v
      simp only at q0 q1 q2 q3 p0 p1 p2 p3
      have eqs : ∀ W, (Op.equalIn 10000 24 (.agg #[.string ⟨yn.toArray⟩, .int .i64 yk, .int .i64 ya, .bool yp]) (.agg #[.string ⟨yn.toArray⟩, .int .i64 yk, .int .i64 ya, .bool yp])).run Try.prog W = .ok true W := fun W => by
        have := equal_verbs ⟨yn, yk, ya, yp⟩ ⟨yn, yk, ya, yp⟩ W
        rw [decide_eq_true rfl] at this
        exact this
      go_wp2_with fail
      go_quiet (fail)
      go_wp2_with fail
      go_roundw
      case rel => exact ⟨k + 1, by go_num, by omega, Lib.hid (HB.out.trans ⟨rfl, rfl, rfl, Nat.le_refl _, fun _ _ => rfl⟩)⟩
      case measure => simp [intOf]; omega
    · obtain rfl : k = 36 := by omega
      go_wp2_with fail
      go_ret
      exact ⟨by first | rfl | simp, B7.out.trans (HB.out.mono B7.out.size)⟩

set_option maxRecDepth 100000 in
theorem lifted (os : Os) (started : os.Started) (H : Type) (enc : TypeId × Value → H) :
    ReturnsInHanded {} Try.checked os 3 .any (Rows.verbTellsSpec.pre6 enc Try.prog Try.f3 Rows.verbTellsRow.domain false) (Rows.verbTellsSpec.post enc Try.prog Try.f3 false true false false) := by
  refine returnsInHanded_of_change_sized (C := Try.checked) ownKnobs started (by kernel_rfl) Try.func3
    (ChangeSpec.witness6 (enc := enc) (C := Try.checked) false ⟨#[], #[.string ⟨#[]⟩], []⟩ 8 (by kernel_rfl) (by kernel_rfl) (by kernel_rfl) (by kernel_rfl)) ?_
  intro W base args ds gs before hval0 hW _ hsz _
  have E : Env W := trivial
  have hval : ∀ (j : Nat) t v, Try.f3.params[j]? = some t → args[j]? = some v → Value.okWide Try.prog W .any base t v := hval0
  have hW' := hW
  obtain ⟨p, q, hA0, hV, rfl, _, _⟩ := hW
  have hA : DataW.TrodAll enc Try.prog W 0 (fun _ => true) true Try.f3.params.toList args.toList ds p := hA0
  rw [Try.params3] at hA hval hsz
  obtain ⟨v0, vs0, d0, ds0, p0, q0, hargs, rfl, rfl, r0, t0⟩ := trodAll_cons hA
  obtain ⟨rfl, rfl, rfl⟩ := trodAll_nil t0
  obtain rfl : args = #[v0] := by cases args; simp_all
  obtain ⟨rfl, rfl⟩ := trodVars_none hV
  obtain ⟨x0, rfl, rfl, rfl, w0⟩ := open_string Try.underlying9 (hval 0 9 v0 rfl rfl) r0
  obtain ⟨s0, rfl⟩ : ∃ l : List UInt8, x0 = ⟨l.toArray⟩ := ⟨x0.data.toList, by simp⟩
  clear hA0 hval0
  simp only [List.append_nil] at hW'
  refine (walk s0 (by have hs := sized_string hsz (j := 0) (t := 9) rfl rfl; have e := reachBytes_lt; simp at hs; unfold reachBytes at hs; omega) W  E).mono fun e W' ⟨he, hb⟩ => ?_
  subst he
  exact ⟨_, rfl, told hW' (fun _ _ _ => trodAll_cons_mk (shut_bool Try.underlying4 _) trodAll_mk0) (trodAll_cons_mk (shut_string Try.underlying9 w0) trodAll_mk0) (fun _ => rfl) hb⟩

theorem over : Rows.verbTellsRow.holds Try.pinned (OpenSpec.ofChange Rows.verbTellsSpec) :=
  OpenClaim.holds_of_wide 3 Try.f3 rfl rfl rfl rfl rfl rfl rfl ⟨rfl, rfl, rfl, rfl, rfl⟩ rfl rfl rfl rfl rfl (by kernel_rfl) Try.func3 (by kernel_rfl)
    (of_decide_eq_true (by kernel_rfl)) (by unfold Func.isWrapper; first | (rw [if_pos (by decide +kernel)]; kernel_rfl) | (rw [if_neg (by decide +kernel)]; exact ⟨rfl, rfl⟩))
    (fun os started H enc _ => lifted os started H enc)

theorem proved : Rows.VerbTellsSaid :=
  over
#print axioms proved
end Go.Proofs.Ytfcbcffkgiajmaa.verbTells
