/- Proved: for every text the law VerbUpper of layer 7 answers true. Conditions: none beyond the row's own (the library's variables start as the program's text lays them: the card ties them). -/
import Derived.Test.YtfcbcffkgiajmaaVerbAwake
import Derived.BigQuiet
import Derived.SizedLaws
import Derived.Deep.QuietTactic

namespace Go.Proofs.Ytfcbcffkgiajmaa.verbUpper
open Go.Proofs.Ytfcbcffkgiajmaa Go.Proofs.Ytfcbcffkgiajmaa.Vb Go.Proofs.Ytfcbcffkgiajmaa
open Go.ChangeShapes Go.WideShapes Go.ChangeAt Go.RowKit Go.Sort Go.ChangeMaps

set_option linter.unusedVariables false in
set_option maxHeartbeats 8000000 in
set_option maxRecDepth 100000 in
theorem walk (s0 : List UInt8) (z0 : s0.length ≤ 140737488351232) (w : World)  (E : Env w) :
    Calls Try.prog 5 #[.string ⟨s0.toArray⟩] w fun e w' => e = .returned (.bool true) ∧ Below w.heap.size w w' := by
  have HF := Lib.hid (fun W (h : s0.length ≤ 200) => find_any s0 (by omega) W)
  have HU := Lib.hid (fun W (h : s0.length ≤ 200) => upper_any s0 (by omega) W)
  by_cases hlen : 200 < s0.length
  · have hl' : (200 : Int) < (s0.length : Int) := by omega
    go_enter Try.func5, Try.ntmps5
    go_wp2_with (go_at_call 8; refine (awake_any _).mono ?_; rintro e w1 ⟨rfl, b1⟩; have B1 := Lib.hid b1; clear b1)
    all_goals (go_ret; exact ⟨by first | rfl | simp, B1.out⟩)
  have hl' : ¬ (200 : Int) < (s0.length : Int) := by omega
  have hle : s0.length ≤ 200 := by omega
  have hul := upper_length s0
  have HF2 := Lib.hid (fun W => find_any (upper s0) (by rw [upper_length]; omega) W)
  have HU2 := Lib.hid (fun W => upper_any (upper s0) (by rw [upper_length]; omega) W)
  rw [found_upper] at HF2
  rw [upper_upper] at HU2
  have hnm : (found s0).2 = true → (found s0).1.name = upper s0 := fun h => has_name h
  have hat : ∀ k (h : k < s0.length) (h' : k < (upper s0).length), (upper s0)[k] = upB s0[k] := fun k h h' => by simp [upper]
  have HAT := Lib.hid hat
  generalize found s0 = F at HF HF2 hnm
  obtain ⟨⟨vn, vk, va, vp⟩, is⟩ := F
  simp only at HF HF2 hnm
  have HNM := Lib.hid hnm
  clear hnm hat hlen
  generalize upper s0 = u at *
  have e1 : (is == is) = true := by simp
  have e2 : (u != u) = false := by simp
  have eqs : ∀ W, (Op.equalIn 10000 24 (.agg #[.string ⟨vn.toArray⟩, .int .i64 vk, .int .i64 va, .bool vp]) (.agg #[.string ⟨vn.toArray⟩, .int .i64 vk, .int .i64 va, .bool vp])).run Try.prog W = .ok true W := fun W => by
    have := equal_verbs ⟨vn, vk, va, vp⟩ ⟨vn, vk, va, vp⟩ W
    rw [decide_eq_true rfl] at this
    exact this
  have e3 : ((u.length : Int) != (s0.length : Int)) = false := by simp [hul]
  go_enter Try.func5, Try.ntmps5
  go_wp2_with (first
    | (go_at_call 8; refine (awake_any _).mono ?_; rintro e w1 ⟨rfl, b1⟩; have B1 := Lib.hid b1; clear b1)
    | (go_at_call 13; refine (HU.out _ hle).mono ?_; rintro e w2 ⟨rfl, b2⟩; have B2 := Lib.hid (B1.out.trans (b2.mono B1.out.size)); clear b2 B1 HU)
    | (go_at_call 13; refine (HU2.out _).mono ?_; rintro e w3 ⟨rfl, b3⟩; have B3 := Lib.hid (B2.out.trans (b3.mono B2.out.size)); clear b3 B2))
  go_loopw [5] (fun x5 wr => ∃ (k : Nat), x5 = .int .i64 (k : Int) ∧ k ≤ u.length ∧ Hid (Below w3.heap.size w3 wr)) (fun i _ => u.length - (intOf i).toNat)
  case atStart => exact ⟨0, rfl, Nat.zero_le _, Lib.hid (Below.refl _ _)⟩
  case round =>
    clear eqs e1 e2 e3
    obtain ⟨k, rfl, hk, HB⟩ := hrel
    by_cases hlt : k < u.length
    · have hls : k < s0.length := by omega
      have hki : (k : Int) < (u.length : Int) := by omega
      have hsz : k < (ByteArray.mk u.toArray).size := by simpa [ByteArray.size] using hlt
      have hsz' : k < (ByteArray.mk s0.toArray).size := by simpa [ByteArray.size] using hls
      have hct : (ByteArray.mk u.toArray)[k]'hsz = upB s0[k] := HAT.out k hls hlt
      obtain ⟨c, hc⟩ : ∃ c : UInt8, (ByteArray.mk s0.toArray)[k]'hsz' = c := ⟨_, rfl⟩
      have hcs : s0[k] = c := hc
      rw [hcs] at hct
      clear hcs
      by_cases h1 : 97 ≤ c.toNat ∧ c.toNat ≤ 122
      · have e := up_value h1.1 h1.2
        have hdt : (upB c).toNat = c.toNat - 32 := by omega
        generalize upB c = t at hct hdt e
        have d1 : decide ((97 : Int) ≤ (t.toNat : Int)) = false := decide_eq_false (by omega)
        have d2 : ((t.toNat : Int) != (c.toNat : Int)) = true := by simp; omega
        have d3 : IntKind.u8.wrap ((t.toNat : Int) + 32) = (c.toNat : Int) := by rw [show (t.toNat : Int) + 32 = (c.toNat : Int) from by omega]; unfold IntKind.wrap; simp [IntKind.bits, IntKind.signed]; omega
        have d4 : ((c.toNat : Int) != (c.toNat : Int)) = false := by simp
        have d5 : ¬ (97 : Int) ≤ (t.toNat : Int) := by omega
        clear e hdt
        go_wp2_with fail
        go_quiet (fail)
        go_wp2_with fail
        go_roundw
        case rel => exact ⟨k + 1, by go_num, by omega, Lib.hid (HB.out.trans ⟨rfl, rfl, rfl, Nat.le_refl _, fun _ _ => rfl⟩)⟩
        case measure => simp [intOf]; omega
      · rw [up_same h1] at hct
        by_cases h2 : 97 ≤ c.toNat
        · have d1 : decide ((97 : Int) ≤ (c.toNat : Int)) = true := decide_eq_true (by omega)
          have d2 : decide ((c.toNat : Int) ≤ 122) = false := decide_eq_false (by omega)
          have d3 : ((c.toNat : Int) != (c.toNat : Int)) = false := by simp
          go_wp2_with fail
          go_quiet (fail)
          go_wp2_with fail
          go_roundw
          case rel => exact ⟨k + 1, by go_num, by omega, Lib.hid (HB.out.trans ⟨rfl, rfl, rfl, Nat.le_refl _, fun _ _ => rfl⟩)⟩
          case measure => simp [intOf]; omega
        · have d1 : decide ((97 : Int) ≤ (c.toNat : Int)) = false := decide_eq_false (by omega)
          have d3 : ((c.toNat : Int) != (c.toNat : Int)) = false := by simp
          go_wp2_with fail
          go_quiet (fail)
          go_wp2_with fail
          go_roundw
          case rel => exact ⟨k + 1, by go_num, by omega, Lib.hid (HB.out.trans ⟨rfl, rfl, rfl, Nat.le_refl _, fun _ _ => rfl⟩)⟩
          case measure => simp [intOf]; omega
    · obtain rfl : k = u.length := by omega
      have BW := Lib.hid (B3.out.trans (HB.out.mono B3.out.size))
      clear HB B3
      cases is with
      | true =>
        obtain rfl : vn = u := HNM.out rfl
        have e4 : (vn == vn) = true := by simp
        go_wp2_with (first
          | (go_at_call 9; refine (HF.out _ hle).mono ?_; rintro e w6 ⟨rfl, b6⟩; have B6 := Lib.hid ((BW.out.trans (b6.mono BW.out.size)).alloc (BW.out.trans (b6.mono BW.out.size)).size (.cells #[.string ⟨vn.toArray⟩, .int .i64 vk, .int .i64 va, .bool vp] 24)); have Q6 := Lib.hid (IsRow.made w6 24 #[.string ⟨vn.toArray⟩, .int .i64 vk, .int .i64 va, .bool vp]); clear b6 BW HF)
          | (go_at_call 9; refine (HF2.out _).mono ?_; rintro e w7 ⟨rfl, b7⟩; have B7 := Lib.hid ((B6.out.trans (b7.mono B6.out.size)).alloc (B6.out.trans (b7.mono B6.out.size)).size (.cells #[.string ⟨vn.toArray⟩, .int .i64 vk, .int .i64 va, .bool vp] 24)); have R := Q6.out.call b7; have klt := R.lt; have q0 : w7.cell? ⟨w6.heap.size, 0, none⟩ = some (.string ⟨vn.toArray⟩) := R.cell 0; have q1 : w7.cell? ⟨w6.heap.size, 1, none⟩ = some (.int .i64 vk) := R.cell 1; have q2 : w7.cell? ⟨w6.heap.size, 2, none⟩ = some (.int .i64 va) := R.cell 2; have q3 : w7.cell? ⟨w6.heap.size, 3, none⟩ = some (.bool vp) := R.cell 3; clear b7 R B6 Q6))
        go_ret
        exact ⟨by first | rfl | simp, B7.out⟩
      | false =>
        go_wp2_with (first
          | (go_at_call 9; refine (HF.out _ hle).mono ?_; rintro e w6 ⟨rfl, b6⟩; have B6 := Lib.hid ((BW.out.trans (b6.mono BW.out.size)).alloc (BW.out.trans (b6.mono BW.out.size)).size (.cells #[.string ⟨vn.toArray⟩, .int .i64 vk, .int .i64 va, .bool vp] 24)); have Q6 := Lib.hid (IsRow.made w6 24 #[.string ⟨vn.toArray⟩, .int .i64 vk, .int .i64 va, .bool vp]); clear b6 BW HF)
          | (go_at_call 9; refine (HF2.out _).mono ?_; rintro e w7 ⟨rfl, b7⟩; have B7 := Lib.hid ((B6.out.trans (b7.mono B6.out.size)).alloc (B6.out.trans (b7.mono B6.out.size)).size (.cells #[.string ⟨vn.toArray⟩, .int .i64 vk, .int .i64 va, .bool vp] 24)); have R := Q6.out.call b7; have klt := R.lt; have q0 : w7.cell? ⟨w6.heap.size, 0, none⟩ = some (.string ⟨vn.toArray⟩) := R.cell 0; have q1 : w7.cell? ⟨w6.heap.size, 1, none⟩ = some (.int .i64 vk) := R.cell 1; have q2 : w7.cell? ⟨w6.heap.size, 2, none⟩ = some (.int .i64 va) := R.cell 2; have q3 : w7.cell? ⟨w6.heap.size, 3, none⟩ = some (.bool vp) := R.cell 3; clear b7 R B6 Q6))
        go_ret
        exact ⟨by first | rfl | simp, B7.out⟩

set_option maxRecDepth 100000 in
theorem lifted (os : Os) (started : os.Started) (H : Type) (enc : TypeId × Value → H) :
    ReturnsInHanded {} Try.checked os 5 .any (Rows.verbUpperSpec.pre6 enc Try.prog Try.f5 Rows.verbUpperRow.domain false) (Rows.verbUpperSpec.post enc Try.prog Try.f5 false true false false) := by
  refine returnsInHanded_of_change_sized (C := Try.checked) ownKnobs started (by kernel_rfl) Try.func5
    (ChangeSpec.witness6 (enc := enc) (C := Try.checked) false ⟨#[], #[.string ⟨#[]⟩], []⟩ 8 (by kernel_rfl) (by kernel_rfl) (by kernel_rfl) (by kernel_rfl)) ?_
  intro W base args ds gs before hval0 hW _ hsz _
  have E : Env W := trivial
  have hval : ∀ (j : Nat) t v, Try.f5.params[j]? = some t → args[j]? = some v → Value.okWide Try.prog W .any base t v := hval0
  have hW' := hW
  obtain ⟨p, q, hA0, hV, rfl, _, _⟩ := hW
  have hA : DataW.TrodAll enc Try.prog W 0 (fun _ => true) true Try.f5.params.toList args.toList ds p := hA0
  rw [Try.params5] at hA hval hsz
  obtain ⟨v0, vs0, d0, ds0, p0, q0, hargs, rfl, rfl, r0, t0⟩ := trodAll_cons hA
  obtain ⟨rfl, rfl, rfl⟩ := trodAll_nil t0
  obtain rfl : args = #[v0] := by cases args; simp_all
  obtain ⟨rfl, rfl⟩ := trodVars_none hV
  obtain ⟨x0, rfl, rfl, rfl, w0⟩ := open_string Try.underlying9 (hval 0 9 v0 rfl rfl) r0
  obtain ⟨s0, rfl⟩ : ∃ l : List UInt8, x0 = ⟨l.toArray⟩ := ⟨x0.data.toList, by simp⟩
  clear hA0 hval0
  simp only [List.append_nil] at hW'
  refine (walk s0 (by have hs := sized_string hsz (j := 0) (t := 9) rfl rfl; have e := reachBytes_lt; simp at hs; unfold reachBytes at hs; omega) W  E).mono fun e W' ⟨he, hb⟩ => ?_
  subst he
  exact ⟨_, rfl, told hW' (fun _ _ _ => trodAll_cons_mk (shut_bool Try.underlying4 _) trodAll_mk0) (trodAll_cons_mk (shut_string Try.underlying9 w0) trodAll_mk0) (fun _ => rfl) hb⟩

theorem over : Rows.verbUpperRow.holds Try.pinned (OpenSpec.ofChange Rows.verbUpperSpec) :=
  OpenClaim.holds_of_wide 5 Try.f5 rfl rfl rfl rfl rfl rfl rfl ⟨rfl, rfl, rfl, rfl, rfl⟩ rfl rfl rfl rfl rfl (by kernel_rfl) Try.func5 (by kernel_rfl)
    (of_decide_eq_true (by kernel_rfl)) (by unfold Func.isWrapper; first | (rw [if_pos (by decide +kernel)]; kernel_rfl) | (rw [if_neg (by decide +kernel)]; exact ⟨rfl, rfl⟩))
    (fun os started H enc _ => lifted os started H enc)

theorem proved : Rows.VerbUpperSaid :=
  over
#print axioms proved
end Go.Proofs.Ytfcbcffkgiajmaa.verbUpper
