/- Proved: for every two numbers the law VerbFinds of layer 7 answers true. Conditions: none beyond the row's own (the library's variables start as the program's text lays them: the card ties them). -/
import Derived.Test.YtfcbcffkgiajmaaVerbAwake
import Derived.BigQuiet
import Derived.Test.YtfcbcffkgiajmaaFreshSet
import Derived.Laws.Runes
import Derived.Deep.QuietTactic

namespace Go.Proofs.Ytfcbcffkgiajmaa.verbFinds
open Go.Proofs.Ytfcbcffkgiajmaa Go.Proofs.Ytfcbcffkgiajmaa.Vb Go.Proofs.Ytfcbcffkgiajmaa
open Go.ChangeShapes Go.WideShapes Go.ChangeAt Go.RowKit Go.Sort Go.ChangeMaps

set_option maxRecDepth 100000 in
theorem rise_each : ∀ i : Fin 35, Op.bytesLess (verbs[i.val]'(by have := i.isLt; rw [verbs_len]; omega)).name (verbs[i.val + 1]'(by have := i.isLt; rw [verbs_len]; omega)).name = true := by decide
theorem rises {j : Nat} (h : j + 1 < verbs.length) : Op.bytesLess (verbs[j]'(by omega)).name (verbs[j + 1]'h).name = true := by
  exact rise_each ⟨j, by rw [verbs_len] at h; omega⟩

set_option linter.unusedVariables false in
set_option maxHeartbeats 8000000 in
set_option maxRecDepth 100000 in
theorem walk (n0 : Int) (l0 : -9223372036854775808 ≤ n0) (h0 : n0 ≤ 9223372036854775807) (n1 : Int) (l1 : -9223372036854775808 ≤ n1) (h1 : n1 ≤ 9223372036854775807) (w : World)  (E : Env w) :
    Calls Try.prog 4 #[.int .i64 n0, .int .i64 n1] w fun e w' => e = .returned (.bool true) ∧ Below w.heap.size w w' := by
  have HA := Lib.hid (fun W => all_any W)
  by_cases hneg : n0 < 0
  · go_enter Try.func4, Try.ntmps4
    go_wp2_with (first | (go_at_call 8; refine (awake_any _).mono ?_; rintro e w1 ⟨rfl, b1⟩; have B1 := Lib.hid b1; clear b1) | (go_at_call 11; refine (HA.out _).mono ?_; rintro e w2 ⟨p2, c2, rfl, h2, b2⟩; have B2 := Lib.hid (below_then B1.out b2); have V2 := Lib.hid h2; clear b2 h2))
    all_goals (go_ret; exact ⟨by first | rfl | simp, B2.out⟩)
  by_cases hover : 36 ≤ n0
  · go_enter Try.func4, Try.ntmps4
    go_wp2_with (first | (go_at_call 8; refine (awake_any _).mono ?_; rintro e w1 ⟨rfl, b1⟩; have B1 := Lib.hid b1; clear b1) | (go_at_call 11; refine (HA.out _).mono ?_; rintro e w2 ⟨p2, c2, rfl, h2, b2⟩; have B2 := Lib.hid (below_then B1.out b2); have V2 := Lib.hid h2; clear b2 h2))
    all_goals (go_ret; exact ⟨by first | rfl | simp, B2.out⟩)
  by_cases hs1 : n1 < 0
  · go_enter Try.func4, Try.ntmps4
    go_wp2_with (first | (go_at_call 8; refine (awake_any _).mono ?_; rintro e w1 ⟨rfl, b1⟩; have B1 := Lib.hid b1; clear b1) | (go_at_call 11; refine (HA.out _).mono ?_; rintro e w2 ⟨p2, c2, rfl, h2, b2⟩; have B2 := Lib.hid (below_then B1.out b2); have V2 := Lib.hid h2; clear b2 h2))
    all_goals (go_ret; exact ⟨by first | rfl | simp, B2.out⟩)
  by_cases hs2 : 31 < n1
  · go_enter Try.func4, Try.ntmps4
    go_wp2_with (first | (go_at_call 8; refine (awake_any _).mono ?_; rintro e w1 ⟨rfl, b1⟩; have B1 := Lib.hid b1; clear b1) | (go_at_call 11; refine (HA.out _).mono ?_; rintro e w2 ⟨p2, c2, rfl, h2, b2⟩; have B2 := Lib.hid (below_then B1.out b2); have V2 := Lib.hid h2; clear b2 h2))
    all_goals (go_ret; exact ⟨by first | rfl | simp, B2.out⟩)
  obtain ⟨k, rfl⟩ : ∃ k : Nat, n0 = (k : Int) := ⟨n0.toNat, by omega⟩
  obtain ⟨sm, rfl⟩ : ∃ k : Nat, n1 = (k : Int) := ⟨n1.toNat, by omega⟩
  have hk : k < verbs.length := by rw [verbs_len]; omega
  have hki : (k : Int) < 36 := by omega
  have hmem := List.getElem_mem hk
  have hlen := len_each verbs[k] hmem
  have HL := Lib.hid (letters_each verbs[k] hmem)
  have HHas := Lib.hid (has_each verbs[k] hmem)
  have HPth := Lib.hid (path_each verbs[k] hmem)
  have HUN := Lib.hid (up_each verbs[k] hmem)
  have HNE := Lib.hid (fun j (hj : j < verbs.length) (h : j ≠ k) => names_ne hj hk h)
  obtain ⟨vn, vk, va, vp, hv⟩ : ∃ vn vk va vp, verbs[k] = ⟨vn, vk, va, vp⟩ := ⟨_, _, _, _, rfl⟩
  rw [hv] at hlen HL HHas HPth HUN
  simp only [hv] at HNE
  simp only at hlen HL HHas HPth HUN
  have HV := Lib.hid hv
  clear hv hmem hneg hover hs1
  have hsm : sm ≤ 31 := by omega
  go_enter Try.func4, Try.ntmps4
  go_wp2_with (first
    | (go_at_call 8; refine (awake_any _).mono ?_; rintro e w1 ⟨rfl, b1⟩; have B1 := Lib.hid b1; clear b1)
    | (go_at_call 11; refine (HA.out _).mono ?_; rintro e w2 ⟨p2, c2, rfl, h2, b2⟩; have B2 := Lib.hid (below_then B1.out b2); obtain ⟨b, o, rfl, hb, hcell⟩ := verbs_open h2; have HC := Lib.hid hcell; obtain ⟨q0, q1, q2, q3⟩ := hcell k hk; rw [HV.out] at q0; obtain ⟨x3, w3, hcv, hf3, b3⟩ := conv_bytes w2 vn (by omega); obtain ⟨g3, cap3, rfl, hg3⟩ := hf3.forms; have F3 := Lib.hid hf3; have B3 := Lib.hid b3; clear b2 h2 hcell q1 q2 q3 B1 hf3 b3))
  clear hcv q0
  go_loopw [1, 8] (fun x1 x8 wr => ∃ (j m : Nat) (l : List UInt8), x1 = .int .i64 (m : Int) ∧ x8 = .int .i64 (j : Int) ∧ m ≤ 31 ∧ j ≤ vn.length ∧ l.length = vn.length ∧ Hid (upper l = vn) ∧ Hid (∀ i (h : i < l.length) (h' : i < vn.length), j ≤ i → l[i] = vn[i]) ∧ Hid (FreshIs wr w2.heap.size (.slice (some ⟨g3, 0, none⟩) vn.length cap3) l) ∧ Hid (Below w2.heap.size w2 wr)) (fun _ i _ => vn.length - (intOf i).toNat)
  case atStart => exact ⟨0, sm, vn, rfl, rfl, hsm, Nat.zero_le _, rfl, HUN, Lib.hid (fun _ _ _ _ => rfl), F3, B3⟩
  case round =>
    obtain ⟨j, m, l, rfl, rfl, hm, hj, hll, HUL, HRest, HF, HB⟩ := hrel
    by_cases hlt : j < vn.length
    · have hjl : j < l.length := by omega
      obtain ⟨hc, hfz⟩ := HF.out.at j hjl
      have he : l[j] = vn[j] := HRest.out j hjl hlt (Nat.le_refl _)
      have hlet := HL.out vn[j] (List.getElem_mem hlt)
      have hji : (j : Int) < (vn.length : Int) := by omega
      rw [he] at hc
      have hup : ∀ c : UInt8, upB c = vn[j] → upper (l.set j c) = vn := fun c h => by
        have h0 := HUL.out
        unfold upper at h0 ⊢
        rw [List.map_set, h0, h]
        exact List.set_getElem_self hlt
      have HUP := Lib.hid hup
      have HLJ := Lib.hid he
      clear hup he
      generalize vn[j] = c at *
      by_cases hodd : m % 2 = 1
      · have d1 : ((m : Int) % 2 == 1) = true := by simp; omega
        have e32 : byteV (c + 32) = .int .u8 ((c.toNat : Int) + 32) := by
          unfold byteV
          rw [(up_big hlet.1 hlet.2).1]
          rfl
        have HF2 := HF.out.set j hjl (c + 32)
        rw [e32] at HF2
        have F2 := Lib.hid HF2
        have U2 := Lib.hid (HUP.out (c + 32) (up_big hlet.1 hlet.2).2)
        have R2 : Hid (∀ i (h : i < (l.set j (c + 32)).length) (h' : i < vn.length), j + 1 ≤ i → (l.set j (c + 32))[i] = vn[i]) := Lib.hid (fun i h h' hi => by
          rw [List.getElem_set_ne (by omega)]
          exact HRest.out i (by rw [List.length_set] at h; exact h) h' (by omega))
        clear HF2 e32 hodd
        go_wp2_with fail
        go_roundw
        case rel => exact ⟨j + 1, m / 2, l.set j (c + 32), by simp, by go_num, by omega, by omega, by rw [List.length_set]; exact hll, U2, R2, F2, Lib.hid (HB.out.setCell hg3 _)⟩
        case measure => simp [intOf]; omega
      · have d1 : ((m : Int) % 2 == 1) = false := by simp; omega
        have U2 : Hid (upper l = vn) := Lib.hid (by
          have h0 := HUP.out c (up_letter hlet.1 hlet.2)
          rw [← HLJ.out, List.set_getElem_self hjl] at h0
          exact h0)
        have R2 : Hid (∀ i (h : i < l.length) (h' : i < vn.length), j + 1 ≤ i → l[i] = vn[i]) := Lib.hid (fun i h h' hi => HRest.out i h h' (by omega))
        clear hodd
        go_wp2_with fail
        go_roundw
        case rel => exact ⟨j + 1, m / 2, l, by simp, by go_num, by omega, by omega, hll, U2, R2, HF, HB⟩
        case measure => simp [intOf]; omega
    · obtain rfl : j = vn.length := by omega
      have hcv := str_of_bytes HF.out.bytes
      have hfd : found l = (⟨vn, vk, va, vp⟩, true) := by unfold found; rw [HUL.out]; exact HHas.out
      have KF := Lib.hid (find_any l (by omega) wr)
      rw [hfd] at KF
      simp only at KF
      have eqs : ∀ W, (Op.equalIn 10000 24 (.agg #[.string ⟨vn.toArray⟩, .int .i64 vk, .int .i64 va, .bool vp]) (.agg #[.string ⟨vn.toArray⟩, .int .i64 vk, .int .i64 va, .bool vp])).run Try.prog W = .ok true W := fun W => by
        have := equal_verbs ⟨vn, vk, va, vp⟩ ⟨vn, vk, va, vp⟩ W
        rw [decide_eq_true rfl] at this
        exact this
      obtain ⟨hp1, hp2, hp3, hp4, hp5⟩ := HPth.out
      have d1 : decide (va < 0) = false := decide_eq_false (by omega)
      have d2 : decide (2 < va) = false := decide_eq_false (by omega)
      have d3 : decide (vk < 0) = false := decide_eq_false (by omega)
      have d4 : decide (11 ≤ vk) = false := decide_eq_false (by omega)
      have d5 : vp = true → (va == 0) = false := fun h => beq_eq_false_iff_ne.2 (hp1 h)
      have D5 := Lib.hid d5
      clear hfd HUL HRest hp1 hp2 hp3 hp4 hp5 d5 HPth HHas
      go_wp2_with (go_at_call 9; refine KF.out.mono ?_; rintro e w4 ⟨rfl, b4⟩; have bd : Below w2.heap.size w2 (w4.alloc (.cells #[.string ⟨vn.toArray⟩, .int .i64 vk, .int .i64 va, .bool vp] 24)) := ((HB.out.trans (b4.mono HB.out.size)).alloc (HB.out.trans (b4.mono HB.out.size)).size (.cells #[.string ⟨vn.toArray⟩, .int .i64 vk, .int .i64 va, .bool vp] 24)); have B4 := Lib.hid (B2.out.trans (bd.mono B2.out.size)); have K4 : Hid (∀ i (h : i < verbs.length), (w4.alloc (.cells #[.string ⟨vn.toArray⟩, .int .i64 vk, .int .i64 va, .bool vp] 24)).cell? ⟨b, o + i * 4, none⟩ = some (.string ⟨verbs[i].name.toArray⟩) ∧ (w4.alloc (.cells #[.string ⟨vn.toArray⟩, .int .i64 vk, .int .i64 va, .bool vp] 24)).cell? ⟨b, o + i * 4 + 1, none⟩ = some (.int .i64 verbs[i].kind) ∧ (w4.alloc (.cells #[.string ⟨vn.toArray⟩, .int .i64 vk, .int .i64 va, .bool vp] 24)).cell? ⟨b, o + i * 4 + 2, none⟩ = some (.int .i64 verbs[i].arg) ∧ (w4.alloc (.cells #[.string ⟨vn.toArray⟩, .int .i64 vk, .int .i64 va, .bool vp] 24)).cell? ⟨b, o + i * 4 + 3, none⟩ = some (.bool verbs[i].path)) := (Lib.hid (fun i h => by obtain ⟨a0, a1, a2, a3⟩ := HC.out i h; exact ⟨by rw [bd.cell (p := ⟨b, _, none⟩) hb]; exact a0, by rw [bd.cell (p := ⟨b, _, none⟩) hb]; exact a1, by rw [bd.cell (p := ⟨b, _, none⟩) hb]; exact a2, by rw [bd.cell (p := ⟨b, _, none⟩) hb]; exact a3⟩)); have Q4 := Lib.hid (IsRow.made w4 24 #[.string ⟨vn.toArray⟩, .int .i64 vk, .int .i64 va, .bool vp]); clear b4 bd KF)
      generalize w4.alloc _ = w5 at B4 K4 Q4 ⊢
      generalize w4.heap.size = C at Q4 ⊢
      obtain ⟨q0, q1, q2, q3⟩ := K4.out k hk
      rw [HV.out] at q0 q1 q2 q3
      simp only at q0 q1 q2 q3
      have z0 : w5.cell? ⟨C, 0, none⟩ = some (.string ⟨vn.toArray⟩) := Q4.out.cell 0
      have z1 : w5.cell? ⟨C, 1, none⟩ = some (.int .i64 vk) := Q4.out.cell 1
      have z2 : w5.cell? ⟨C, 2, none⟩ = some (.int .i64 va) := Q4.out.cell 2
      have z3 : w5.cell? ⟨C, 3, none⟩ = some (.bool vp) := Q4.out.cell 3
      have HZ : Hid (w5.drew.cell? ⟨C, 0, none⟩ = some (.string ⟨vn.toArray⟩)) := Lib.hid z0
      have B5 : Hid (Below w.heap.size w w5.drew) := Lib.hid B4.out.drew
      have HL2 : Hid (∀ i (h : i < verbs.length), w5.drew.cell? ⟨b, o + i * 4, none⟩ = some (.string ⟨verbs[i].name.toArray⟩)) := Lib.hid (fun i h => (K4.out i h).1)
      have hbb : b < w5.heap.size := World.block_lt_of_cell? w5 _ q0
      have hCC : C < w5.heap.size := Q4.out.lt
      cases vp with
      | true =>
        have d6 := D5.out rfl
        go_quiet (fail)
        go_wp2_with fail
        clear q0 q1 q2 q3 z0 z1 z2 z3 eqs d1 d2 d3 d4
        go_loopw [11] (fun x11 wr => ∃ (i : Nat), x11 = .int .i64 (i : Int) ∧ i ≤ 36 ∧ Hid (Below w5.heap.size w5 wr)) (fun i _ => 36 - (intOf i).toNat)
        case atStart => exact ⟨0, rfl, Nat.zero_le _, Lib.hid ⟨rfl, rfl, rfl, Nat.le_refl _, fun _ _ => rfl⟩⟩
        case round =>
          obtain ⟨i, rfl, hi, HB5⟩ := hrel
          by_cases hlt5 : i < 36
          · have hii : (i : Int) < 36 := by omega
            have hiv : i < verbs.length := by rw [verbs_len]; exact hlt5
            have z0 : wr.cell? ⟨C, 0, none⟩ = some (.string ⟨vn.toArray⟩) := by rw [HB5.out.cell (p := ⟨C, _, none⟩) hCC]; exact HZ.out
            have p0 : wr.cell? ⟨b, o + i * 4, none⟩ = some (.string ⟨verbs[i].name.toArray⟩) := by rw [HB5.out.cell (p := ⟨b, _, none⟩) hbb]; exact HL2.out i hiv
            have HN := Lib.hid (fun h : i ≠ k => HNE.out i hiv h)
            cases i with
            | zero =>
              have p0' : wr.cell? ⟨b, o, none⟩ = some (.string ⟨(verbs[0]'hiv).name.toArray⟩) := by simpa using p0
              generalize (verbs[0]'hiv).name = xn at *
              by_cases hik : 0 = k
              · subst hik
                go_wp2_with fail
                go_quiet (fail)
                go_wp2_with fail
                go_roundw
                case rel => exact ⟨_ + 1, by go_num, by omega, Lib.hid (HB5.out.trans ⟨rfl, rfl, rfl, Nat.le_refl _, fun _ _ => rfl⟩)⟩
                case measure => simp [intOf] <;> omega
              · have e1 : (((0 : Nat) : Int) != (k : Int)) = true := bne_iff_ne.2 (by omega)
                have e1' : ((0 : Int) != (k : Int)) = true := bne_iff_ne.2 (by omega)
                have e2 : (xn == vn) = false := beq_eq_false_iff_ne.2 (HN.out hik)
                go_wp2_with fail
                go_quiet (fail)
                go_wp2_with fail
                go_roundw
                case rel => exact ⟨_ + 1, by go_num, by omega, Lib.hid (HB5.out.trans ⟨rfl, rfl, rfl, Nat.le_refl _, fun _ _ => rfl⟩)⟩
                case measure => simp [intOf] <;> omega
            | succ j =>
              have p1 : wr.cell? ⟨b, o + j * 4, none⟩ = some (.string ⟨(verbs[j]'(by omega)).name.toArray⟩) := by rw [HB5.out.cell (p := ⟨b, _, none⟩) hbb]; exact HL2.out j (by omega)
              have e4 := rises (j := j) hiv
              generalize (verbs[j + 1]'hiv).name = xn at *
              generalize (verbs[j]'(by omega)).name = yn at *
              have e3 : decide ((0 : Int) < (j : Int) + 1) = true := decide_eq_true (by omega)
              have hw : IntKind.i64.wrap ((j : Int) + 1 - 1) = (j : Int) := by rw [show (j : Int) + 1 - 1 = (j : Int) from by omega]; exact Go.wrap_small _ (by omega) (by omega)
              have hj0 : (0 : Int) ≤ (j : Int) := by omega
              have hj1 : (j : Int) < 36 := by omega
              by_cases hik : j + 1 = k
              · have e1 : ((j : Int) + 1 != (k : Int)) = false := by rw [show (j : Int) + 1 = (k : Int) from by omega]; simp
                clear hik HN
                go_wp2_with fail
                go_quiet (fail)
                go_wp2_with fail
                go_roundw
                case rel => exact ⟨_ + 1, by go_num, by omega, Lib.hid (HB5.out.trans ⟨rfl, rfl, rfl, Nat.le_refl _, fun _ _ => rfl⟩)⟩
                case measure => simp [intOf] <;> omega
              · have e1 : ((j : Int) + 1 != (k : Int)) = true := bne_iff_ne.2 (by omega)
                have e2 : (xn == vn) = false := beq_eq_false_iff_ne.2 (HN.out hik)
                go_wp2_with fail
                go_quiet (fail)
                go_wp2_with fail
                go_roundw
                case rel => exact ⟨_ + 1, by go_num, by omega, Lib.hid (HB5.out.trans ⟨rfl, rfl, rfl, Nat.le_refl _, fun _ _ => rfl⟩)⟩
                case measure => simp [intOf] <;> omega
          · obtain rfl : i = 36 := by omega
            go_wp2_with fail
            go_ret
            exact ⟨by first | rfl | simp, B4.out.trans (HB5.out.mono B4.out.size)⟩
      | false =>
        go_quiet (fail)
        go_wp2_with fail
        clear q0 q1 q2 q3 z0 z1 z2 z3 eqs d1 d2 d3 d4
        go_loopw [11] (fun x11 wr => ∃ (i : Nat), x11 = .int .i64 (i : Int) ∧ i ≤ 36 ∧ Hid (Below w5.heap.size w5 wr)) (fun i _ => 36 - (intOf i).toNat)
        case atStart => exact ⟨0, rfl, Nat.zero_le _, Lib.hid ⟨rfl, rfl, rfl, Nat.le_refl _, fun _ _ => rfl⟩⟩
        case round =>
          obtain ⟨i, rfl, hi, HB5⟩ := hrel
          by_cases hlt5 : i < 36
          · have hii : (i : Int) < 36 := by omega
            have hiv : i < verbs.length := by rw [verbs_len]; exact hlt5
            have z0 : wr.cell? ⟨C, 0, none⟩ = some (.string ⟨vn.toArray⟩) := by rw [HB5.out.cell (p := ⟨C, _, none⟩) hCC]; exact HZ.out
            have p0 : wr.cell? ⟨b, o + i * 4, none⟩ = some (.string ⟨verbs[i].name.toArray⟩) := by rw [HB5.out.cell (p := ⟨b, _, none⟩) hbb]; exact HL2.out i hiv
            have HN := Lib.hid (fun h : i ≠ k => HNE.out i hiv h)
            cases i with
            | zero =>
              have p0' : wr.cell? ⟨b, o, none⟩ = some (.string ⟨(verbs[0]'hiv).name.toArray⟩) := by simpa using p0
              generalize (verbs[0]'hiv).name = xn at *
              by_cases hik : 0 = k
              · subst hik
                go_wp2_with fail
                go_quiet (fail)
                go_wp2_with fail
                go_roundw
                case rel => exact ⟨_ + 1, by go_num, by omega, Lib.hid (HB5.out.trans ⟨rfl, rfl, rfl, Nat.le_refl _, fun _ _ => rfl⟩)⟩
                case measure => simp [intOf] <;> omega
              · have e1 : (((0 : Nat) : Int) != (k : Int)) = true := bne_iff_ne.2 (by omega)
                have e1' : ((0 : Int) != (k : Int)) = true := bne_iff_ne.2 (by omega)
                have e2 : (xn == vn) = false := beq_eq_false_iff_ne.2 (HN.out hik)
                go_wp2_with fail
                go_quiet (fail)
                go_wp2_with fail
                go_roundw
                case rel => exact ⟨_ + 1, by go_num, by omega, Lib.hid (HB5.out.trans ⟨rfl, rfl, rfl, Nat.le_refl _, fun _ _ => rfl⟩)⟩
                case measure => simp [intOf] <;> omega
            | succ j =>
              have p1 : wr.cell? ⟨b, o + j * 4, none⟩ = some (.string ⟨(verbs[j]'(by omega)).name.toArray⟩) := by rw [HB5.out.cell (p := ⟨b, _, none⟩) hbb]; exact HL2.out j (by omega)
              have e4 := rises (j := j) hiv
              generalize (verbs[j + 1]'hiv).name = xn at *
              generalize (verbs[j]'(by omega)).name = yn at *
              have e3 : decide ((0 : Int) < (j : Int) + 1) = true := decide_eq_true (by omega)
              have hw : IntKind.i64.wrap ((j : Int) + 1 - 1) = (j : Int) := by rw [show (j : Int) + 1 - 1 = (j : Int) from by omega]; exact Go.wrap_small _ (by omega) (by omega)
              have hj0 : (0 : Int) ≤ (j : Int) := by omega
              have hj1 : (j : Int) < 36 := by omega
              by_cases hik : j + 1 = k
              · have e1 : ((j : Int) + 1 != (k : Int)) = false := by rw [show (j : Int) + 1 = (k : Int) from by omega]; simp
                clear hik HN
                go_wp2_with fail
                go_quiet (fail)
                go_wp2_with fail
                go_roundw
                case rel => exact ⟨_ + 1, by go_num, by omega, Lib.hid (HB5.out.trans ⟨rfl, rfl, rfl, Nat.le_refl _, fun _ _ => rfl⟩)⟩
                case measure => simp [intOf] <;> omega
              · have e1 : ((j : Int) + 1 != (k : Int)) = true := bne_iff_ne.2 (by omega)
                have e2 : (xn == vn) = false := beq_eq_false_iff_ne.2 (HN.out hik)
                go_wp2_with fail
                go_quiet (fail)
                go_wp2_with fail
                go_roundw
                case rel => exact ⟨_ + 1, by go_num, by omega, Lib.hid (HB5.out.trans ⟨rfl, rfl, rfl, Nat.le_refl _, fun _ _ => rfl⟩)⟩
                case measure => simp [intOf] <;> omega
          · obtain rfl : i = 36 := by omega
            go_wp2_with fail
            go_ret
            exact ⟨by first | rfl | simp, B4.out.trans (HB5.out.mono B4.out.size)⟩

set_option maxRecDepth 100000 in
theorem lifted (os : Os) (started : os.Started) (H : Type) (enc : TypeId × Value → H) :
    ReturnsInHanded {} Try.checked os 4 .any (Rows.verbFindsSpec.pre6 enc Try.prog Try.f4 Rows.verbFindsRow.domain false) (Rows.verbFindsSpec.post enc Try.prog Try.f4 false true false false) := by
  refine returnsInHanded_of_change (C := Try.checked) ownKnobs started (by kernel_rfl) Try.func4
    (ChangeSpec.witness6 (enc := enc) (C := Try.checked) false ⟨#[], #[.int .i64 0, .int .i64 0], []⟩ 8 (by kernel_rfl) (by kernel_rfl) (by kernel_rfl) (by kernel_rfl)) ?_
  intro W base args ds gs before hval0 hW _ _
  have E : Env W := trivial
  have hval : ∀ (j : Nat) t v, Try.f4.params[j]? = some t → args[j]? = some v → Value.okWide Try.prog W .any base t v := hval0
  have hW' := hW
  obtain ⟨p, q, hA0, hV, rfl, _, _⟩ := hW
  have hA : DataW.TrodAll enc Try.prog W 0 (fun _ => true) true Try.f4.params.toList args.toList ds p := hA0
  rw [Try.params4] at hA hval
  obtain ⟨v0, vs0, d0, ds0, p0, q0, hargs, rfl, rfl, r0, t0⟩ := trodAll_cons hA
  obtain ⟨v1, vs1, d1, ds1, p1, q1, rfl, rfl, rfl, r1, t1⟩ := trodAll_cons t0
  obtain ⟨rfl, rfl, rfl⟩ := trodAll_nil t1
  obtain rfl : args = #[v0, v1] := by cases args; simp_all
  obtain ⟨rfl, rfl⟩ := trodVars_none hV
  obtain ⟨n0, rfl, rfl, rfl, w0⟩ := open_int Try.underlying3 (hval 0 3 v0 rfl rfl) r0
  obtain ⟨n1, rfl, rfl, rfl, w1⟩ := open_int Try.underlying3 (hval 1 3 v1 rfl rfl) r1
  clear hA0 hval0
  simp only [List.append_nil] at hW'
  refine (walk n0 (int_wf w0).1 (int_wf w0).2 n1 (int_wf w1).1 (int_wf w1).2 W  E).mono fun e W' ⟨he, hb⟩ => ?_
  subst he
  exact ⟨_, rfl, told hW' (fun _ _ _ => trodAll_cons_mk (shut_bool Try.underlying4 _) trodAll_mk0) (trodAll_cons_mk (shut_int Try.underlying3 w0) (trodAll_cons_mk (shut_int Try.underlying3 w1) trodAll_mk0)) (fun _ => rfl) hb⟩

theorem over : Rows.verbFindsRow.holds Try.pinned (OpenSpec.ofChange Rows.verbFindsSpec) :=
  OpenClaim.holds_of_wide 4 Try.f4 rfl rfl rfl rfl rfl rfl rfl ⟨rfl, rfl, rfl, rfl, rfl⟩ rfl rfl rfl rfl rfl (by kernel_rfl) Try.func4 (by kernel_rfl)
    (of_decide_eq_true (by kernel_rfl)) (by unfold Func.isWrapper; first | (rw [if_pos (by decide +kernel)]; kernel_rfl) | (rw [if_neg (by decide +kernel)]; exact ⟨rfl, rfl⟩))
    (fun os started H enc _ => lifted os started H enc)

theorem proved : Rows.VerbFindsSaid :=
  over
#print axioms proved
end Go.Proofs.Ytfcbcffkgiajmaa.verbFinds
