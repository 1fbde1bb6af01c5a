/- The document's answer of layer 15: a list of numbers has one; which port is picked, how many are free. -/
import Derived.Test.YtpmmdlfgocjniaaPoolPlain
import Derived.Test.YtpmmdlfgocjniaaInts
import Derived.Test.YtpmmdlfgocjniaaEnvBare
namespace Go.Proofs.Ytpmmdlfgocjniaa.Po
open Go.Proofs.Ytpmmdlfgocjniaa
open Go Go.ChangeShapes Go.WideShapes Go.ChangeAt Go.RowKit
set_option maxRecDepth 100000
set_option linter.unusedSimpArgs false
set_option linter.unusedVariables false

theorem has_next {l : List Int} {k : Nat} {n : Int} (h : k < l.length) (h0 : n ∉ l.take k) (h1 : l[k] ≠ n) : n ∉ l.take (k + 1) := by
  rw [List.take_succ_eq_append_getElem h, List.mem_append]
  rintro (h | h)
  · exact h0 h
  · simp only [List.mem_singleton] at h; exact h1 h.symm

set_option maxHeartbeats 1000000 in
theorem rhas_any (u : Value) (l : List Int) (n : Int) (w : World) (H : IntsIs w u l) :
    Calls Try.prog 13 #[u, .int .i64 n] w fun e w' => e = .returned (.bool (l.contains n)) ∧ w = w' := by
  have hmax := H.max
  unfold maxLen at hmax
  obtain ⟨p, N, c, rfl, hN⟩ := H.form
  have HN := Lib.hid hN
  have HR := Lib.hid H
  rw [← hN] at hmax
  clear hN H
  obtain ⟨m, hm⟩ : ∃ m, l.contains n = m := ⟨_, rfl⟩
  have HM := Lib.hid hm
  rw [hm]
  clear hm
  go_enter Try.func13, Try.ntmps13
  go_wp2_with fail
  go_loop [5] (fun x3 => ∃ k : Nat, x3 = .int .i64 (k : Int) ∧ k ≤ N ∧ Hid (n ∉ l.take k)) (fun i => N - (intOf i).toNat)
  case atStart => exact ⟨0, rfl, Nat.zero_le _, Lib.hid (by simp)⟩
  case round =>
    obtain ⟨k, rfl, hk, HO⟩ := hrel
    by_cases hlt : k < N
    · have hji : (k : Int) < (N : Int) := by omega
      have hkl : k < l.length := by rw [← HN.out]; exact hlt
      obtain ⟨b, o, rfl, hbl, hcell⟩ := HR.out.plain (by omega)
      have e1 : w.cell? ⟨b, o + k, none⟩ = some (.int .i64 l[k]) := hcell k hkl
      clear hcell
      by_cases hx : l[k] = n
      · have g : (l[k] == n) = true := by rw [beq_iff_eq]; exact hx
        have HV : Hid (m = true) := Lib.hid (by rw [← HM.out, List.contains_iff_mem]; rw [← hx]; exact List.getElem_mem _)
        clear hx
        generalize l[k] = y at *
        go_wp2_with fail
        go_ret
        exact ⟨by rw [HV.out] <;> rfl, rfl⟩
      · have g : (l[k] == n) = false := by rw [beq_eq_false_iff_ne]; exact hx
        have HX := Lib.hid (has_next hkl HO.out hx)
        have HK : Hid (k + 1 ≤ N) := Lib.hid hlt
        clear hx
        generalize l[k] = y at *
        go_wp2_with fail
        go_round
        case rel => exact ⟨k + 1, by go_num, HK.out, HX⟩
        case measure => have := HK.out; simp [intOf]; omega
    · have hji : ¬ (k : Int) < (N : Int) := by omega
      have HV : Hid (m = false) := Lib.hid (by
        have h := HO.out
        have := HN.out
        rw [List.take_of_length_le (by omega)] at h
        rw [← HM.out, ← Bool.not_eq_true, List.contains_iff_mem]; exact h)
      go_wp2_with fail
      go_ret
      exact ⟨by rw [HV.out] <;> rfl, rfl⟩

theorem rmay_any (low high : Int) (w : World) : Calls Try.prog 17 #[.int .i64 low, .int .i64 high] w fun e w' => e = .returned (.bool (mayB low high)) ∧ w = w' := by
  have HM : Hid (mayB low high = (decide (1024 ≤ low) && (decide (low ≤ high) && decide (high ≤ 65535)))) := Lib.hid rfl
  generalize mayB low high = m at HM ⊢
  by_cases h1 : (1024 : Int) ≤ low
  · by_cases h2 : low ≤ high
    · by_cases h3 : high ≤ 65535
      · have HV : Hid (m = true) := Lib.hid (by rw [HM.out, decide_eq_true h1, decide_eq_true h2, decide_eq_true h3]; rfl)
        go_enter Try.func17, Try.ntmps17
        go_wp2_with fail
        go_ret
        exact ⟨by rw [HV.out] <;> rfl, rfl⟩
      · have HV : Hid (m = false) := Lib.hid (by rw [HM.out, decide_eq_true h1, decide_eq_true h2, decide_eq_false h3]; rfl)
        go_enter Try.func17, Try.ntmps17
        go_wp2_with fail
        go_ret
        exact ⟨by rw [HV.out] <;> rfl, rfl⟩
    · have HV : Hid (m = false) := Lib.hid (by rw [HM.out, decide_eq_true h1, decide_eq_false h2]; rfl)
      go_enter Try.func17, Try.ntmps17
      go_wp2_with fail
      go_ret
      exact ⟨by rw [HV.out] <;> rfl, rfl⟩
  · have HV : Hid (m = false) := Lib.hid (by rw [HM.out, decide_eq_false h1]; rfl)
    go_enter Try.func17, Try.ntmps17
    go_wp2_with fail
    go_ret
    exact ⟨by rw [HV.out] <;> rfl, rfl⟩

/-- the rest that Go tells, and the one that the document asks for -/
theorem rem_ways (d n : Int) (hn : 0 < n) : (Int.tmod d n < 0 ∧ Int.tmod d n + n = d % n) ∨ (¬ Int.tmod d n < 0 ∧ Int.tmod d n = d % n) := by
  have := rem_mend d n hn
  split at this
  · exact Or.inl ⟨by assumption, this⟩
  · exact Or.inr ⟨by assumption, this⟩

set_option maxHeartbeats 4000000 in
theorem rpick_any (low high draw : Int) (u : Value) (l : List Int) (w : World) (H : IntsIs w u l) :
    Calls Try.prog 10 #[.int .i64 low, .int .i64 high, .int .i64 draw, u] w fun e w' => e = .returned (.tuple #[.int .i64 (pick low high draw l).1, .bool (pick low high draw l).2]) ∧ w = w' := by
  have HMC := Lib.hid (fun W => rmay_any low high W)
  have HHC := Lib.hid (fun n => rhas_any u l n w H)
  clear H
  cases hm : mayB low high with
  | false =>
    have HV := Lib.hid (pick_no hm draw l)
    rw [hm] at HMC
    clear hm
    generalize pick low high draw l = z at HV ⊢
    go_enter Try.func10, Try.ntmps10
    go_wp2_with (go_at_call 17; refine (HMC.out _).mono ?_; rintro e w1 ⟨rfl, rfl⟩; clear HMC)
    refine bodyPost_ret (v := .tuple #[.int .i64 z.1, .bool z.2]) (by simp [results, Try.results10, go_sem, HV.out]) rfl ?_
    exact ⟨rfl, rfl⟩
  | true =>
    have hf := (may_iff _ _).1 hm
    obtain ⟨f1, f2, f3⟩ := hf
    have HF : Hid (Fine low high) := Lib.hid ⟨f1, f2, f3⟩
    rw [hm] at HMC
    clear hm
    obtain ⟨N, hN⟩ : ∃ N : Nat, high - low + 1 = (N : Int) := ⟨(high - low + 1).toNat, by omega⟩
    have hNn : num low high = (N : Int) := hN
    have hN0 : (0 : Int) < (N : Int) := by omega
    have hNz : ((N : Int) == 0) = false := by rw [beq_eq_false_iff_ne]; omega
    have hN9 : (N : Int) ≤ 65536 := by omega
    have HP : Hid (∀ k : Nat, k < N → low + (draw % (N : Int) + (k : Int)) % (N : Int) ∉ l → (∀ j : Nat, j < k → low + (draw % (N : Int) + (j : Int)) % (N : Int) ∈ l) → pick low high draw l = (low + (draw % (N : Int) + (k : Int)) % (N : Int), true)) := Lib.hid (fun k hk h1 h2 => by
      have := pick_at (draw := draw) (busy := l) HF.out (k := k) (by rw [hNn]; omega) (by rw [hNn]; exact h1) (by rw [hNn]; exact h2)
      rw [hNn] at this; exact this)
    have HE : Hid ((∀ j : Nat, j < N → low + (draw % (N : Int) + (j : Int)) % (N : Int) ∈ l) → pick low high draw l = (0, false)) := Lib.hid (fun h => pick_end (fun j hj => by rw [hNn] at hj ⊢; exact h j (by omega)))
    generalize pick low high draw l = z at HP HE ⊢
    have hS0 := Int.emod_nonneg draw (show (N : Int) ≠ 0 by omega)
    have hS1 := Int.emod_lt_of_pos draw hN0
    have hw := rem_ways draw N hN0
    generalize draw % (N : Int) = S at *
    clear hNn HF
    obtain ⟨T, hT⟩ : ∃ T, draw.tmod (N : Int) = T := ⟨_, rfl⟩
    rw [hT] at hw
    rcases hw with ⟨hT0, hT1⟩ | ⟨hT0, rfl⟩
    · have hTb : -65536 ≤ T := by omega
      have hTc : T ≤ 65536 := by omega
      go_enter Try.func10, Try.ntmps10
      go_wp2_with (go_at_call 17; refine (HMC.out _).mono ?_; rintro e w1 ⟨rfl, rfl⟩; clear HMC)
      go_loop [13] (fun x13 => ∃ k : Nat, x13 = .int .i64 (k : Int) ∧ k ≤ N ∧ Hid (∀ j : Nat, j < k → low + (S + (j : Int)) % (N : Int) ∈ l)) (fun i => N - (intOf i).toNat)
      case atStart => exact ⟨0, rfl, Nat.zero_le _, Lib.hid (fun j hj => absurd hj (Nat.not_lt_zero j))⟩
      case round =>
        obtain ⟨k, rfl, hk, HO⟩ := hrel
        by_cases hlt : k < N
        · have hji : (k : Int) < (N : Int) := by omega
          have HK : Hid (k + 1 ≤ N) := Lib.hid hlt
          have HPK := Lib.hid (fun h => HP.out k hlt h HO.out)
          have HNX : Hid (low + (S + (k : Int)) % (N : Int) ∈ l → ∀ j : Nat, j < k + 1 → low + (S + (j : Int)) % (N : Int) ∈ l) := Lib.hid (fun h j hj => by
            by_cases e : j = k
            · rw [e]; exact h
            · exact HO.out j (by omega))
          have hq0 := Int.emod_nonneg (S + (k : Int)) (show (N : Int) ≠ 0 by omega)
          have hq1 := Int.emod_lt_of_pos (S + (k : Int)) hN0
          have hq : (S + (k : Int)).tmod (N : Int) = (S + (k : Int)) % (N : Int) := Int.tmod_eq_emod_of_nonneg (by omega)
          generalize (S + (k : Int)) % (N : Int) = q at *
          cases hc : l.contains (low + q) with
          | true =>
            have HHK := Lib.hid (hc ▸ HHC.out (low + q))
            have HNX2 := Lib.hid (HNX.out (List.contains_iff_mem.1 hc))
            clear hc HNX HO HPK
            go_wp2_with (go_at_call 13; refine (HHK.out).mono ?_; rintro e w1 ⟨rfl, rfl⟩; clear HHK)
            go_round
            case rel => exact ⟨k + 1, by go_num, HK.out, HNX2⟩
            case measure => have := HK.out; simp [intOf]; omega
          | false =>
            have HHK := Lib.hid (hc ▸ HHC.out (low + q))
            have HV := Lib.hid (HPK.out (fun h => by rw [List.contains_iff_mem.2 h] at hc; cases hc))
            clear hc HNX HO HPK
            go_wp2_with (go_at_call 13; refine (HHK.out).mono ?_; rintro e w1 ⟨rfl, rfl⟩; clear HHK)
            refine bodyPost_ret (v := .tuple #[.int .i64 z.1, .bool z.2]) (by simp [results, Try.results10, go_sem, HV.out]) rfl ?_
            exact ⟨rfl, rfl⟩
        · have hji : ¬ (k : Int) < (N : Int) := by omega
          have HV := Lib.hid (HE.out (fun j hj => HO.out j (by omega)))
          clear HO
          go_wp2_with fail
          refine bodyPost_ret (v := .tuple #[.int .i64 z.1, .bool z.2]) (by simp [results, Try.results10, go_sem, HV.out]) rfl ?_
          exact ⟨rfl, rfl⟩
    · have hTb : -65536 ≤ T := by omega
      have hTc : T ≤ 65536 := by omega
      go_enter Try.func10, Try.ntmps10
      go_wp2_with (go_at_call 17; refine (HMC.out _).mono ?_; rintro e w1 ⟨rfl, rfl⟩; clear HMC)
      go_loop [13] (fun x13 => ∃ k : Nat, x13 = .int .i64 (k : Int) ∧ k ≤ N ∧ Hid (∀ j : Nat, j < k → low + (T + (j : Int)) % (N : Int) ∈ l)) (fun i => N - (intOf i).toNat)
      case atStart => exact ⟨0, rfl, Nat.zero_le _, Lib.hid (fun j hj => absurd hj (Nat.not_lt_zero j))⟩
      case round =>
        obtain ⟨k, rfl, hk, HO⟩ := hrel
        by_cases hlt : k < N
        · have hji : (k : Int) < (N : Int) := by omega
          have HK : Hid (k + 1 ≤ N) := Lib.hid hlt
          have HPK := Lib.hid (fun h => HP.out k hlt h HO.out)
          have HNX : Hid (low + (T + (k : Int)) % (N : Int) ∈ l → ∀ j : Nat, j < k + 1 → low + (T + (j : Int)) % (N : Int) ∈ l) := Lib.hid (fun h j hj => by
            by_cases e : j = k
            · rw [e]; exact h
            · exact HO.out j (by omega))
          have hq0 := Int.emod_nonneg (T + (k : Int)) (show (N : Int) ≠ 0 by omega)
          have hq1 := Int.emod_lt_of_pos (T + (k : Int)) hN0
          have hq : (T + (k : Int)).tmod (N : Int) = (T + (k : Int)) % (N : Int) := Int.tmod_eq_emod_of_nonneg (by omega)
          generalize (T + (k : Int)) % (N : Int) = q at *
          cases hc : l.contains (low + q) with
          | true =>
            have HHK := Lib.hid (hc ▸ HHC.out (low + q))
            have HNX2 := Lib.hid (HNX.out (List.contains_iff_mem.1 hc))
            clear hc HNX HO HPK
            go_wp2_with (go_at_call 13; refine (HHK.out).mono ?_; rintro e w1 ⟨rfl, rfl⟩; clear HHK)
            go_round
            case rel => exact ⟨k + 1, by go_num, HK.out, HNX2⟩
            case measure => have := HK.out; simp [intOf]; omega
          | false =>
            have HHK := Lib.hid (hc ▸ HHC.out (low + q))
            have HV := Lib.hid (HPK.out (fun h => by rw [List.contains_iff_mem.2 h] at hc; cases hc))
            clear hc HNX HO HPK
            go_wp2_with (go_at_call 13; refine (HHK.out).mono ?_; rintro e w1 ⟨rfl, rfl⟩; clear HHK)
            refine bodyPost_ret (v := .tuple #[.int .i64 z.1, .bool z.2]) (by simp [results, Try.results10, go_sem, HV.out]) rfl ?_
            exact ⟨rfl, rfl⟩
        · have hji : ¬ (k : Int) < (N : Int) := by omega
          have HV := Lib.hid (HE.out (fun j hj => HO.out j (by omega)))
          clear HO
          go_wp2_with fail
          refine bodyPost_ret (v := .tuple #[.int .i64 z.1, .bool z.2]) (by simp [results, Try.results10, go_sem, HV.out]) rfl ?_
          exact ⟨rfl, rfl⟩

theorem free_step {low : Int} {l : List Int} {k : Nat} (b : Bool) (h : l.contains (low + (k : Int)) = b) : freeTo low l (k + 1) = freeTo low l k + (if b then 0 else 1) := by
  rw [freeTo_next]
  unfold idle
  rw [h]
  cases b <;> rfl

set_option maxHeartbeats 4000000 in
theorem rfree_any (low high : Int) (u : Value) (l : List Int) (w : World) (H : IntsIs w u l) :
    Calls Try.prog 12 #[.int .i64 low, .int .i64 high, u] w fun e w' => e = .returned (.int .i64 (free low high l)) ∧ w = w' := by
  have HMC := Lib.hid (fun W => rmay_any low high W)
  have HHC := Lib.hid (fun n => rhas_any u l n w H)
  clear H
  cases hm : mayB low high with
  | false =>
    have HV := Lib.hid (free_no hm l)
    rw [hm] at HMC
    clear hm
    generalize free low high l = z at HV ⊢
    go_enter Try.func12, Try.ntmps12
    go_wp2_with (go_at_call 17; refine (HMC.out _).mono ?_; rintro e w1 ⟨rfl, rfl⟩; clear HMC)
    go_ret
    exact ⟨by rw [HV.out] <;> rfl, rfl⟩
  | true =>
    have hf := (may_iff _ _).1 hm
    have HV := Lib.hid (free_to (busy := l) hf)
    obtain ⟨f1, f2, f3⟩ := hf
    rw [hm] at HMC
    clear hm
    obtain ⟨N, hN⟩ : ∃ N : Nat, high = low + (N : Int) - 1 := ⟨(high - low + 1).toNat, by omega⟩
    have hNn : (num low high).toNat = N := by unfold num; omega
    rw [hNn] at HV
    clear hNn
    generalize free low high l = z at HV ⊢
    subst hN
    go_enter Try.func12, Try.ntmps12
    go_wp2_with (go_at_call 17; refine (HMC.out _).mono ?_; rintro e w1 ⟨rfl, rfl⟩; clear HMC)
    go_loop [8, 9] (fun x5 x6 => ∃ k c : Nat, x5 = .int .i64 (c : Int) ∧ x6 = .int .i64 (low + (k : Int)) ∧ k ≤ N ∧ Hid (c = freeTo low l k)) (fun _ i => N - (intOf i - low).toNat)
    case atStart => exact ⟨0, 0, rfl, by go_num, Nat.zero_le _, Lib.hid (by unfold freeTo; rfl)⟩
    case round =>
      obtain ⟨k, c, rfl, rfl, hk, HO⟩ := hrel
      have hcl : c ≤ 65536 := by have := freeTo_le low l k; rw [← HO.out] at this; omega
      by_cases hlt : k < N
      · have hji : low + (k : Int) ≤ low + (N : Int) - 1 := by omega
        have HK : Hid (k + 1 ≤ N) := Lib.hid hlt
        cases hc : l.contains (low + (k : Int)) with
        | true =>
          have HHK := Lib.hid (hc ▸ HHC.out (low + (k : Int)))
          have HNX : Hid (c = freeTo low l (k + 1)) := Lib.hid (by rw [free_step _ hc, HO.out]; rfl)
          clear hc HO
          go_wp2_with (go_at_call 13; refine (HHK.out).mono ?_; rintro e w1 ⟨rfl, rfl⟩; clear HHK)
          go_round
          case rel => exact ⟨k + 1, c, by go_num, by go_num, HK.out, HNX⟩
          case measure => have := HK.out; simp [intOf]; omega
        | false =>
          have HHK := Lib.hid (hc ▸ HHC.out (low + (k : Int)))
          have HNX : Hid (c + 1 = freeTo low l (k + 1)) := Lib.hid (by rw [free_step _ hc, HO.out]; rfl)
          clear hc HO
          go_wp2_with (go_at_call 13; refine (HHK.out).mono ?_; rintro e w1 ⟨rfl, rfl⟩; clear HHK)
          go_round
          case rel => exact ⟨k + 1, c + 1, by go_num, by go_num, HK.out, HNX⟩
          case measure => have := HK.out; simp [intOf]; omega
      · have hji : ¬ low + (k : Int) ≤ low + (N : Int) - 1 := by omega
        obtain rfl : k = N := by omega
        go_wp2_with fail
        go_ret
        exact ⟨by rw [HV.out, HO.out] <;> rfl, rfl⟩

#print axioms rpick_any
#print axioms rfree_any
end Go.Proofs.Ytpmmdlfgocjniaa.Po
