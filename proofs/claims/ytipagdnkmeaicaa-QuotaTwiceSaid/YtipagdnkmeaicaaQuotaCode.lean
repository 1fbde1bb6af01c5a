/- The contracts of package quota: taken, least of int, Take, Cut; of sat.Add, sat.Left; of the library's slices.Clone of bytes. -/
import Derived.Test.YtipagdnkmeaicaaQuotaPlain
import Derived.Test.YtipagdnkmeaicaaQuotaRef
import Derived.Test.YtipagdnkmeaicaaSatMayC
import Derived.Test.YtipagdnkmeaicaaInts
import Derived.Test.YtipagdnkmeaicaaEnvBare
import Derived.Lib.SliceRun
import Derived.LoopTactic
import Derived.WalkMore
import Derived.Lib.Hide
namespace Go.Proofs.Ytipagdnkmeaicaa.Qt
open Go.Proofs.Ytipagdnkmeaicaa
open Go Go.ChangeShapes Go.WideShapes Go.ChangeAt Go.RowKit
set_option maxRecDepth 100000
set_option linter.unusedSimpArgs false
set_option linter.unusedVariables false

set_option maxHeartbeats 400000 in
theorem sat_add (a b : Int) (w : World) :
    Calls Try.prog 17 #[.int .i64 a, .int .i64 b] w fun e w' => e = .returned (.int .i64 (add a b)) ∧ w = w' := by
  have a0 := tk_lo a
  have a1 := tk_hi a
  have b0 := tk_lo b
  have b1 := tk_hi b
  go_enter Try.func17, Try.ntmps17
  go_wp2_with (go_at_call 22; refine (sat_taken _ _).mono ?_; rintro e w' ⟨rfl, rfl⟩)
  go_ret
  exact ⟨rfl, rfl⟩
set_option maxHeartbeats 400000 in
theorem sat_left (a b : Int) (w : World) :
    Calls Try.prog 16 #[.int .i64 a, .int .i64 b] w fun e w' => e = .returned (.int .i64 (left a b)) ∧ w = w' := by
  have a0 := tk_lo a
  have a1 := tk_hi a
  have b0 := tk_lo b
  have b1 := tk_hi b
  go_enter Try.func16, Try.ntmps16
  go_wp2_with (go_at_call 22; refine (sat_taken _ _).mono ?_; rintro e w' ⟨rfl, rfl⟩)
  go_ret
  exact ⟨rfl, rfl⟩

/-- a number together with nought -/
theorem add_nought (n : Int) : add n 0 = tk n := by
  have h0 := tk_lo n
  have h1 := tk_hi n
  unfold add
  rw [show tk 0 = 0 from rfl, Int.add_zero, tk_in h0 h1]
set_option maxHeartbeats 400000 in
theorem quota_taken (n : Int) (w : World) :
    Calls Try.prog 14 #[.int .i64 n] w fun e w' => e = .returned (.int .i64 (tk n)) ∧ w = w' := by
  have HE := Lib.hid (add_nought n)
  go_enter Try.func14, Try.ntmps14
  go_wp2_with (go_at_call 17; refine (sat_add _ _ _).mono ?_; rintro e w' ⟨rfl, rfl⟩)
  go_ret
  exact ⟨by rw [HE.out] <;> rfl, rfl⟩

/-- the least of some numbers -/
def minL (x : Int) : List Int → Int
  | [] => x
  | y :: l => minL (if x ≤ y then x else y) l

set_option maxHeartbeats 4000000 in
theorem least_any (x : Int) (u : Value) (l : List Int) (w : World) (H : IntsIs w u l) :
    Calls Try.prog 15 #[.int .i64 x, u] w fun e w' => e = .returned (.int .i64 (minL x l)) ∧ Below w.heap.size w w' := by
  have HR := Lib.hid H
  have HM := H.max
  obtain ⟨p0, n, c0, rfl, hn⟩ := H.form
  rw [← hn] at HM
  unfold maxLen at HM
  have HN := Lib.hid hn
  clear hn H
  go_enter Try.func15, Try.ntmps15
  go_wp2_with fail
  go_loopw [0, 6, 9] (fun x0 x6 x9 wr => ∃ (k : Nat) (y : Int), x0 = .int .i64 y ∧ x9 = .int .i64 (k : Int) ∧ k ≤ n ∧ Hid (minL y (l.drop k) = minL x l) ∧ Hid (Below w.heap.size w wr)) (fun _ _ i _ => n - (intOf i).toNat)
  case atStart => exact ⟨0, x, rfl, rfl, Nat.zero_le _, Lib.hid rfl, Lib.hid (Below.refl _ _)⟩
  case round =>
    obtain ⟨k, y, rfl, rfl, hk, HS, HB⟩ := hrel
    by_cases hlt : k < n
    · have hkl : k < l.length := by rw [← HN.out]; exact hlt
      have hji : (k : Int) < (n : Int) := by omega
      have HK : Hid (k + 1 ≤ n) := Lib.hid hlt
      obtain ⟨b, o, rfl, hbl, hcell⟩ := HR.out.plain (by omega)
      have hc : wr.cell? ⟨b, o + k, none⟩ = some (intV l[k]) := by rw [HB.out.cell (p := ⟨b, _, none⟩) hbl]; exact hcell k hkl
      have HX : Hid (minL y (l.drop k) = minL (if y ≤ l[k] then y else l[k]) (l.drop (k + 1))) := Lib.hid (by rw [List.drop_eq_getElem_cons hkl]; rfl)
      clear hcell
      generalize l[k] = t at *
      by_cases hle : y ≤ t
      · have HV : Hid (minL y (l.drop (k + 1)) = minL x l) := Lib.hid (by have h := HX.out; rw [if_pos hle] at h; rw [← h]; exact HS.out)
        clear HX
        go_wp2_with fail
        go_roundw
        case rel => exact ⟨k + 1, y, rfl, by go_num, HK.out, HV, HB⟩
        case measure => have := HK.out; simp [intOf]; omega
      · have hlt' : t < y := by omega
        have HV : Hid (minL t (l.drop (k + 1)) = minL x l) := Lib.hid (by have h := HX.out; rw [if_neg hle] at h; rw [← h]; exact HS.out)
        clear HX
        go_wp2_with fail
        go_roundw
        case rel => exact ⟨k + 1, t, by first | rfl | (rw [if_pos hlt']), by go_num, HK.out, HV, HB⟩
        case measure => have := HK.out; simp [intOf]; omega
    · have hji : ¬ (k : Int) < (n : Int) := by omega
      have HV : Hid (y = minL x l) := Lib.hid (by
        have h := HS.out
        rw [List.drop_eq_nil_of_le (by have := HN.out; omega)] at h
        exact h)
      go_wp2_with fail
      go_ret
      exact ⟨by rw [HV.out] <;> rfl, HB.out⟩

/-- two numbers in a new block -/
theorem ints_two (wr : World) (a b : Int) : IntsIs (wr.alloc (.cells #[.int .i64 a, .int .i64 b] 3)) (.slice (some ⟨wr.heap.size, 0, none⟩) 2 2) [a, b] := ints_new wr [a, b] (by show 2 ≤ maxLen; decide)
theorem least_two (t a b : Int) : minL t [a, b] = (let m := if a < t then a else t; if b < m then b else m) := by
  simp only [minL]
  split <;> split <;> split <;> (try split) <;> omega

set_option maxHeartbeats 4000000 in
theorem quota_take (e u q a n : Int) (w : World) (E : Env w) :
    Calls Try.prog 9 #[.int .i64 e, .int .i64 u, .int .i64 q, .int .i64 a, .int .i64 n] w fun r w' => r = .returned (takeV (take e u q a n)) ∧ Below w.heap.size w w' := by
  have HM : Hid (minL (tk n) [left e u, left q a] = least e u q a n) := Lib.hid (least_two _ _ _)
  have HV : Hid (takeV (take e u q a n) = .tuple #[.int .i64 (least e u q a n), .int .i64 (add u (least e u q a n)), .int .i64 (add a (least e u q a n)), .bool (decide (least e u q a n < tk n))]) := Lib.hid rfl
  have HL := Lib.hid (fun W => sat_left e u W)
  have HK := Lib.hid (fun W => sat_left q a W)
  have HN := Lib.hid (fun W => quota_taken n W)
  have HA := Lib.hid (fun m W => sat_add u m W)
  have HB := Lib.hid (fun m W => sat_add a m W)
  generalize least e u q a n = m at *
  generalize left e u = L at *
  generalize left q a = K at *
  generalize tk n = t at *
  generalize takeV (take e u q a n) = V at *
  go_enter Try.func9, Try.ntmps9
  go_wp2_with (first
      | (go_at_call 14; refine (HN.out _).mono ?_; rintro e w' ⟨rfl, rfl⟩; clear HN) | (go_at_call 16; refine (HL.out _).mono ?_; rintro e w' ⟨rfl, rfl⟩; clear HL) | (go_at_call 16; refine (HK.out _).mono ?_; rintro e w' ⟨rfl, rfl⟩; clear HK)
      | (go_at_call 15; refine (least_any t _ [L, K] _ (ints_two _ L K)).mono ?_; rintro e w4 ⟨rfl, b4⟩; rw [HM.out]; clear HM)
      | (go_at_call 17; refine (HA.out _ _).mono ?_; rintro e w' ⟨rfl, rfl⟩; clear HA) | (go_at_call 17; refine (HB.out _ _).mono ?_; rintro e w' ⟨rfl, rfl⟩; clear HB))
  refine bodyPost_ret (v := .tuple #[.int .i64 m, .int .i64 (add u m), .int .i64 (add a m), .bool (decide (m < t))]) (by simp [results, Try.results9, go_sem]) rfl ?_
  exact ⟨by rw [HV.out], below_new (Below.refl _ _) b4⟩

set_option maxHeartbeats 2000000 in
theorem clone_bytes (u : Value) (l : List UInt8) (hl : l.length ≤ 1000000) (w : World) (H : BytesIs w u l) :
    Calls Try.prog 21 #[u] w fun e w' => ∃ p c, e = .returned (.slice p l.length c) ∧ BytesIs w' (.slice p l.length c) l ∧ Below w.heap.size w w' := by
  have q : ∀ (w : World) (a : Option Addr) (n c n' c' : Nat), (binOp .eql 22 (.slice a n c) (.slice none n' c')).run Try.prog w = .ok (.bool a.isNone) w := fun w a n c n' c' => Lib.run_eql_slice_nil w _ _ a n c n' c' Try.underlying22
  have HR := Lib.hid H
  have HLL := Lib.hid hl
  obtain ⟨p, c, rfl⟩ := H.form
  obtain ⟨n, hn⟩ : ∃ n, l.length = n := ⟨_, rfl⟩
  rw [hn] at HR ⊢
  have HN := Lib.hid hn
  clear H hl hn
  cases p with
  | none =>
    go_enter Try.func21, Try.ntmps21
    go_wp2_with fail
    go_ret
    have h := HR.out
    rcases h with ⟨e, rfl⟩ | ⟨a, c', e, _⟩
    · injection e with e1 e2 e3
      subst e2
      exact ⟨none, 0, rfl, BytesIs.nil _, Below.refl _ _⟩
    · cases e
  | some ad =>
    go_enter Try.func21, Try.ntmps21
    go_wp2_with (at_builtin; refine wpList_append_bytes rfl _ _ rfl w.heap.size (.slice (some ⟨w.heap.size, 0, none⟩) 0 0) [] rfl (World.ownsRow_made w #[] 0 (Nat.le_refl _) (Nat.zero_le _) rfl) (.slice (some ad) n c) l rfl (HR.out.alloc _) ?qc1 ?qc2 ?_)
    case qc1 => have := HLL.out; simp; omega
    case qc2 => simp
    intro v' w1 hown hgrow
    have HB : Below w.heap.size w w1 := ((Below.refl _ w).alloc (Nat.le_refl _) _).grown hgrow (by simp) (by intro k hk; simp [Value.ownBlock] at hk; omega)
    obtain ⟨p', c', rfl⟩ := own_form hown
    have HY := bytes_of_own hown
    rw [HN.out] at HY hown
    go_wp2_with fail
    go_ret
    exact ⟨p', c', by rw [HN.out] <;> rfl, HY, HB⟩

/-- how many bytes are the beginning -/
theorem take_least (l : List UInt8) (m : Int) (k : Nat) (h : minL (if 0 ≤ m then m else 0) [(l.length : Int)] = (k : Int)) : k ≤ l.length ∧ l.take k = l.take m.toNat := by
  simp only [minL] at h
  split at h <;> split at h
  · have : k = m.toNat := by omega
    subst this; exact ⟨by omega, rfl⟩
  · have : k = l.length := by omega
    subst this; exact ⟨Nat.le_refl _, by rw [List.take_of_length_le (Nat.le_refl _), List.take_of_length_le (by omega)]⟩
  · have : k = m.toNat := by omega
    subst this; exact ⟨by omega, rfl⟩
  · have : k = l.length := by omega
    subst this; exact ⟨Nat.le_refl _, by rw [List.take_of_length_le (Nat.le_refl _), List.take_of_length_le (by omega)]⟩
theorem least_nat (a : Int) (h : 0 ≤ a) (n : Nat) : ∃ k : Nat, minL a [(n : Int)] = (k : Int) := by
  simp only [minL]
  split
  · exact ⟨a.toNat, by omega⟩
  · exact ⟨n, rfl⟩

set_option maxHeartbeats 4000000 in
theorem quota_cut (u : Value) (l : List UInt8) (m : Int) (hl : l.length ≤ 1000000) (w : World) (E : Env w) (H : BytesIs w u l) :
    Calls Try.prog 11 #[u, .int .i64 m] w fun e w' => ∃ p n c, e = .returned (.slice p n c) ∧ n = (l.take m.toNat).length ∧ BytesIs w' (.slice p n c) (l.take m.toNat) ∧ Below w.heap.size w w' := by
  obtain ⟨k, hk⟩ := least_nat (if 0 ≤ m then m else 0) (by split <;> omega) l.length
  obtain ⟨hkl, hkt⟩ := take_least l m k hk
  obtain ⟨s, hs, hsb⟩ := slice_h H k hkl
  have HS : Hid (BytesIs w s (l.take m.toNat)) := Lib.hid (by rw [← hkt]; exact hsb)
  have HL : Hid ((l.take m.toNat).length ≤ 1000000) := Lib.hid (by rw [List.length_take]; omega)
  obtain ⟨p, c, rfl⟩ := H.form
  clear H hsb hkt
  generalize l.take m.toNat = r at *
  generalize l.length = n at *
  clear hl
  have B0 := Lib.hid (Below.refl w.heap.size w)
  by_cases hm : 0 ≤ m
  · rw [if_pos hm] at hk
    have HK := Lib.hid hk
    clear hk hkl
    go_enter Try.func11, Try.ntmps11
    go_wp2_with (first
      | (go_at_call 15; refine (least_any _ _ [(n : Int)] _ (ints_one _ _)).mono ?_; rintro e w4 ⟨rfl, b4⟩; have B1 := Lib.hid (below_new B0.out b4); clear b4 B0; rw [HK.out]; clear HK)
      | (go_at_call 21; refine (clone_bytes _ r HL.out _ (HS.out.call B1.out)).mono ?_; rintro e w5 ⟨p5, c5, rfl, h5, b5⟩))
    go_ret
    exact ⟨_, _, _, rfl, rfl, h5, below_then B1.out b5⟩
  · rw [if_neg hm] at hk
    have HK := Lib.hid hk
    have hm' : ¬ 0 ≤ m := hm
    have hm2 : m < 0 := by omega
    clear hk hkl
    go_enter Try.func11, Try.ntmps11
    go_wp2_with (first
      | (go_at_call 15; refine (least_any _ _ [(n : Int)] _ (ints_one _ _)).mono ?_; rintro e w4 ⟨rfl, b4⟩; have B1 := Lib.hid (below_new B0.out b4); clear b4 B0; rw [HK.out]; clear HK)
      | (go_at_call 21; refine (clone_bytes _ r HL.out _ (HS.out.call B1.out)).mono ?_; rintro e w5 ⟨p5, c5, rfl, h5, b5⟩))
    go_ret
    exact ⟨_, _, _, rfl, rfl, h5, below_then B1.out b5⟩

#print axioms quota_take
#print axioms quota_cut
end Go.Proofs.Ytipagdnkmeaicaa.Qt
