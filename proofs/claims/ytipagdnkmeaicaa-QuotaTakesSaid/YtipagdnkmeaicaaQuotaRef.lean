/- The contracts of the document's answer of layer 14: wharfingerref14's Take, Cut; wharfingerref01's Taken, Left, Add. -/
import Derived.Test.YtipagdnkmeaicaaQuotaPlain
import Derived.Test.YtipagdnkmeaicaaBytes
import Derived.LoopTactic
import Derived.WalkMore
import Derived.Lib.Hide
namespace Go.Proofs.Ytipagdnkmeaicaa.Qt
open Go.Proofs.Ytipagdnkmeaicaa
open Go Go.ChangeShapes Go.WideShapes Go.ChangeAt Go.RowKit
set_option maxRecDepth 100000
set_option linter.unusedSimpArgs false
set_option linter.unusedVariables false

set_option maxHeartbeats 400000 in
theorem rtaken_any (n : Int) (w : World) :
    Calls Try.prog 18 #[.int .i64 n] w fun e w' => e = .returned (.int .i64 (tk n)) ∧ w = w' := by
  by_cases h : n < 0
  · have H : Hid (tk n = 0) := Lib.hid (by unfold tk; rw [if_pos h])
    have h2 : ¬ 1099511627776 < n := by omega
    go_enter Try.func18, Try.ntmps18
    go_wp2
    go_ret
    rw [H.out]; exact ⟨rfl, rfl⟩
  · by_cases h2 : 1099511627776 < n
    · have H : Hid (tk n = 1099511627776) := Lib.hid (by unfold tk; rw [if_neg h, if_pos h2])
      go_enter Try.func18, Try.ntmps18
      go_wp2
      go_ret
      rw [H.out]; exact ⟨rfl, rfl⟩
    · have H : Hid (tk n = n) := Lib.hid (tk_in (by omega) (by omega))
      go_enter Try.func18, Try.ntmps18
      go_wp2
      go_ret
      rw [H.out]; exact ⟨rfl, rfl⟩
set_option maxHeartbeats 400000 in
theorem radd_any (a b : Int) (w : World) :
    Calls Try.prog 20 #[.int .i64 a, .int .i64 b] w fun e w' => e = .returned (.int .i64 (add a b)) ∧ w = w' := by
  have a0 := tk_lo a
  have a1 := tk_hi a
  have b0 := tk_lo b
  have b1 := tk_hi b
  go_enter Try.func20, Try.ntmps20
  go_wp2_with (go_at_call 18; refine (rtaken_any _ _).mono ?_; rintro e w' ⟨rfl, rfl⟩)
  go_ret
  exact ⟨rfl, rfl⟩
set_option maxHeartbeats 400000 in
theorem rleft_any (a b : Int) (w : World) :
    Calls Try.prog 19 #[.int .i64 a, .int .i64 b] w fun e w' => e = .returned (.int .i64 (left a b)) ∧ w = w' := by
  have a0 := tk_lo a
  have a1 := tk_hi a
  have b0 := tk_lo b
  have b1 := tk_hi b
  go_enter Try.func19, Try.ntmps19
  go_wp2_with (go_at_call 18; refine (rtaken_any _ _).mono ?_; rintro e w' ⟨rfl, rfl⟩)
  go_ret
  exact ⟨rfl, rfl⟩

abbrev takeV (T : Tk) : Value := .tuple #[.int .i64 T.m, .int .i64 T.x, .int .i64 T.y, .bool T.cut]
set_option maxHeartbeats 2000000 in
theorem rtake_any (e u q a n : Int) (w : World) :
    Calls Try.prog 10 #[.int .i64 e, .int .i64 u, .int .i64 q, .int .i64 a, .int .i64 n] w fun r w' => r = .returned (takeV (take e u q a n)) ∧ Below w.heap.size w w' := by
  have HT : Hid (take e u q a n = ⟨least e u q a n, add u (least e u q a n), add a (least e u q a n), decide (least e u q a n < tk n)⟩) := Lib.hid rfl
  have HM : Hid (least e u q a n = if left q a < (if left e u < tk n then left e u else tk n) then left q a else (if left e u < tk n then left e u else tk n)) := Lib.hid rfl
  have HL := Lib.hid (fun W => rleft_any e u W)
  have HK := Lib.hid (fun W => rleft_any q a W)
  have HN := Lib.hid (fun W => rtaken_any n W)
  have HA := Lib.hid (fun m W => radd_any u m W)
  have HB := Lib.hid (fun m W => radd_any a m W)
  generalize least e u q a n = m at *
  generalize left e u = L at *
  generalize left q a = K at *
  generalize tk n = t at *
  by_cases h1 : L < t
  · by_cases h2 : K < L
    · have HE : Hid (m = K) := Lib.hid (by rw [HM.out, if_pos h1, if_pos h2])
      have HV : Hid (takeV (take e u q a n) = .tuple #[.int .i64 K, .int .i64 (add u K), .int .i64 (add a K), .bool (decide (K < t))]) := Lib.hid (by unfold takeV; rw [HT.out, HE.out])
      go_enter Try.func10, Try.ntmps10
      go_wp2_with (first | (go_at_call 18; refine (HN.out _).mono ?_; rintro e w' ⟨rfl, rfl⟩; clear HN) | (go_at_call 19; refine (HL.out _).mono ?_; rintro e w' ⟨rfl, rfl⟩; clear HL) | (go_at_call 19; refine (HK.out _).mono ?_; rintro e w' ⟨rfl, rfl⟩; clear HK) | (go_at_call 20; refine (HA.out _ _).mono ?_; rintro e w' ⟨rfl, rfl⟩; clear HA) | (go_at_call 20; refine (HB.out _ _).mono ?_; rintro e w' ⟨rfl, rfl⟩; clear HB))
      refine bodyPost_ret (v := .tuple #[.int .i64 K, .int .i64 (add u K), .int .i64 (add a K), .bool (decide (K < t))]) (by simp [results, Try.results10, go_sem]) rfl ?_
      exact ⟨by rw [HV.out], Below.refl _ _⟩
    · have HE : Hid (m = L) := Lib.hid (by rw [HM.out, if_pos h1, if_neg h2])
      have HV : Hid (takeV (take e u q a n) = .tuple #[.int .i64 L, .int .i64 (add u L), .int .i64 (add a L), .bool true]) := Lib.hid (by unfold takeV; rw [HT.out, HE.out, decide_eq_true h1])
      go_enter Try.func10, Try.ntmps10
      go_wp2_with (first | (go_at_call 18; refine (HN.out _).mono ?_; rintro e w' ⟨rfl, rfl⟩; clear HN) | (go_at_call 19; refine (HL.out _).mono ?_; rintro e w' ⟨rfl, rfl⟩; clear HL) | (go_at_call 19; refine (HK.out _).mono ?_; rintro e w' ⟨rfl, rfl⟩; clear HK) | (go_at_call 20; refine (HA.out _ _).mono ?_; rintro e w' ⟨rfl, rfl⟩; clear HA) | (go_at_call 20; refine (HB.out _ _).mono ?_; rintro e w' ⟨rfl, rfl⟩; clear HB))
      refine bodyPost_ret (v := .tuple #[.int .i64 L, .int .i64 (add u L), .int .i64 (add a L), .bool true]) (by simp [results, Try.results10, go_sem]) rfl ?_
      exact ⟨by rw [HV.out], Below.refl _ _⟩
  · by_cases h2 : K < t
    · have HE : Hid (m = K) := Lib.hid (by rw [HM.out, if_neg h1, if_pos h2])
      have HV : Hid (takeV (take e u q a n) = .tuple #[.int .i64 K, .int .i64 (add u K), .int .i64 (add a K), .bool true]) := Lib.hid (by unfold takeV; rw [HT.out, HE.out, decide_eq_true h2])
      go_enter Try.func10, Try.ntmps10
      go_wp2_with (first | (go_at_call 18; refine (HN.out _).mono ?_; rintro e w' ⟨rfl, rfl⟩; clear HN) | (go_at_call 19; refine (HL.out _).mono ?_; rintro e w' ⟨rfl, rfl⟩; clear HL) | (go_at_call 19; refine (HK.out _).mono ?_; rintro e w' ⟨rfl, rfl⟩; clear HK) | (go_at_call 20; refine (HA.out _ _).mono ?_; rintro e w' ⟨rfl, rfl⟩; clear HA) | (go_at_call 20; refine (HB.out _ _).mono ?_; rintro e w' ⟨rfl, rfl⟩; clear HB))
      refine bodyPost_ret (v := .tuple #[.int .i64 K, .int .i64 (add u K), .int .i64 (add a K), .bool true]) (by simp [results, Try.results10, go_sem]) rfl ?_
      exact ⟨by rw [HV.out], Below.refl _ _⟩
    · have HE : Hid (m = t) := Lib.hid (by rw [HM.out, if_neg h1, if_neg h2])
      have HV : Hid (takeV (take e u q a n) = .tuple #[.int .i64 t, .int .i64 (add u t), .int .i64 (add a t), .bool false]) := Lib.hid (by unfold takeV; rw [HT.out, HE.out, decide_eq_false (show ¬ t < t by omega)])
      go_enter Try.func10, Try.ntmps10
      go_wp2_with (first | (go_at_call 18; refine (HN.out _).mono ?_; rintro e w' ⟨rfl, rfl⟩; clear HN) | (go_at_call 19; refine (HL.out _).mono ?_; rintro e w' ⟨rfl, rfl⟩; clear HL) | (go_at_call 19; refine (HK.out _).mono ?_; rintro e w' ⟨rfl, rfl⟩; clear HK) | (go_at_call 20; refine (HA.out _ _).mono ?_; rintro e w' ⟨rfl, rfl⟩; clear HA) | (go_at_call 20; refine (HB.out _ _).mono ?_; rintro e w' ⟨rfl, rfl⟩; clear HB))
      refine bodyPost_ret (v := .tuple #[.int .i64 t, .int .i64 (add u t), .int .i64 (add a t), .bool false]) (by simp [results, Try.results10, go_sem]) rfl ?_
      exact ⟨by rw [HV.out], Below.refl _ _⟩

theorem take_next {l : List UInt8} {k : Nat} (h : k < l.length) : (l.take (k + 1)).map byteV = (l.take k).map byteV ++ [byteV l[k]] := by
  rw [List.take_succ_eq_append_getElem h, List.map_append]; rfl

set_option maxHeartbeats 4000000 in
theorem rcut_any (u : Value) (l : List UInt8) (m : Int) (hl : l.length ≤ 1000000) (w : World) (H : BytesIs w u l) :
    Calls Try.prog 12 #[u, .int .i64 m] w fun e w' => ∃ p n c, e = .returned (.slice p n c) ∧ n = (l.take m.toNat).length ∧ BytesIs w' (.slice p n c) (l.take m.toNat) ∧ Below w.heap.size w w' := by
  obtain ⟨i0, hi, hz0, hz1, hz2⟩ := info_parts info_u8
  obtain ⟨pp, c0, rfl⟩ := H.form
  obtain ⟨n, hn⟩ : ∃ n, n = l.length := ⟨_, rfl⟩
  rw [← hn]
  rw [← hn] at H hl
  have HN := Lib.hid hn
  have HR := Lib.hid H
  clear hn H
  have B0 := Lib.hid (Below.refl w.heap.size w)
  have HR0 : Hid (w.ownsRow w.heap.size 5 1 (.slice none 0 0) 0 ((l.take 0).map byteV)) := Lib.hid (World.ownsRow_nil _ _ _ _)
  go_enter Try.func12, Try.ntmps12
  go_wp2_with fail
  go_loopw [5, 6] (fun x5 x6 wr => ∃ (k : Nat) (p : Option Addr) (c : Nat), x5 = .slice p k c ∧ x6 = .int .i64 (k : Int) ∧ k ≤ n ∧ k ≤ m.toNat ∧ Hid (wr.ownsRow w.heap.size 5 1 (.slice p k c) k ((l.take k).map byteV)) ∧ Hid (Below w.heap.size w wr)) (fun _ i _ => n - (intOf i).toNat)
  case atStart => exact ⟨0, _, _, rfl, rfl, Nat.zero_le _, Nat.zero_le _, HR0, B0⟩
  case round =>
    obtain ⟨k, p, c, rfl, rfl, hk, hkm, HO, HB⟩ := hrel
    by_cases hlt : k < n
    · have hji : (k : Int) < (n : Int) := by omega
      by_cases hlm : (k : Int) < m
      · have HK : Hid (k + 1 ≤ n) := Lib.hid hlt
        have HKM : Hid (k + 1 ≤ m.toNat) := Lib.hid (by omega)
        have hkl : k < l.length := by rw [← HN.out]; exact hlt
        obtain ⟨b, o, rfl, hbl, hcell⟩ := bytes_plain HR.out (by intro e; rw [e] at hkl; exact absurd hkl (by simp))
        have HNX := Lib.hid (take_next hkl)
        have e1 : wr.cell? ⟨b, o + k, none⟩ = some (byteV l[k]) := by rw [HB.out.cell (p := ⟨b, _, none⟩) hbl]; exact hcell k hkl
        clear hcell
        generalize l[k] = ch at *
        go_wp2_with (at_builtin; refine wpList_append_own _ rfl _ _ 22 rfl w.heap.size 5 i0 (.int .u8 0) 1 1 Try.underlying22 hi hz0 hz1 hz2 rfl (by decide) _ _ _ rfl (HO.out.alloc _) ⟨_, 0, none⟩ 1 1 [.int .u8 (ch.toNat : Int)] rfl rfl ?c1 ?c2 ?c3 ?c4 ?c5 ?_)
        case c1 => exact one_new _ _ _
        case c2 => intro y hy; simp only [List.mem_singleton] at hy; subst hy; rfl
        case c3 => unfold maxLen; omega
        case c4 => omega
        case c5 => have := HB.out.size; simp; omega
        intro v' w4 hown' hgrow _
        have HB4 := Lib.hid ((HB.out.alloc HB.out.size (.cells #[.int .u8 (ch.toNat : Int)] 5)).grown hgrow (by have := HB.out.size; simp; omega) (own_ge HO.out))
        obtain ⟨p4, c4, rfl⟩ := own_form hown'
        have HO4 : Hid (w4.ownsRow w.heap.size 5 1 (.slice p4 (k + 1) c4) (k + 1) ((l.take (k + 1)).map byteV)) := Lib.hid (by have h := hown'; first | (rw [HNX.out]; exact h) | (rw [← List.map_take] at h; rw [HNX.out]; exact h))
        clear hown' hgrow
        go_wp2_with fail
        go_roundw
        case rel => exact ⟨k + 1, p4, c4, rfl, by go_num, HK.out, HKM.out, HO4, HB4⟩
        case measure => have := HK.out; simp [intOf]; omega
      · have HE : Hid (l.take k = l.take m.toNat ∧ k = (l.take m.toNat).length) := Lib.hid (by
          have e : k = m.toNat := by omega
          have := HN.out
          exact ⟨by rw [e], by rw [List.length_take]; omega⟩)
        go_wp2_with fail
        go_ret
        have hB : BytesIs wr (.slice p k c) (l.take k) := bytes_of_own (by have h := HO.out; rw [show (l.take k).length = k from by have := HN.out; rw [List.length_take]; omega]; exact h)
        rw [HE.out.1] at hB
        exact ⟨p, k, c, rfl, by have h := HE.out.2; rw [List.length_take] at h; first | exact h | (rw [List.length_take]; exact h), hB, HB.out⟩
    · have hji : ¬ (k : Int) < (n : Int) := by omega
      have HE : Hid (l.take k = l.take m.toNat ∧ k = (l.take m.toNat).length) := Lib.hid (by
        have := HN.out
        exact ⟨by rw [List.take_of_length_le (by omega), List.take_of_length_le (by omega)], by rw [List.length_take]; omega⟩)
      go_wp2_with fail
      go_ret
      have hB : BytesIs wr (.slice p k c) (l.take k) := bytes_of_own (by have h := HO.out; rw [show (l.take k).length = k from by have := HN.out; rw [List.length_take]; omega]; exact h)
      rw [HE.out.1] at hB
      exact ⟨p, k, c, rfl, by have h := HE.out.2; rw [List.length_take] at h; first | exact h | (rw [List.length_take]; exact h), hB, HB.out⟩

#print axioms rtake_any
#print axioms rcut_any
end Go.Proofs.Ytipagdnkmeaicaa.Qt
