/- The contracts of the document's answer of layer 8: wharfingerref08.Clean, May, Print, Read. -/
import Derived.Test.YtginmhmeepjbhaaDoorCmdArg
import Derived.Test.YtginmhmeepjbhaaDoorCmdPlain
import Derived.Test.YtginmhmeepjbhaaDoorVerbRef
import Derived.LoopTactic
import Derived.WalkMore
namespace Go.Proofs.YtginmhmeepjbhaaDoor.Cm
open Go.Proofs.YtginmhmeepjbhaaDoor Go.Proofs.YtginmhmeepjbhaaDoor.Vb
open Go.ChangeShapes Go.WideShapes Go.ChangeAt Go.RowKit
set_option linter.unusedSimpArgs false

theorem clean_next {s : List UInt8} {k : Nat} (hk : k < s.length) : clean (s.take (k + 1)) = (clean (s.take k) && cleanB s[k]) := by
  rw [List.take_succ_eq_append_getElem hk, clean_append]
  simp [clean]
theorem clean_no {s : List UInt8} {k : Nat} (hk : k < s.length) (h : cleanB s[k] = false) : clean s = false := by
  cases hc : clean s with
  | false => rfl
  | true =>
    have := List.all_eq_true.1 hc s[k] (List.getElem_mem hk)
    rw [h] at this
    cases this

set_option maxHeartbeats 4000000 in
set_option maxRecDepth 100000 in
theorem rclean_any (s : List UInt8) (hl : s.length ≤ 100000) (w : World) : Calls Tryd.prog 15 #[.string ⟨s.toArray⟩] w fun e w' => e = .returned (.bool (clean s)) ∧ Below w.heap.size w w' := by
  go_enter Tryd.func15, Tryd.ntmps15
  go_wp2_with fail
  go_loopw [3] (fun x3 wr => ∃ (k : Nat), x3 = .int .i64 (k : Int) ∧ k ≤ s.length ∧ Hid (clean (s.take k) = true) ∧ Hid (Below w.heap.size w wr)) (fun i _ => s.length - (intOf i).toNat)
  case atStart => exact ⟨0, rfl, Nat.zero_le _, Lib.hid (by simp [clean]), Lib.hid (Below.refl _ _)⟩
  case round =>
    obtain ⟨k, rfl, hk, HC, HB⟩ := hrel
    by_cases hlt : k < s.length
    · have hsz : k < (ByteArray.mk s.toArray).size := by simpa [ByteArray.size] using hlt
      obtain ⟨c, hc⟩ : ∃ c : UInt8, (ByteArray.mk s.toArray)[k]'hsz = c := ⟨_, rfl⟩
      have hc' : s[k] = c := hc
      have HN : Hid (clean (s.take (k + 1)) = cleanB c) := Lib.hid (by rw [clean_next hlt, HC.out, hc']; rfl)
      have HX : Hid (cleanB c = false → clean s = false) := Lib.hid (fun h => clean_no hlt (by rw [hc']; exact h))
      clear hc'
      by_cases h1 : (c.toNat : Int) < 32
      · have HV := Lib.hid (HX.out (decide_eq_false (by omega)))
        clear HN HX
        go_wp2_with fail
        go_ret
        exact ⟨by rw [HV.out]; rfl, HB.out⟩
      · by_cases h2 : 126 < (c.toNat : Int)
        · have HV := Lib.hid (HX.out (decide_eq_false (by omega)))
          clear HN HX
          go_wp2_with fail
          go_ret
          exact ⟨by rw [HV.out]; rfl, HB.out⟩
        · have HV := Lib.hid (HN.out.trans (decide_eq_true (by omega)))
          clear HN HX
          go_wp2_with fail
          go_roundw
          case rel => exact ⟨k + 1, by go_num, by omega, HV.out, HB⟩
          case measure => simp [intOf]; omega
    · have hk2 : k = s.length := by omega
      have HV : Hid (clean s = true) := Lib.hid (by have := HC.out; rw [hk2, List.take_length] at this; exact this)
      go_wp2_with fail
      go_ret
      exact ⟨by rw [HV.out]; rfl, HB.out⟩

/-- the answer's own order of asking -/
theorem may_eq (v a : List UInt8) (x : Vb) (is : Bool) (h : found v = (x, is)) : may v a = (is && (x.name == v) && clean a && !((x.arg == 0) && (a != [])) && !((x.arg == 2) && (a == []))) := by
  unfold may
  rw [h]
  rfl

set_option maxHeartbeats 4000000 in
set_option maxRecDepth 100000 in
theorem rmay_any (v a : List UInt8) (hv : v.length ≤ 100000) (ha : a.length ≤ 100000) (w : World) : Calls Tryd.prog 10 #[cmdV v a] w fun e w' => e = .returned (.bool (may v a)) ∧ Below w.heap.size w w' := by
  obtain ⟨x, is, hx⟩ : ∃ x is, found v = (x, is) := ⟨_, _, rfl⟩
  have HM := Lib.hid (may_eq v a x is hx)
  have HF : Hid (∀ W, Calls Tryd.prog 21 #[.string ⟨v.toArray⟩] W fun e w' => e = .returned (.tuple #[verbV x, .bool is]) ∧ Below W.heap.size W w') := Lib.hid (fun W => by
    have h := rfind_any v hv W
    rw [hx] at h
    exact h)
  have HC := Lib.hid (fun W => rclean_any a ha W)
  clear hx
  generalize clean a = cl at HM HC
  obtain ⟨vn, vk, va, vp⟩ := x
  simp only at HM
  have R0 : IsRow (w.alloc (.cells #[.string ⟨v.toArray⟩, .string ⟨a.toArray⟩] 23)) w.heap.size 23 #[.string ⟨v.toArray⟩, .string ⟨a.toArray⟩] := IsRow.made w _ _
  have b0 : Below w.heap.size w (w.alloc (.cells #[.string ⟨v.toArray⟩, .string ⟨a.toArray⟩] 23)) := (Below.refl _ w).alloc (Nat.le_refl _) _
  cases is with
  | false =>
    go_enter Tryd.func10, Tryd.ntmps10
    go_wp2_with (first
      | (go_at_call 21; refine (HF.out _).mono ?_; rintro e w1 ⟨rfl, b1⟩; have R1 := R0.call b1; have c1 := R1.cell 1; have hlt := R1.lt; have B1 := Lib.hid (b0.trans (b1.mono b0.size)))
      | (go_at_call 15; refine (HC.out _).mono ?_; rintro e w2 ⟨rfl, b2⟩; have B2 := Lib.hid ((B1.out.alloc B1.out.size (.cells #[.string ⟨vn.toArray⟩, .int .i64 vk, .int .i64 va, .bool vp] 37)).trans (b2.mono (by have := B1.out.size; simp; omega))); have R2 := (R1.alloc (.cells #[.string ⟨vn.toArray⟩, .int .i64 vk, .int .i64 va, .bool vp] 37)).call b2; have Q2 := (IsRow.made w1 37 #[.string ⟨vn.toArray⟩, .int .i64 vk, .int .i64 va, .bool vp]).call b2; have d0 : w2.cell? ⟨w.heap.size, 0, none⟩ = some (.string ⟨v.toArray⟩) := R2.cell 0; have d1 : w2.cell? ⟨w.heap.size, 1, none⟩ = some (.string ⟨a.toArray⟩) := R2.cell 1; have q0 : w2.cell? ⟨w1.heap.size, 0, none⟩ = some (.string ⟨vn.toArray⟩) := Q2.cell 0; have q2 : w2.cell? ⟨w1.heap.size, 2, none⟩ = some (.int .i64 va) := Q2.cell 2))
    go_ret
    exact ⟨by rw [HM.out]; rfl, B2.out⟩
  | true =>
    cases hn : (vn == v) with
    | false =>
      rw [hn] at HM
      go_enter Tryd.func10, Tryd.ntmps10
      go_wp2_with (first
        | (go_at_call 21; refine (HF.out _).mono ?_; rintro e w1 ⟨rfl, b1⟩; have R1 := R0.call b1; have c1 := R1.cell 1; have hlt := R1.lt; have B1 := Lib.hid (b0.trans (b1.mono b0.size)))
        | (go_at_call 15; refine (HC.out _).mono ?_; rintro e w2 ⟨rfl, b2⟩; have B2 := Lib.hid ((B1.out.alloc B1.out.size (.cells #[.string ⟨vn.toArray⟩, .int .i64 vk, .int .i64 va, .bool vp] 37)).trans (b2.mono (by have := B1.out.size; simp; omega))); have R2 := (R1.alloc (.cells #[.string ⟨vn.toArray⟩, .int .i64 vk, .int .i64 va, .bool vp] 37)).call b2; have Q2 := (IsRow.made w1 37 #[.string ⟨vn.toArray⟩, .int .i64 vk, .int .i64 va, .bool vp]).call b2; have d0 : w2.cell? ⟨w.heap.size, 0, none⟩ = some (.string ⟨v.toArray⟩) := R2.cell 0; have d1 : w2.cell? ⟨w.heap.size, 1, none⟩ = some (.string ⟨a.toArray⟩) := R2.cell 1; have q0 : w2.cell? ⟨w1.heap.size, 0, none⟩ = some (.string ⟨vn.toArray⟩) := Q2.cell 0; have q2 : w2.cell? ⟨w1.heap.size, 2, none⟩ = some (.int .i64 va) := Q2.cell 2))
      go_ret
      exact ⟨by rw [HM.out]; rfl, B2.out⟩
    | true =>
      cases cl with
      | false =>
        rw [hn] at HM
        go_enter Tryd.func10, Tryd.ntmps10
        go_wp2_with (first
          | (go_at_call 21; refine (HF.out _).mono ?_; rintro e w1 ⟨rfl, b1⟩; have R1 := R0.call b1; have c1 := R1.cell 1; have hlt := R1.lt; have B1 := Lib.hid (b0.trans (b1.mono b0.size)))
          | (go_at_call 15; refine (HC.out _).mono ?_; rintro e w2 ⟨rfl, b2⟩; have B2 := Lib.hid ((B1.out.alloc B1.out.size (.cells #[.string ⟨vn.toArray⟩, .int .i64 vk, .int .i64 va, .bool vp] 37)).trans (b2.mono (by have := B1.out.size; simp; omega))); have R2 := (R1.alloc (.cells #[.string ⟨vn.toArray⟩, .int .i64 vk, .int .i64 va, .bool vp] 37)).call b2; have Q2 := (IsRow.made w1 37 #[.string ⟨vn.toArray⟩, .int .i64 vk, .int .i64 va, .bool vp]).call b2; have d0 : w2.cell? ⟨w.heap.size, 0, none⟩ = some (.string ⟨v.toArray⟩) := R2.cell 0; have d1 : w2.cell? ⟨w.heap.size, 1, none⟩ = some (.string ⟨a.toArray⟩) := R2.cell 1; have q0 : w2.cell? ⟨w1.heap.size, 0, none⟩ = some (.string ⟨vn.toArray⟩) := Q2.cell 0; have q2 : w2.cell? ⟨w1.heap.size, 2, none⟩ = some (.int .i64 va) := Q2.cell 2))
        go_ret
        exact ⟨by rw [HM.out]; rfl, B2.out⟩
      | true =>
        rw [hn] at HM
        cases he : (a == []) with
        | true =>
          have he' : (a != []) = false := by rw [bne, he]; rfl
          rw [he, he'] at HM
          cases h2 : (va == 2) with
          | true =>
            have h0 : (va == 0) = false := by have := beq_iff_eq.1 h2; exact beq_eq_false_iff_ne.2 (by omega)
            rw [h2, h0] at HM
            go_enter Tryd.func10, Tryd.ntmps10
            go_wp2_with (first
              | (go_at_call 21; refine (HF.out _).mono ?_; rintro e w1 ⟨rfl, b1⟩; have R1 := R0.call b1; have c1 := R1.cell 1; have hlt := R1.lt; have B1 := Lib.hid (b0.trans (b1.mono b0.size)))
              | (go_at_call 15; refine (HC.out _).mono ?_; rintro e w2 ⟨rfl, b2⟩; have B2 := Lib.hid ((B1.out.alloc B1.out.size (.cells #[.string ⟨vn.toArray⟩, .int .i64 vk, .int .i64 va, .bool vp] 37)).trans (b2.mono (by have := B1.out.size; simp; omega))); have R2 := (R1.alloc (.cells #[.string ⟨vn.toArray⟩, .int .i64 vk, .int .i64 va, .bool vp] 37)).call b2; have Q2 := (IsRow.made w1 37 #[.string ⟨vn.toArray⟩, .int .i64 vk, .int .i64 va, .bool vp]).call b2; have d0 : w2.cell? ⟨w.heap.size, 0, none⟩ = some (.string ⟨v.toArray⟩) := R2.cell 0; have d1 : w2.cell? ⟨w.heap.size, 1, none⟩ = some (.string ⟨a.toArray⟩) := R2.cell 1; have q0 : w2.cell? ⟨w1.heap.size, 0, none⟩ = some (.string ⟨vn.toArray⟩) := Q2.cell 0; have q2 : w2.cell? ⟨w1.heap.size, 2, none⟩ = some (.int .i64 va) := Q2.cell 2))
            go_ret
            exact ⟨by rw [HM.out]; rfl, B2.out⟩
          | false =>
            cases h0 : (va == 0) with
            | true =>
              rw [h2, h0] at HM
              go_enter Tryd.func10, Tryd.ntmps10
              go_wp2_with (first
                | (go_at_call 21; refine (HF.out _).mono ?_; rintro e w1 ⟨rfl, b1⟩; have R1 := R0.call b1; have c1 := R1.cell 1; have hlt := R1.lt; have B1 := Lib.hid (b0.trans (b1.mono b0.size)))
                | (go_at_call 15; refine (HC.out _).mono ?_; rintro e w2 ⟨rfl, b2⟩; have B2 := Lib.hid ((B1.out.alloc B1.out.size (.cells #[.string ⟨vn.toArray⟩, .int .i64 vk, .int .i64 va, .bool vp] 37)).trans (b2.mono (by have := B1.out.size; simp; omega))); have R2 := (R1.alloc (.cells #[.string ⟨vn.toArray⟩, .int .i64 vk, .int .i64 va, .bool vp] 37)).call b2; have Q2 := (IsRow.made w1 37 #[.string ⟨vn.toArray⟩, .int .i64 vk, .int .i64 va, .bool vp]).call b2; have d0 : w2.cell? ⟨w.heap.size, 0, none⟩ = some (.string ⟨v.toArray⟩) := R2.cell 0; have d1 : w2.cell? ⟨w.heap.size, 1, none⟩ = some (.string ⟨a.toArray⟩) := R2.cell 1; have q0 : w2.cell? ⟨w1.heap.size, 0, none⟩ = some (.string ⟨vn.toArray⟩) := Q2.cell 0; have q2 : w2.cell? ⟨w1.heap.size, 2, none⟩ = some (.int .i64 va) := Q2.cell 2))
              go_ret
              exact ⟨by rw [HM.out]; rfl, B2.out⟩
            | false =>
              rw [h2, h0] at HM
              go_enter Tryd.func10, Tryd.ntmps10
              go_wp2_with (first
                | (go_at_call 21; refine (HF.out _).mono ?_; rintro e w1 ⟨rfl, b1⟩; have R1 := R0.call b1; have c1 := R1.cell 1; have hlt := R1.lt; have B1 := Lib.hid (b0.trans (b1.mono b0.size)))
                | (go_at_call 15; refine (HC.out _).mono ?_; rintro e w2 ⟨rfl, b2⟩; have B2 := Lib.hid ((B1.out.alloc B1.out.size (.cells #[.string ⟨vn.toArray⟩, .int .i64 vk, .int .i64 va, .bool vp] 37)).trans (b2.mono (by have := B1.out.size; simp; omega))); have R2 := (R1.alloc (.cells #[.string ⟨vn.toArray⟩, .int .i64 vk, .int .i64 va, .bool vp] 37)).call b2; have Q2 := (IsRow.made w1 37 #[.string ⟨vn.toArray⟩, .int .i64 vk, .int .i64 va, .bool vp]).call b2; have d0 : w2.cell? ⟨w.heap.size, 0, none⟩ = some (.string ⟨v.toArray⟩) := R2.cell 0; have d1 : w2.cell? ⟨w.heap.size, 1, none⟩ = some (.string ⟨a.toArray⟩) := R2.cell 1; have q0 : w2.cell? ⟨w1.heap.size, 0, none⟩ = some (.string ⟨vn.toArray⟩) := Q2.cell 0; have q2 : w2.cell? ⟨w1.heap.size, 2, none⟩ = some (.int .i64 va) := Q2.cell 2))
              go_ret
              exact ⟨by rw [HM.out]; rfl, B2.out⟩
        | false =>
          have he' : (a != []) = true := by rw [bne, he]; rfl
          rw [he, he'] at HM
          cases h0 : (va == 0) with
          | true =>
            have h2 : (va == 2) = false := by have := beq_iff_eq.1 h0; exact beq_eq_false_iff_ne.2 (by omega)
            rw [h2, h0] at HM
            go_enter Tryd.func10, Tryd.ntmps10
            go_wp2_with (first
              | (go_at_call 21; refine (HF.out _).mono ?_; rintro e w1 ⟨rfl, b1⟩; have R1 := R0.call b1; have c1 := R1.cell 1; have hlt := R1.lt; have B1 := Lib.hid (b0.trans (b1.mono b0.size)))
              | (go_at_call 15; refine (HC.out _).mono ?_; rintro e w2 ⟨rfl, b2⟩; have B2 := Lib.hid ((B1.out.alloc B1.out.size (.cells #[.string ⟨vn.toArray⟩, .int .i64 vk, .int .i64 va, .bool vp] 37)).trans (b2.mono (by have := B1.out.size; simp; omega))); have R2 := (R1.alloc (.cells #[.string ⟨vn.toArray⟩, .int .i64 vk, .int .i64 va, .bool vp] 37)).call b2; have Q2 := (IsRow.made w1 37 #[.string ⟨vn.toArray⟩, .int .i64 vk, .int .i64 va, .bool vp]).call b2; have d0 : w2.cell? ⟨w.heap.size, 0, none⟩ = some (.string ⟨v.toArray⟩) := R2.cell 0; have d1 : w2.cell? ⟨w.heap.size, 1, none⟩ = some (.string ⟨a.toArray⟩) := R2.cell 1; have q0 : w2.cell? ⟨w1.heap.size, 0, none⟩ = some (.string ⟨vn.toArray⟩) := Q2.cell 0; have q2 : w2.cell? ⟨w1.heap.size, 2, none⟩ = some (.int .i64 va) := Q2.cell 2))
            go_ret
            exact ⟨by rw [HM.out]; rfl, B2.out⟩
          | false =>
            cases h2 : (va == 2) with
            | true =>
              rw [h2, h0] at HM
              go_enter Tryd.func10, Tryd.ntmps10
              go_wp2_with (first
                | (go_at_call 21; refine (HF.out _).mono ?_; rintro e w1 ⟨rfl, b1⟩; have R1 := R0.call b1; have c1 := R1.cell 1; have hlt := R1.lt; have B1 := Lib.hid (b0.trans (b1.mono b0.size)))
                | (go_at_call 15; refine (HC.out _).mono ?_; rintro e w2 ⟨rfl, b2⟩; have B2 := Lib.hid ((B1.out.alloc B1.out.size (.cells #[.string ⟨vn.toArray⟩, .int .i64 vk, .int .i64 va, .bool vp] 37)).trans (b2.mono (by have := B1.out.size; simp; omega))); have R2 := (R1.alloc (.cells #[.string ⟨vn.toArray⟩, .int .i64 vk, .int .i64 va, .bool vp] 37)).call b2; have Q2 := (IsRow.made w1 37 #[.string ⟨vn.toArray⟩, .int .i64 vk, .int .i64 va, .bool vp]).call b2; have d0 : w2.cell? ⟨w.heap.size, 0, none⟩ = some (.string ⟨v.toArray⟩) := R2.cell 0; have d1 : w2.cell? ⟨w.heap.size, 1, none⟩ = some (.string ⟨a.toArray⟩) := R2.cell 1; have q0 : w2.cell? ⟨w1.heap.size, 0, none⟩ = some (.string ⟨vn.toArray⟩) := Q2.cell 0; have q2 : w2.cell? ⟨w1.heap.size, 2, none⟩ = some (.int .i64 va) := Q2.cell 2))
              go_ret
              exact ⟨by rw [HM.out]; rfl, B2.out⟩
            | false =>
              rw [h2, h0] at HM
              go_enter Tryd.func10, Tryd.ntmps10
              go_wp2_with (first
                | (go_at_call 21; refine (HF.out _).mono ?_; rintro e w1 ⟨rfl, b1⟩; have R1 := R0.call b1; have c1 := R1.cell 1; have hlt := R1.lt; have B1 := Lib.hid (b0.trans (b1.mono b0.size)))
                | (go_at_call 15; refine (HC.out _).mono ?_; rintro e w2 ⟨rfl, b2⟩; have B2 := Lib.hid ((B1.out.alloc B1.out.size (.cells #[.string ⟨vn.toArray⟩, .int .i64 vk, .int .i64 va, .bool vp] 37)).trans (b2.mono (by have := B1.out.size; simp; omega))); have R2 := (R1.alloc (.cells #[.string ⟨vn.toArray⟩, .int .i64 vk, .int .i64 va, .bool vp] 37)).call b2; have Q2 := (IsRow.made w1 37 #[.string ⟨vn.toArray⟩, .int .i64 vk, .int .i64 va, .bool vp]).call b2; have d0 : w2.cell? ⟨w.heap.size, 0, none⟩ = some (.string ⟨v.toArray⟩) := R2.cell 0; have d1 : w2.cell? ⟨w.heap.size, 1, none⟩ = some (.string ⟨a.toArray⟩) := R2.cell 1; have q0 : w2.cell? ⟨w1.heap.size, 0, none⟩ = some (.string ⟨vn.toArray⟩) := Q2.cell 0; have q2 : w2.cell? ⟨w1.heap.size, 2, none⟩ = some (.int .i64 va) := Q2.cell 2))
              go_ret
              exact ⟨by rw [HM.out]; rfl, B2.out⟩

set_option maxHeartbeats 4000000 in
set_option maxRecDepth 100000 in
theorem rprint_any (v a : List UInt8) (hv : v.length ≤ 100000) (ha : a.length ≤ 100000) (w : World) : Calls Tryd.prog 12 #[cmdV v a] w fun e w' => e = .returned (.tuple #[.string ⟨(print v a).1.toArray⟩, .bool (print v a).2]) ∧ Below w.heap.size w w' := by
  have HM := Lib.hid (fun W => rmay_any v a hv ha W)
  have HP : Hid (print v a = if may v a then (line v a, true) else ([], false)) := Lib.hid rfl
  have HL : Hid (line v a = if a = [] then v else v ++ 32 :: a) := Lib.hid rfl
  generalize may v a = m at HM HP
  have R0 : IsRow (w.alloc (.cells #[.string ⟨v.toArray⟩, .string ⟨a.toArray⟩] 23)) w.heap.size 23 #[.string ⟨v.toArray⟩, .string ⟨a.toArray⟩] := IsRow.made w _ _
  have b0 : Below w.heap.size w (w.alloc (.cells #[.string ⟨v.toArray⟩, .string ⟨a.toArray⟩] 23)) := (Below.refl _ w).alloc (Nat.le_refl _) _
  cases m with
  | false =>
    go_enter Tryd.func12, Tryd.ntmps12
    go_wp2_with (go_at_call 10; refine (HM.out _).mono ?_; rintro e w1 ⟨rfl, b1⟩; have B1 := Lib.hid (b0.trans (b1.mono b0.size)))
    go_ret2
    exact ⟨by rw [HP.out]; rfl, B1.out⟩
  | true =>
    cases he : (a == []) with
    | true =>
      have HV : Hid (print v a = (v, true)) := Lib.hid (by have e := beq_iff_eq.1 he; rw [HP.out, HL.out]; simp [e])
      go_enter Tryd.func12, Tryd.ntmps12
      go_wp2_with (go_at_call 10; refine (HM.out _).mono ?_; rintro e w1 ⟨rfl, b1⟩; have R1 := R0.call b1; have d0 : w1.cell? ⟨w.heap.size, 0, none⟩ = some (.string ⟨v.toArray⟩) := R1.cell 0; have d1 : w1.cell? ⟨w.heap.size, 1, none⟩ = some (.string ⟨a.toArray⟩) := R1.cell 1; have B1 := Lib.hid (b0.trans (b1.mono b0.size)))
      go_ret2
      exact ⟨by rw [HV.out]; rfl, B1.out⟩
    | false =>
      have HV : Hid (print v a = (v ++ 32 :: a, true)) := Lib.hid (by have e := beq_eq_false_iff_ne.1 he; rw [HP.out, HL.out]; simp [e])
      have HS : Hid ((ByteArray.mk v.toArray ++ ByteArray.mk #[32] ++ ByteArray.mk a.toArray) = ⟨(v ++ 32 :: a).toArray⟩) := Lib.hid (by apply ByteArray.ext; simp [ByteArray.data_append])
      go_enter Tryd.func12, Tryd.ntmps12
      go_wp2_with (go_at_call 10; refine (HM.out _).mono ?_; rintro e w1 ⟨rfl, b1⟩; have R1 := R0.call b1; have d0 : w1.cell? ⟨w.heap.size, 0, none⟩ = some (.string ⟨v.toArray⟩) := R1.cell 0; have d1 : w1.cell? ⟨w.heap.size, 1, none⟩ = some (.string ⟨a.toArray⟩) := R1.cell 1; have B1 := Lib.hid (b0.trans (b1.mono b0.size)))
      go_ret2
      exact ⟨by rw [HV.out, ← HS.out]; rfl, B1.out⟩

#print axioms rmay_any
end Go.Proofs.YtginmhmeepjbhaaDoor.Cm
