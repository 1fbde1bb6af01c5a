/- The contracts of reply.May, Same and Print. -/
import Derived.Test.YtdimfppijcebjaaGreatDoorReplyEnd
import Derived.Test.YtdimfppijcebjaaGreatDoorReplySlices
import Derived.Test.YtdimfppijcebjaaGreatDoorReplySame
namespace Go.Proofs.YtdimfppijcebjaaGreatDoor.Rp
open Go.Proofs.YtdimfppijcebjaaGreatDoor Go.Proofs.YtdimfppijcebjaaGreatDoor.Cm Go.Proofs.YtdimfppijcebjaaGreatDoor.Quad
open Go Go.ChangeShapes Go.WideShapes Go.ChangeAt Go.RowKit
set_option maxRecDepth 100000
set_option linter.unusedSimpArgs false

set_option maxHeartbeats 8000000 in
theorem may_any (code : Int) (lo : -9223372036854775808 ≤ code) (hi : code ≤ 9223372036854775807) (u : Value) (l : Ls) (hz : ∀ s ∈ l, s.length ≤ 9223372036854775807) (w : World) (E : Env w) (Y : TextsIs w u l) :
    Calls Tryz.prog 19 #[replyV code u] w fun e w' => e = .returned (.bool (mayB code l)) ∧ Below w.heap.size w w' := by
  have YH := Lib.hid Y
  have hmx := Y.max
  obtain ⟨p0, c0, rfl⟩ := Y.form
  clear Y
  have b0 : Below w.heap.size w (w.alloc (.cells #[.int .i64 code, .slice p0 l.length c0] 26)) := (Below.refl _ w).alloc (Nat.le_refl _) _
  have R0 : IsRow (w.alloc (.cells #[.int .i64 code, .slice p0 l.length c0] 26)) w.heap.size 26 #[.int .i64 code, .slice p0 l.length c0] := IsRow.made w _ _
  have HI := Lib.hid (fun W => isCode_any code W)
  by_cases h1 : 100 ≤ code ∧ code ≤ 599
  case neg =>
    have HV := Lib.hid (may_not (code := code) (l := l) (by omega))
    rw [show (decide (100 ≤ code) && decide (code ≤ 599)) = false from by rw [Bool.and_eq_false_iff, decide_eq_false_iff_not, decide_eq_false_iff_not]; omega] at HI
    have B0 := Lib.hid b0
    clear R0 b0 h1
    go_enter Tryz.func19, Tryz.ntmps19
    go_wp2_with (go_at_call 39; refine (HI.out _).mono ?_; rintro e w1 ⟨rfl, rfl⟩)
    go_ret
    exact ⟨by rw [HV.out] <;> rfl, B0.out⟩
  rw [show (decide (100 ≤ code) && decide (code ≤ 599)) = true from by rw [decide_eq_true h1.1, decide_eq_true h1.2]; rfl] at HI
  by_cases h3 : l.length < 1
  · have HV := Lib.hid (may_not (code := code) (l := l) (by omega))
    have g3 : wrap64 ((l.length : Int) - 1) < 0 := by unfold wrap64; omega
    have B0 := Lib.hid b0
    clear R0 b0 h1
    go_enter Tryz.func19, Tryz.ntmps19
    go_wp2_with (go_at_call 39; refine (HI.out _).mono ?_; rintro e w1 ⟨rfl, rfl⟩)
    go_ret
    exact ⟨by rw [HV.out] <;> rfl, B0.out⟩
  have g3 : ¬ (l.length : Int) - 1 < 0 := by omega
  by_cases h4 : 20 < l.length
  · have HV := Lib.hid (may_not (code := code) (l := l) (by omega))
    have g4 : (20 : Int) ≤ (l.length : Int) - 1 := by omega
    have B0 := Lib.hid b0
    clear R0 b0 h1
    go_enter Tryz.func19, Tryz.ntmps19
    go_wp2_with (go_at_call 39; refine (HI.out _).mono ?_; rintro e w1 ⟨rfl, rfl⟩)
    go_ret
    exact ⟨by rw [HV.out] <;> rfl, B0.out⟩
  have g4 : ¬ (20 : Int) ≤ (l.length : Int) - 1 := by omega
  have HM := Lib.hid (may_upto (code := code) (l := l) h1.1 h1.2 (by omega) (by omega))
  obtain ⟨a, rfl, _, hab, hcell⟩ := YH.out.some (by omega)
  have HCE := Lib.hid hcell
  have B0 := Lib.hid b0
  have RH := Lib.hid R0
  have hzs := Lib.hid hz
  clear hcell YH R0 b0 hz h1
  have hlt0 : w.heap.size < (w.alloc (.cells #[.int .i64 code, .slice (some a) l.length c0] 26)).heap.size := by simp
  go_enter Tryz.func19, Tryz.ntmps19
  go_wp2_with (go_at_call 39; refine (HI.out _).mono ?_; rintro e w1 ⟨rfl, rfl⟩)
  go_loopw [28] (fun x28 wr => ∃ (k : Nat), x28 = .int .i64 (k : Int) ∧ k ≤ l.length ∧ Hid (okUpto code l k = true) ∧ Hid (Below w.heap.size w wr) ∧ Hid (IsRow wr w.heap.size 26 #[.int .i64 code, .slice (some a) l.length c0])) (fun i _ => l.length - (intOf i).toNat)
  case atStart => exact ⟨0, rfl, Nat.zero_le _, Lib.hid rfl, B0, RH⟩
  case round =>
    obtain ⟨k, rfl, hk, HO, HB, HR⟩ := hrel
    by_cases hlt : k < l.length
    · have hji : (k : Int) < (l.length : Int) := by omega
      have q0 := HR.out.cell 0
      have q1 := HR.out.cell 1
      have hc : wr.cell? (a.add k) = some (.string ⟨l[k].toArray⟩) := by rw [HB.out.cell (by rw [add_block]; exact hab)]; exact HCE.out k hlt
      have HN : Hid (okUpto code l (k + 1) = okAt code l.length k l[k]) := Lib.hid (by rw [ok_next hlt, HO.out, Bool.true_and])
      have HX : Hid (okAt code l.length k l[k] = false → okUpto code l l.length = false) := Lib.hid (fun h => ok_no hlt hlt h)
      have HOK : Hid (okAt code l.length k l[k] = (clean l[k] && decide (l[k].length ≤ 500) && !(decide (0 < k) && decide (k + 1 < l.length) && ends code l[k]))) := Lib.hid rfl
      have HT := Lib.hid (fun W => isText_any l[k] (hzs.out _ (List.getElem_mem hlt)) 500 W)
      have HE := Lib.hid (fun W EW => cutEnd_any code lo hi l[k] (hzs.out _ (List.getElem_mem hlt)) W EW)
      generalize okAt code l.length k l[k] = ok at HN HX HOK
      generalize l[k] = t at *
      have HX2 : Hid (((decide (t.length ≤ 500) && clean t) && !(decide (0 < k) && decide (k + 1 < l.length) && ends code t)) = ok) := Lib.hid (by rw [HOK.out, Bool.and_comm (decide _) (clean t)])
      clear HOK
      generalize (decide (t.length ≤ 500) && clean t) = cl at HT HX2
      generalize ends code t = en at HE HX2
      generalize cutT code t = tx at HE
      have EW : Env wr := E.below HB.out
      clear hzs HO HCE
      have HRR := Lib.hid HR.out
      by_cases h6 : 0 < k
      case neg =>
        have g6 : ¬ (0 : Int) < (k : Int) := by omega
        rw [decide_eq_false h6] at HX2
        cases cl with
        | false =>
          have HV : Hid (mayB code l = false) := Lib.hid (by rw [HM.out]; exact HX.out (by rw [← HX2.out]; rfl))
          clear HN HX HX2
          go_wp2_with (first
            | (go_at_call 40; refine (HE.out _ EW).mono ?_; rintro e w1 ⟨rfl, b1⟩; have B1 := Lib.hid (HB.out.trans (b1.mono HB.out.size)); have R1 := Lib.hid (HRR.out.call b1))
            | (go_at_call 41; refine (HT.out _).mono ?_; rintro e w2 ⟨rfl, rfl⟩))
          go_ret
          exact ⟨by rw [HV.out] <;> rfl, B1.out⟩
        | true =>
          have HV : Hid (okUpto code l (k + 1) = true) := Lib.hid (by rw [HN.out, ← HX2.out]; rfl)
          clear HN HX HX2
          go_wp2_with (first
            | (go_at_call 40; refine (HE.out _ EW).mono ?_; rintro e w1 ⟨rfl, b1⟩; have B1 := Lib.hid (HB.out.trans (b1.mono HB.out.size)); have R1 := Lib.hid (HRR.out.call b1))
            | (go_at_call 41; refine (HT.out _).mono ?_; rintro e w2 ⟨rfl, rfl⟩))
          go_roundw
          case rel => exact ⟨k + 1, by go_num, by omega, HV, B1, R1⟩
          case measure => simp [intOf]; omega
      case pos =>
        have g6 : (0 : Int) < (k : Int) := by omega
        rw [decide_eq_true h6] at HX2
        by_cases h7 : k + 1 < l.length
        case neg =>
          have g7 : ¬ (k : Int) < (l.length : Int) - 1 := by omega
          rw [decide_eq_false h7] at HX2
          cases cl with
          | false =>
            have HV : Hid (mayB code l = false) := Lib.hid (by rw [HM.out]; exact HX.out (by rw [← HX2.out]; rfl))
            clear HN HX HX2
            go_wp2_with (first
              | (go_at_call 40; refine (HE.out _ EW).mono ?_; rintro e w1 ⟨rfl, b1⟩; have B1 := Lib.hid (HB.out.trans (b1.mono HB.out.size)); have R1 := Lib.hid (HRR.out.call b1))
              | (go_at_call 41; refine (HT.out _).mono ?_; rintro e w2 ⟨rfl, rfl⟩))
            go_ret
            exact ⟨by rw [HV.out] <;> rfl, B1.out⟩
          | true =>
            have HV : Hid (okUpto code l (k + 1) = true) := Lib.hid (by rw [HN.out, ← HX2.out]; rfl)
            clear HN HX HX2
            go_wp2_with (first
              | (go_at_call 40; refine (HE.out _ EW).mono ?_; rintro e w1 ⟨rfl, b1⟩; have B1 := Lib.hid (HB.out.trans (b1.mono HB.out.size)); have R1 := Lib.hid (HRR.out.call b1))
              | (go_at_call 41; refine (HT.out _).mono ?_; rintro e w2 ⟨rfl, rfl⟩))
            go_roundw
            case rel => exact ⟨k + 1, by go_num, by omega, HV, B1, R1⟩
            case measure => simp [intOf]; omega
        case pos =>
          have g7 : (k : Int) < (l.length : Int) - 1 := by omega
          rw [decide_eq_true h7] at HX2
          cases cl with
          | false =>
            have HV : Hid (mayB code l = false) := Lib.hid (by rw [HM.out]; exact HX.out (by rw [← HX2.out]; rfl))
            clear HN HX HX2
            go_wp2_with (first
              | (go_at_call 40; refine (HE.out _ EW).mono ?_; rintro e w1 ⟨rfl, b1⟩; have B1 := Lib.hid (HB.out.trans (b1.mono HB.out.size)); have R1 := Lib.hid (HRR.out.call b1))
              | (go_at_call 41; refine (HT.out _).mono ?_; rintro e w2 ⟨rfl, rfl⟩))
            go_ret
            exact ⟨by rw [HV.out] <;> rfl, B1.out⟩
          | true =>
            cases en with
            | true =>
              have HV : Hid (mayB code l = false) := Lib.hid (by rw [HM.out]; exact HX.out (by rw [← HX2.out]; rfl))
              clear HN HX HX2
              go_wp2_with (first
                | (go_at_call 40; refine (HE.out _ EW).mono ?_; rintro e w1 ⟨rfl, b1⟩; have B1 := Lib.hid (HB.out.trans (b1.mono HB.out.size)); have R1 := Lib.hid (HRR.out.call b1))
                | (go_at_call 41; refine (HT.out _).mono ?_; rintro e w2 ⟨rfl, rfl⟩))
              go_ret
              exact ⟨by rw [HV.out] <;> rfl, B1.out⟩
            | false =>
              have HV : Hid (okUpto code l (k + 1) = true) := Lib.hid (by rw [HN.out, ← HX2.out]; rfl)
              clear HN HX HX2
              go_wp2_with (first
                | (go_at_call 40; refine (HE.out _ EW).mono ?_; rintro e w1 ⟨rfl, b1⟩; have B1 := Lib.hid (HB.out.trans (b1.mono HB.out.size)); have R1 := Lib.hid (HRR.out.call b1))
                | (go_at_call 41; refine (HT.out _).mono ?_; rintro e w2 ⟨rfl, rfl⟩))
              go_roundw
              case rel => exact ⟨k + 1, by go_num, by omega, HV, B1, R1⟩
              case measure => simp [intOf]; omega
    · have hji : ¬ (k : Int) < (l.length : Int) := by omega
      have HV : Hid (mayB code l = true) := Lib.hid (by have := HO.out; rw [show k = l.length from by omega] at this; rw [HM.out]; exact this)
      have q0 := HR.out.cell 0
      have q1 := HR.out.cell 1
      go_wp2_with fail
      go_ret
      exact ⟨by rw [HV.out] <;> rfl, HB.out⟩


#print axioms may_any
end Go.Proofs.YtdimfppijcebjaaGreatDoor.Rp
