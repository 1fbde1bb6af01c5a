/- The contracts of the document's answer of layer 9: wharfingerref09's ends, May, Same, Texts. -/
import Derived.Test.YtbojjbnmjhblfaaDoorReplyPlain
import Derived.Test.YtbojjbnmjhblfaaDoorTexts
import Derived.Test.YtbojjbnmjhblfaaDoorClean
import Derived.Test.YtbojjbnmjhblfaaDoorNumRef
import Derived.Deep.RegionWith
import Derived.BigQuiet
namespace Go.Proofs.YtbojjbnmjhblfaaDoor.Rp
open Go.Proofs.YtbojjbnmjhblfaaDoor Go.Proofs.YtbojjbnmjhblfaaDoor.Cm Go.Proofs.YtbojjbnmjhblfaaDoor.Quad
open Go Go.ChangeShapes Go.WideShapes Go.ChangeAt Go.RowKit
set_option maxRecDepth 100000
set_option linter.unusedSimpArgs false

set_option maxHeartbeats 4000000 in
theorem rends_any (code : Int) (lo : -9223372036854775808 ≤ code) (hi : code ≤ 9223372036854775807) (s : List UInt8) (w : World) :
    Calls Tryd.prog 19 #[.int .i64 code, .string ⟨s.toArray⟩] w fun e w' => e = .returned (.bool (ends code s)) ∧ w' = w := by
  have HN := Lib.hid (fun W => rnum_any code lo hi W)
  have hd := itoa_most lo hi
  have HE : Hid (ends code s = ((s == Lib.itoa code) || (decide ((Lib.itoa code).length + 1 ≤ s.length) && (s.take ((Lib.itoa code).length + 1) == Lib.itoa code ++ [32])))) := Lib.hid rfl
  generalize ends code s = r at HE ⊢
  generalize Lib.itoa code = d at HN hd HE
  cases h1 : (s == d) with
  | true =>
    rw [h1] at HE
    go_enter Tryd.func19, Tryd.ntmps19
    go_wp2_with (go_at_call 22; refine (HN.out _).mono ?_; rintro e w1 ⟨rfl, rfl⟩)
    go_ret
    exact ⟨by rw [HE.out] <;> rfl, by first | rfl | trivial⟩
  | false =>
    rw [h1] at HE
    by_cases h2 : d.length + 1 ≤ s.length
    · have g2 : ((d.length : Int) + 1) ≤ (s.length : Int) := by omega
      have n0 : ¬ 9223372036854775807 < d.length + 1 := by omega
      have hle : d.length + 1 ≤ (ByteArray.mk s.toArray).size := by rw [size_mk]; exact h2
      rw [decide_eq_true h2] at HE
      obtain ⟨t, ht⟩ : ∃ t, t = s.take (d.length + 1) := ⟨_, rfl⟩
      obtain ⟨q, hq⟩ : ∃ q, q = d ++ [32] := ⟨_, rfl⟩
      have hx1 : (ByteArray.mk s.toArray).extract 0 (d.length + 1) = ⟨t.toArray⟩ := by rw [ht]; apply ByteArray.ext; simp [ByteArray.data_extract]
      have hx2 : ByteArray.mk d.toArray ++ ByteArray.mk #[32] = ⟨q.toArray⟩ := by rw [hq]; apply ByteArray.ext; simp [ByteArray.data_append]
      rw [← ht, ← hq] at HE
      clear ht hq
      cases h3 : (t == q) with
      | true =>
        rw [h3] at HE
        go_enter Tryd.func19, Tryd.ntmps19
        go_wp2_with (go_at_call 22; refine (HN.out _).mono ?_; rintro e w1 ⟨rfl, rfl⟩)
        go_ret
        exact ⟨by rw [HE.out] <;> rfl, by first | rfl | trivial⟩
      | false =>
        rw [h3] at HE
        go_enter Tryd.func19, Tryd.ntmps19
        go_wp2_with (go_at_call 22; refine (HN.out _).mono ?_; rintro e w1 ⟨rfl, rfl⟩)
        go_ret
        exact ⟨by rw [HE.out] <;> rfl, by first | rfl | trivial⟩
    · have g2 : ¬ ((d.length : Int) + 1) ≤ (s.length : Int) := by omega
      rw [decide_eq_false h2] at HE
      go_enter Tryd.func19, Tryd.ntmps19
      go_wp2_with (go_at_call 22; refine (HN.out _).mono ?_; rintro e w1 ⟨rfl, rfl⟩)
      go_ret
      exact ⟨by rw [HE.out] <;> rfl, by first | rfl | trivial⟩

/-! may a reply be? -/
theorem may_upto {code : Int} {l : Ls} (h1 : 100 ≤ code) (h2 : code ≤ 599) (h3 : 1 ≤ l.length) (h4 : l.length ≤ 20) : mayB code l = okUpto code l l.length := by
  unfold mayB
  rw [decide_eq_true h1, decide_eq_true h2, decide_eq_true h3, decide_eq_true h4]
  rfl
theorem may_not {code : Int} {l : Ls} (h : ¬ (100 ≤ code ∧ code ≤ 599 ∧ 1 ≤ l.length ∧ l.length ≤ 20)) : mayB code l = false := by
  cases hm : mayB code l with
  | false => rfl
  | true => exact absurd ⟨(may_parts hm).lo, (may_parts hm).hi, (may_parts hm).one, (may_parts hm).few⟩ h

set_option maxHeartbeats 8000000 in
theorem rmay_any (code : Int) (lo : -9223372036854775808 ≤ code) (hi : code ≤ 9223372036854775807) (u : Value) (l : Ls) (hz : ∀ s ∈ l, s.length ≤ 9223372036854775807) (w : World) (Y : TextsIs w u l) :
    Calls Tryd.prog 10 #[replyV code u] w fun e w' => e = .returned (.bool (mayB code l)) ∧ Below w.heap.size w w' := by
  have YH := Lib.hid Y
  obtain ⟨p0, c0, rfl⟩ := Y.form
  clear Y
  have b0 : Below w.heap.size w (w.alloc (.cells #[.int .i64 code, .slice p0 l.length c0] 24)) := (Below.refl _ w).alloc (Nat.le_refl _) _
  have R0 : IsRow (w.alloc (.cells #[.int .i64 code, .slice p0 l.length c0] 24)) w.heap.size 24 #[.int .i64 code, .slice p0 l.length c0] := IsRow.made w _ _
  by_cases h1 : code < 100
  · have HV := Lib.hid (may_not (code := code) (l := l) (by omega))
    have B0 := Lib.hid b0
    clear R0 b0
    go_enter Tryd.func10, Tryd.ntmps10
    go_wp2_with fail
    go_ret
    exact ⟨by rw [HV.out] <;> rfl, B0.out⟩
  by_cases h2 : 599 < code
  · have HV := Lib.hid (may_not (code := code) (l := l) (by omega))
    have B0 := Lib.hid b0
    clear R0 b0
    go_enter Tryd.func10, Tryd.ntmps10
    go_wp2_with fail
    go_ret
    exact ⟨by rw [HV.out] <;> rfl, B0.out⟩
  by_cases h3 : l.length < 1
  · have HV := Lib.hid (may_not (code := code) (l := l) (by omega))
    have g3 : (l.length : Int) < 1 := by omega
    have B0 := Lib.hid b0
    clear R0 b0
    go_enter Tryd.func10, Tryd.ntmps10
    go_wp2_with fail
    go_ret
    exact ⟨by rw [HV.out] <;> rfl, B0.out⟩
  have g3 : ¬ (l.length : Int) < 1 := by omega
  by_cases h4 : 20 < l.length
  · have HV := Lib.hid (may_not (code := code) (l := l) (by omega))
    have g4 : (20 : Int) < (l.length : Int) := by omega
    have B0 := Lib.hid b0
    clear R0 b0
    go_enter Tryd.func10, Tryd.ntmps10
    go_wp2_with fail
    go_ret
    exact ⟨by rw [HV.out] <;> rfl, B0.out⟩
  have g4 : ¬ (20 : Int) < (l.length : Int) := by omega
  have HM := Lib.hid (may_upto (code := code) (l := l) (by omega) (by omega) (by omega) (by omega))
  obtain ⟨a, rfl, _, hab, hcell⟩ := YH.out.some (by omega)
  have HCE := Lib.hid hcell
  have B0 := Lib.hid b0
  have RH := Lib.hid R0
  have hzs := Lib.hid hz
  clear hcell YH R0 b0 hz
  have hlt0 : w.heap.size < (w.alloc (.cells #[.int .i64 code, .slice (some a) l.length c0] 24)).heap.size := by simp
  go_enter Tryd.func10, Tryd.ntmps10
  go_wp2_with fail
  go_loopw [4] (fun x4 wr => ∃ (k : Nat), x4 = .int .i64 (k : Int) ∧ k ≤ l.length ∧ Hid (okUpto code l k = true) ∧ Hid (Below w.heap.size w wr) ∧ Hid (IsRow wr w.heap.size 24 #[.int .i64 code, .slice (some a) l.length c0])) (fun i _ => l.length - (intOf i).toNat)
  case atStart => exact ⟨0, rfl, Nat.zero_le _, Lib.hid rfl, B0, RH⟩
  case round =>
    obtain ⟨k, rfl, hk, HO, HB, HR⟩ := hrel
    by_cases hlt : k < l.length
    · have hji : (k : Int) < (l.length : Int) := by omega
      have q0 := HR.out.cell 0
      have q1 := HR.out.cell 1
      have hc : wr.cell? (a.add k) = some (.string ⟨l[k].toArray⟩) := by rw [HB.out.cell (by rw [add_block]; exact hab)]; exact HCE.out k hlt
      have HN : Hid (okUpto code l (k + 1) = okAt code l.length k l[k]) := Lib.hid (by rw [ok_next hlt, HO.out, Bool.true_and])
      have HX : Hid (okAt code l.length k l[k] = false → okUpto code l l.length = false) := Lib.hid (fun h => ok_no hlt hlt h)
      have HOK : Hid (okAt code l.length k l[k] = (clean l[k] && decide (l[k].length ≤ 500) && !(decide (0 < k) && decide (k + 1 < l.length) && ends code l[k]))) := Lib.hid rfl
      have HC := Lib.hid (fun W => rclean_same l[k] (hzs.out _ (List.getElem_mem hlt)) W)
      have HE := Lib.hid (fun W => rends_any code lo hi l[k] W)
      generalize okAt code l.length k l[k] = ok at HN HX HOK
      generalize l[k] = t at *
      generalize clean t = cl at HC HOK
      generalize ends code t = en at HE HOK
      clear hzs HO HCE
      go_wp2_with (go_at_call 18; refine (HC.out _).mono ?_; rintro e w1 ⟨rfl, rfl⟩)
      go_region_with (go_at_call 19; refine (HE.out _).mono ?_; rintro e w1 ⟨rfl, rfl⟩)
      all_goals (
        clear HC HE
        cases cl with
        | false =>
          have HV : Hid (mayB code l = false) := Lib.hid (by rw [HM.out]; exact HX.out (by rw [HOK.out]; simp))
          clear HN HX HOK
          go_wp2_with fail
          go_ret
          exact ⟨by rw [HV.out] <;> rfl, HB.out.drew⟩
        | true =>
          by_cases h5 : 500 < t.length
          · have g5 : (500 : Int) < (t.length : Int) := by omega
            have HV : Hid (mayB code l = false) := Lib.hid (by rw [HM.out]; exact HX.out (by rw [HOK.out]; simp <;> omega))
            clear HN HX HOK
            go_wp2_with fail
            go_ret
            exact ⟨by rw [HV.out] <;> rfl, HB.out.drew⟩
          · have g5 : ¬ (500 : Int) < (t.length : Int) := by omega
            by_cases h6 : 0 < k
            · have g6 : (0 : Int) < (k : Int) := by omega
              by_cases h7 : k + 1 < l.length
              · have g7 : (k : Int) < (l.length : Int) - 1 := by omega
                cases en with
                | true =>
                  have HV : Hid (mayB code l = false) := Lib.hid (by rw [HM.out]; exact HX.out (by rw [HOK.out]; simp <;> omega))
                  clear HN HX HOK
                  go_wp2_with fail
                  go_ret
                  exact ⟨by rw [HV.out] <;> rfl, HB.out.drew⟩
                | false =>
                  have HV : Hid (okUpto code l (k + 1) = true) := Lib.hid (by rw [HN.out, HOK.out]; simp <;> omega)
                  clear HN HX HOK
                  go_wp2_with fail
                  go_roundw
                  case rel => exact ⟨k + 1, by go_num, by omega, HV, Lib.hid HB.out.drew, Lib.hid HR.out.drew⟩
                  case measure => simp [intOf]; omega
              · have g7 : ¬ (k : Int) < (l.length : Int) - 1 := by omega
                have HV : Hid (okUpto code l (k + 1) = true) := Lib.hid (by rw [HN.out, HOK.out, decide_eq_false h7]; simp <;> omega)
                clear HN HX HOK
                go_wp2_with fail
                go_roundw
                case rel => exact ⟨k + 1, by go_num, by omega, HV, Lib.hid HB.out.drew, Lib.hid HR.out.drew⟩
                case measure => simp [intOf]; omega
            · have g6 : ¬ (0 : Int) < (k : Int) := by omega
              have HV : Hid (okUpto code l (k + 1) = true) := Lib.hid (by rw [HN.out, HOK.out, decide_eq_false h6]; simp <;> omega)
              clear HN HX HOK
              go_wp2_with fail
              go_roundw
              case rel => exact ⟨k + 1, by go_num, by omega, HV, Lib.hid HB.out.drew, Lib.hid HR.out.drew⟩
              case measure => simp [intOf]; omega
        )
    · have hji : ¬ (k : Int) < (l.length : Int) := by omega
      have HV : Hid (mayB code l = true) := Lib.hid (by have := HO.out; rw [show k = l.length from by omega] at this; rw [HM.out]; exact this)
      have q0 := HR.out.cell 0
      have q1 := HR.out.cell 1
      go_wp2_with fail
      go_ret
      exact ⟨by rw [HV.out] <;> rfl, HB.out⟩

#print axioms rends_any
end Go.Proofs.YtbojjbnmjhblfaaDoor.Rp
