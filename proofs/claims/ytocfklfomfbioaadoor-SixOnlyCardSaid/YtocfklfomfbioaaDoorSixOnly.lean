/- Proved: for every two ends and every text the law SixOnly answers true: no two ends are written alike, and what has no brackets has none. Conditions: none beyond the row's own (the library's variables start as the program's text lays them: the card ties them). -/
import Derived.Test.YtocfklfomfbioaaDoorSixAwake
import Derived.Test.YtocfklfomfbioaaDoorEndArg
import Derived.Test.YtocfklfomfbioaaDoorCards
import Derived.Test.YtocfklfomfbioaaDoorSixFacts
namespace Go.Proofs.YtocfklfomfbioaaDoor.sixOnly
open Go.Proofs.YtocfklfomfbioaaDoor Go.Proofs.YtocfklfomfbioaaDoor.Quad Go.Proofs.YtocfklfomfbioaaDoor.Six
open Go.ChangeShapes Go.WideShapes Go.ChangeAt Go.RowKit Go.Sort Go.ChangeMaps
theorem alike {a b c d p a' b' c' d' p' : Int} : ∃ bb : Bool, (sixL a b c d p == sixL a' b' c' d' p') = bb ∧ ((a == a' && b == b' && c == c' && d == d') && p == p') = bb := by
  refine ⟨_, rfl, ?_⟩
  by_cases h : sixL a b c d p = sixL a' b' c' d' p'
  · obtain ⟨rfl, rfl, rfl, rfl, rfl⟩ := six_inj h
    simp
  · rw [beq_eq_false_iff_ne.2 h]
    cases e : ((a == a' && b == b' && c == c' && d == d') && p == p') with
    | false => rfl
    | true =>
      simp only [Bool.and_eq_true, beq_iff_eq] at e
      obtain ⟨⟨⟨⟨rfl, rfl⟩, rfl⟩, rfl⟩, rfl⟩ := e
      exact absurd rfl h

set_option linter.unusedVariables false in
set_option maxHeartbeats 2000000 in
set_option maxRecDepth 100000 in
theorem walk (a0 b0 c0 d0 o0 : Int) (a0l : 0 ≤ a0) (a0h : a0 ≤ 255) (b0l : 0 ≤ b0) (b0h : b0 ≤ 255) (c0l : 0 ≤ c0) (c0h : c0 ≤ 255) (d0l : 0 ≤ d0) (d0h : d0 ≤ 255) (o0l : -9223372036854775808 ≤ o0) (o0h : o0 ≤ 9223372036854775807) (a1 b1 c1 d1 o1 : Int) (a1l : 0 ≤ a1) (a1h : a1 ≤ 255) (b1l : 0 ≤ b1) (b1h : b1 ≤ 255) (c1l : 0 ≤ c1) (c1h : c1 ≤ 255) (d1l : 0 ≤ d1) (d1h : d1 ≤ 255) (o1l : -9223372036854775808 ≤ o1) (o1h : o1 ≤ 9223372036854775807) (s2 : List UInt8) (z2 : s2.length ≤ 9223372036854775807) (w : World) (E : Env w) :
    Calls Tryd.prog 5 #[endV a0 b0 c0 d0 o0, endV a1 b1 c1 d1 o1, str s2] w fun e w' => e = .returned (.bool true) ∧ Below w.heap.size w w' := by
  by_cases c100 : 100 < s2.length
  · go_enter Tryd.func5, Tryd.ntmps5
    go_wp2_with (go_at_call 8; refine (awake_any _ ?_).mono ?_)
    · exact (E.alloc _).alloc _
    rintro e w1 ⟨rfl, m1⟩
    go_wp2_with fail
    go_ret
    exact ⟨rfl, (((Below.refl _ _).alloc (Nat.le_refl _) _).alloc (by simp) _).trans (m1.mono (by simp; omega))⟩
  by_cases hpa : 0 ≤ o0 ∧ o0 ≤ 65535
  · by_cases hpb : 0 ≤ o1 ∧ o1 ≤ 65535
    · have CA := Lib.hid (fun W (EW : Env W) => text_yes a0 b0 c0 d0 o0 a0l a0h b0l b0h c0l c0h d0l d0h hpa.1 hpa.2 W EW)
      have CB := Lib.hid (fun W (EW : Env W) => text_yes a1 b1 c1 d1 o1 a1l a1h b1l b1h c1l c1h d1l d1h hpb.1 hpb.2 W EW)
      obtain ⟨bb, hxy, hab⟩ : ∃ bb : Bool, (sixL a0 b0 c0 d0 o0 == sixL a1 b1 c1 d1 o1) = bb ∧ ((a0 == a1 && b0 == b1 && c0 == c1 && d0 == d1) && o0 == o1) = bb := alike
      have hz0 : ∀ W, (Op.equalIn 10000 25 (endV a0 b0 c0 d0 o0) (endV a1 b1 c1 d1 o1)).run Tryd.prog W = .ok bb W := fun W => by rw [equal_ends, hab]
      clear hab
      generalize sixL a0 b0 c0 d0 o0 = la at CA hxy
      generalize sixL a1 b1 c1 d1 o1 = lb at CB hxy
      clear hpa hpb
      go_enter Tryd.func5, Tryd.ntmps5
      go_wp2_with (go_at_call 8; refine (awake_any _ ?_).mono ?_)
      · exact (E.alloc _).alloc _
      rintro e w1 ⟨rfl, m1⟩
      have B1 : Below w.heap.size w w1 := (((Below.refl _ _).alloc (Nat.le_refl _) _).alloc (by simp) _).trans (m1.mono (by simp; omega))
      have R1 : IsRow w1 w.heap.size 25 #[.int .u8 a0, .int .u8 b0, .int .u8 c0, .int .u8 d0, .int .i64 o0] := ((IsRow.made w _ _).alloc _).call m1
      have S1 : IsRow w1 (w.heap.size + 1) 25 #[.int .u8 a1, .int .u8 b1, .int .u8 c1, .int .u8 d1, .int .i64 o1] := by have := (IsRow.made (w.alloc (.cells #[.int .u8 a0, .int .u8 b0, .int .u8 c0, .int .u8 d0, .int .i64 o0] 25)) 25 #[.int .u8 a1, .int .u8 b1, .int .u8 c1, .int .u8 d1, .int .i64 o1]).call m1; simpa using this
      clear m1
      have x0 : w1.cell? ⟨w.heap.size, 0, none⟩ = some (.int .u8 a0) := R1.cell 0
      have x1 : w1.cell? ⟨w.heap.size, 1, none⟩ = some (.int .u8 b0) := R1.cell 1
      have x2 : w1.cell? ⟨w.heap.size, 2, none⟩ = some (.int .u8 c0) := R1.cell 2
      have x3 : w1.cell? ⟨w.heap.size, 3, none⟩ = some (.int .u8 d0) := R1.cell 3
      have x4 : w1.cell? ⟨w.heap.size, 4, none⟩ = some (.int .i64 o0) := R1.cell 4
      go_wp2_with (go_at_call 9; refine (CA.out _ ?_).mono ?_)
      · exact E.below B1
      rintro e w2 ⟨rfl, m2⟩
      have B2 := below_trans B1 m2
      have R2 := R1.call m2
      have S2 := S1.call m2
      clear m2 x0 x1 x2 x3 x4 R1 S1 B1
      have y0 : w2.cell? ⟨w.heap.size + 1, 0, none⟩ = some (.int .u8 a1) := S2.cell 0
      have y1 : w2.cell? ⟨w.heap.size + 1, 1, none⟩ = some (.int .u8 b1) := S2.cell 1
      have y2 : w2.cell? ⟨w.heap.size + 1, 2, none⟩ = some (.int .u8 c1) := S2.cell 2
      have y3 : w2.cell? ⟨w.heap.size + 1, 3, none⟩ = some (.int .u8 d1) := S2.cell 3
      have y4 : w2.cell? ⟨w.heap.size + 1, 4, none⟩ = some (.int .i64 o1) := S2.cell 4
      go_wp2_with (go_at_call 9; refine (CB.out _ ?_).mono ?_)
      · exact E.below B2
      rintro e w3 ⟨rfl, m3⟩
      have B3 := below_trans B2 m3
      have R3 := R2.call m3
      have S3 := S2.call m3
      clear m3 y0 y1 y2 y3 y4 R2 S2 B2
      have x0 : w3.cell? ⟨w.heap.size, 0, none⟩ = some (.int .u8 a0) := R3.cell 0
      have x1 : w3.cell? ⟨w.heap.size, 1, none⟩ = some (.int .u8 b0) := R3.cell 1
      have x2 : w3.cell? ⟨w.heap.size, 2, none⟩ = some (.int .u8 c0) := R3.cell 2
      have x3 : w3.cell? ⟨w.heap.size, 3, none⟩ = some (.int .u8 d0) := R3.cell 3
      have x4 : w3.cell? ⟨w.heap.size, 4, none⟩ = some (.int .i64 o0) := R3.cell 4
      have y0 : w3.cell? ⟨w.heap.size + 1, 0, none⟩ = some (.int .u8 a1) := S3.cell 0
      have y1 : w3.cell? ⟨w.heap.size + 1, 1, none⟩ = some (.int .u8 b1) := S3.cell 1
      have y2 : w3.cell? ⟨w.heap.size + 1, 2, none⟩ = some (.int .u8 c1) := S3.cell 2
      have y3 : w3.cell? ⟨w.heap.size + 1, 3, none⟩ = some (.int .u8 d1) := S3.cell 3
      have y4 : w3.cell? ⟨w.heap.size + 1, 4, none⟩ = some (.int .i64 o1) := S3.cell 4
      go_wp2_with fail
      clear x0 x1 x2 x3 x4 y0 y1 y2 y3 y4
      go_loop [12, 13, 14] (fun op sh i => ∃ (k : Nat) (o s : Bool), k ≤ s2.length ∧ i = .int .i64 k ∧ op = .bool o ∧ sh = .bool s ∧ Hid (marks (s2.take k) = (o, s))) (fun _ _ i => s2.length - (intOf i).toNat)
      case atStart => exact ⟨0, false, false, Nat.zero_le _, rfl, rfl, rfl, Lib.hid rfl⟩
      case round =>
        obtain ⟨k, o, s, hk, rfl, rfl, rfl, hs⟩ := hrel
        by_cases hlt : k < s2.length
        · have hsz : k < (ByteArray.mk s2.toArray).size := by rw [size_of]; exact hlt
          have hx : (ByteArray.mk s2.toArray)[k]'hsz = s2[k] := rfl
          have d40 : (((((ByteArray.mk s2.toArray)[k]'hsz).toNat : Int) == 40)) = decide (s2[k] = 40) := by
            rw [hx]
            by_cases h : s2[k] = 40
            · rw [h]; rfl
            · rw [decide_eq_false h, beq_eq_false_iff_ne]; intro e; exact h (UInt8.toNat.inj (by show s2[k].toNat = 40; omega))
          have d41 : (((((ByteArray.mk s2.toArray)[k]'hsz).toNat : Int) == 41)) = decide (s2[k] = 41) := by
            rw [hx]
            by_cases h : s2[k] = 41
            · rw [h]; rfl
            · rw [decide_eq_false h, beq_eq_false_iff_ne]; intro e; exact h (UInt8.toNat.inj (by show s2[k].toNat = 41; omega))
          have hn : Hid (marks (s2.take (k + 1)) = (o || decide (s2[k] = 40), s || (o && decide (s2[k] = 41)))) := Lib.hid (by rw [marks_next hlt, hs.out]; rfl)
          clear hx
          generalize decide (s2[k] = 40) = x at d40 hn
          generalize decide (s2[k] = 41) = y at d41 hn
          cases o with
          | false =>
            cases s with
            | false =>
              cases x with
              | false =>
                cases y with
                | false =>
                  go_wp2_with fail
                  go_round
                  case rel => exact ⟨k + 1, false, false, by omega, by go_num, rfl, rfl, hn⟩
                  case measure => simp [intOf]; omega
                | true =>
                  go_wp2_with fail
                  go_round
                  case rel => exact ⟨k + 1, false, false, by omega, by go_num, rfl, rfl, hn⟩
                  case measure => simp [intOf]; omega
              | true =>
                cases y with
                | false =>
                  go_wp2_with fail
                  go_round
                  case rel => exact ⟨k + 1, true, false, by omega, by go_num, rfl, rfl, hn⟩
                  case measure => simp [intOf]; omega
                | true =>
                  go_wp2_with fail
                  go_round
                  case rel => exact ⟨k + 1, true, false, by omega, by go_num, rfl, rfl, hn⟩
                  case measure => simp [intOf]; omega
            | true =>
              cases x with
              | false =>
                cases y with
                | false =>
                  go_wp2_with fail
                  go_round
                  case rel => exact ⟨k + 1, false, true, by omega, by go_num, rfl, rfl, hn⟩
                  case measure => simp [intOf]; omega
                | true =>
                  go_wp2_with fail
                  go_round
                  case rel => exact ⟨k + 1, false, true, by omega, by go_num, rfl, rfl, hn⟩
                  case measure => simp [intOf]; omega
              | true =>
                cases y with
                | false =>
                  go_wp2_with fail
                  go_round
                  case rel => exact ⟨k + 1, true, true, by omega, by go_num, rfl, rfl, hn⟩
                  case measure => simp [intOf]; omega
                | true =>
                  go_wp2_with fail
                  go_round
                  case rel => exact ⟨k + 1, true, true, by omega, by go_num, rfl, rfl, hn⟩
                  case measure => simp [intOf]; omega
          | true =>
            cases s with
            | false =>
              cases x with
              | false =>
                cases y with
                | false =>
                  go_wp2_with fail
                  go_round
                  case rel => exact ⟨k + 1, true, false, by omega, by go_num, rfl, rfl, hn⟩
                  case measure => simp [intOf]; omega
                | true =>
                  go_wp2_with fail
                  go_round
                  case rel => exact ⟨k + 1, true, true, by omega, by go_num, rfl, rfl, hn⟩
                  case measure => simp [intOf]; omega
              | true =>
                cases y with
                | false =>
                  go_wp2_with fail
                  go_round
                  case rel => exact ⟨k + 1, true, false, by omega, by go_num, rfl, rfl, hn⟩
                  case measure => simp [intOf]; omega
                | true =>
                  go_wp2_with fail
                  go_round
                  case rel => exact ⟨k + 1, true, true, by omega, by go_num, rfl, rfl, hn⟩
                  case measure => simp [intOf]; omega
            | true =>
              cases x with
              | false =>
                cases y with
                | false =>
                  go_wp2_with fail
                  go_round
                  case rel => exact ⟨k + 1, true, true, by omega, by go_num, rfl, rfl, hn⟩
                  case measure => simp [intOf]; omega
                | true =>
                  go_wp2_with fail
                  go_round
                  case rel => exact ⟨k + 1, true, true, by omega, by go_num, rfl, rfl, hn⟩
                  case measure => simp [intOf]; omega
              | true =>
                cases y with
                | false =>
                  go_wp2_with fail
                  go_round
                  case rel => exact ⟨k + 1, true, true, by omega, by go_num, rfl, rfl, hn⟩
                  case measure => simp [intOf]; omega
                | true =>
                  go_wp2_with fail
                  go_round
                  case rel => exact ⟨k + 1, true, true, by omega, by go_num, rfl, rfl, hn⟩
                  case measure => simp [intOf]; omega
        · obtain rfl : k = s2.length := by omega
          have hs2 := hs.out
          rw [List.take_length] at hs2
          cases hF : sixB (insL s2) with
          | true =>
            obtain ⟨q, hq⟩ := find_some hF
            have h2 := mark_ins s2 q hq
            rw [hs2] at h2
            simp only at h2
            subst h2
            have CF := Lib.hid (fun W (EW : Env W) => find_any s2 (by omega) W EW)
            unfold readV at CF
            rw [hF] at CF
            generalize sixN (insL s2) 0 = r0 at CF
            generalize sixN (insL s2) 1 = r1 at CF
            generalize sixN (insL s2) 2 = r2 at CF
            generalize sixN (insL s2) 3 = r3 at CF
            generalize sixP (insL s2) = r4 at CF
            clear hF hq hs2
            go_wp2_with (go_at_call 13; refine (CF.out _ ?_).mono ?_)
            · exact E.below B3
            rintro e w9 rfl m9
            have B9 := below_trans B3 m9
            clear m9
            go_wp2_with fail
            go_ret
            exact ⟨rfl, B9.alloc B9.size _⟩
          | false =>
            have CF := Lib.hid (fun W (EW : Env W) => find_any s2 (by omega) W EW)
            rw [read_none hF] at CF
            have hz : ∀ W, (Op.equalIn 10000 25 (endV 0 0 0 0 0) (endV 0 0 0 0 0)).run Tryd.prog W = .ok true W := fun W => by rw [equal_ends]; rfl
            clear hF hs2
            go_wp2_with (go_at_call 13; refine (CF.out _ ?_).mono ?_)
            · exact E.below B3
            rintro e w9 rfl m9
            have B9 := below_trans B3 m9
            clear m9
            go_wp2_with fail
            go_ret
            exact ⟨rfl, B9.alloc B9.size _⟩
    · have CA := Lib.hid (fun W (EW : Env W) => text_yes a0 b0 c0 d0 o0 a0l a0h b0l b0h c0l c0h d0l d0h hpa.1 hpa.2 W EW)
      have CB := Lib.hid (fun W (_ : Env W) => text_no a1 b1 c1 d1 o1 o1l o1h (by omega) W)
      clear hpa hpb
      go_enter Tryd.func5, Tryd.ntmps5
      go_wp2_with (go_at_call 8; refine (awake_any _ ?_).mono ?_)
      · exact (E.alloc _).alloc _
      rintro e w1 ⟨rfl, m1⟩
      have B1 : Below w.heap.size w w1 := (((Below.refl _ _).alloc (Nat.le_refl _) _).alloc (by simp) _).trans (m1.mono (by simp; omega))
      have R1 : IsRow w1 w.heap.size 25 #[.int .u8 a0, .int .u8 b0, .int .u8 c0, .int .u8 d0, .int .i64 o0] := ((IsRow.made w _ _).alloc _).call m1
      have S1 : IsRow w1 (w.heap.size + 1) 25 #[.int .u8 a1, .int .u8 b1, .int .u8 c1, .int .u8 d1, .int .i64 o1] := by have := (IsRow.made (w.alloc (.cells #[.int .u8 a0, .int .u8 b0, .int .u8 c0, .int .u8 d0, .int .i64 o0] 25)) 25 #[.int .u8 a1, .int .u8 b1, .int .u8 c1, .int .u8 d1, .int .i64 o1]).call m1; simpa using this
      clear m1
      have x0 : w1.cell? ⟨w.heap.size, 0, none⟩ = some (.int .u8 a0) := R1.cell 0
      have x1 : w1.cell? ⟨w.heap.size, 1, none⟩ = some (.int .u8 b0) := R1.cell 1
      have x2 : w1.cell? ⟨w.heap.size, 2, none⟩ = some (.int .u8 c0) := R1.cell 2
      have x3 : w1.cell? ⟨w.heap.size, 3, none⟩ = some (.int .u8 d0) := R1.cell 3
      have x4 : w1.cell? ⟨w.heap.size, 4, none⟩ = some (.int .i64 o0) := R1.cell 4
      go_wp2_with (go_at_call 9; refine (CA.out _ ?_).mono ?_)
      · exact E.below B1
      rintro e w2 ⟨rfl, m2⟩
      have B2 := below_trans B1 m2
      have R2 := R1.call m2
      have S2 := S1.call m2
      clear m2 x0 x1 x2 x3 x4 R1 S1 B1
      have y0 : w2.cell? ⟨w.heap.size + 1, 0, none⟩ = some (.int .u8 a1) := S2.cell 0
      have y1 : w2.cell? ⟨w.heap.size + 1, 1, none⟩ = some (.int .u8 b1) := S2.cell 1
      have y2 : w2.cell? ⟨w.heap.size + 1, 2, none⟩ = some (.int .u8 c1) := S2.cell 2
      have y3 : w2.cell? ⟨w.heap.size + 1, 3, none⟩ = some (.int .u8 d1) := S2.cell 3
      have y4 : w2.cell? ⟨w.heap.size + 1, 4, none⟩ = some (.int .i64 o1) := S2.cell 4
      go_wp2_with (go_at_call 9; refine (CB.out _ ?_).mono ?_)
      · exact E.below B2
      rintro e w3 ⟨rfl, m3⟩
      have B3 := below_trans B2 m3
      have R3 := R2.call m3
      have S3 := S2.call m3
      clear m3 y0 y1 y2 y3 y4 R2 S2 B2
      have x0 : w3.cell? ⟨w.heap.size, 0, none⟩ = some (.int .u8 a0) := R3.cell 0
      have x1 : w3.cell? ⟨w.heap.size, 1, none⟩ = some (.int .u8 b0) := R3.cell 1
      have x2 : w3.cell? ⟨w.heap.size, 2, none⟩ = some (.int .u8 c0) := R3.cell 2
      have x3 : w3.cell? ⟨w.heap.size, 3, none⟩ = some (.int .u8 d0) := R3.cell 3
      have x4 : w3.cell? ⟨w.heap.size, 4, none⟩ = some (.int .i64 o0) := R3.cell 4
      have y0 : w3.cell? ⟨w.heap.size + 1, 0, none⟩ = some (.int .u8 a1) := S3.cell 0
      have y1 : w3.cell? ⟨w.heap.size + 1, 1, none⟩ = some (.int .u8 b1) := S3.cell 1
      have y2 : w3.cell? ⟨w.heap.size + 1, 2, none⟩ = some (.int .u8 c1) := S3.cell 2
      have y3 : w3.cell? ⟨w.heap.size + 1, 3, none⟩ = some (.int .u8 d1) := S3.cell 3
      have y4 : w3.cell? ⟨w.heap.size + 1, 4, none⟩ = some (.int .i64 o1) := S3.cell 4
      go_wp2_with fail
      clear x0 x1 x2 x3 x4 y0 y1 y2 y3 y4
      go_loop [12, 13, 14] (fun op sh i => ∃ (k : Nat) (o s : Bool), k ≤ s2.length ∧ i = .int .i64 k ∧ op = .bool o ∧ sh = .bool s ∧ Hid (marks (s2.take k) = (o, s))) (fun _ _ i => s2.length - (intOf i).toNat)
      case atStart => exact ⟨0, false, false, Nat.zero_le _, rfl, rfl, rfl, Lib.hid rfl⟩
      case round =>
        obtain ⟨k, o, s, hk, rfl, rfl, rfl, hs⟩ := hrel
        by_cases hlt : k < s2.length
        · have hsz : k < (ByteArray.mk s2.toArray).size := by rw [size_of]; exact hlt
          have hx : (ByteArray.mk s2.toArray)[k]'hsz = s2[k] := rfl
          have d40 : (((((ByteArray.mk s2.toArray)[k]'hsz).toNat : Int) == 40)) = decide (s2[k] = 40) := by
            rw [hx]
            by_cases h : s2[k] = 40
            · rw [h]; rfl
            · rw [decide_eq_false h, beq_eq_false_iff_ne]; intro e; exact h (UInt8.toNat.inj (by show s2[k].toNat = 40; omega))
          have d41 : (((((ByteArray.mk s2.toArray)[k]'hsz).toNat : Int) == 41)) = decide (s2[k] = 41) := by
            rw [hx]
            by_cases h : s2[k] = 41
            · rw [h]; rfl
            · rw [decide_eq_false h, beq_eq_false_iff_ne]; intro e; exact h (UInt8.toNat.inj (by show s2[k].toNat = 41; omega))
          have hn : Hid (marks (s2.take (k + 1)) = (o || decide (s2[k] = 40), s || (o && decide (s2[k] = 41)))) := Lib.hid (by rw [marks_next hlt, hs.out]; rfl)
          clear hx
          generalize decide (s2[k] = 40) = x at d40 hn
          generalize decide (s2[k] = 41) = y at d41 hn
          cases o with
          | false =>
            cases s with
            | false =>
              cases x with
              | false =>
                cases y with
                | false =>
                  go_wp2_with fail
                  go_round
                  case rel => exact ⟨k + 1, false, false, by omega, by go_num, rfl, rfl, hn⟩
                  case measure => simp [intOf]; omega
                | true =>
                  go_wp2_with fail
                  go_round
                  case rel => exact ⟨k + 1, false, false, by omega, by go_num, rfl, rfl, hn⟩
                  case measure => simp [intOf]; omega
              | true =>
                cases y with
                | false =>
                  go_wp2_with fail
                  go_round
                  case rel => exact ⟨k + 1, true, false, by omega, by go_num, rfl, rfl, hn⟩
                  case measure => simp [intOf]; omega
                | true =>
                  go_wp2_with fail
                  go_round
                  case rel => exact ⟨k + 1, true, false, by omega, by go_num, rfl, rfl, hn⟩
                  case measure => simp [intOf]; omega
            | true =>
              cases x with
              | false =>
                cases y with
                | false =>
                  go_wp2_with fail
                  go_round
                  case rel => exact ⟨k + 1, false, true, by omega, by go_num, rfl, rfl, hn⟩
                  case measure => simp [intOf]; omega
                | true =>
                  go_wp2_with fail
                  go_round
                  case rel => exact ⟨k + 1, false, true, by omega, by go_num, rfl, rfl, hn⟩
                  case measure => simp [intOf]; omega
              | true =>
                cases y with
                | false =>
                  go_wp2_with fail
                  go_round
                  case rel => exact ⟨k + 1, true, true, by omega, by go_num, rfl, rfl, hn⟩
                  case measure => simp [intOf]; omega
                | true =>
                  go_wp2_with fail
                  go_round
                  case rel => exact ⟨k + 1, true, true, by omega, by go_num, rfl, rfl, hn⟩
                  case measure => simp [intOf]; omega
          | true =>
            cases s with
            | false =>
              cases x with
              | false =>
                cases y with
                | false =>
                  go_wp2_with fail
                  go_round
                  case rel => exact ⟨k + 1, true, false, by omega, by go_num, rfl, rfl, hn⟩
                  case measure => simp [intOf]; omega
                | true =>
                  go_wp2_with fail
                  go_round
                  case rel => exact ⟨k + 1, true, true, by omega, by go_num, rfl, rfl, hn⟩
                  case measure => simp [intOf]; omega
              | true =>
                cases y with
                | false =>
                  go_wp2_with fail
                  go_round
                  case rel => exact ⟨k + 1, true, false, by omega, by go_num, rfl, rfl, hn⟩
                  case measure => simp [intOf]; omega
                | true =>
                  go_wp2_with fail
                  go_round
                  case rel => exact ⟨k + 1, true, true, by omega, by go_num, rfl, rfl, hn⟩
                  case measure => simp [intOf]; omega
            | true =>
              cases x with
              | false =>
                cases y with
                | false =>
                  go_wp2_with fail
                  go_round
                  case rel => exact ⟨k + 1, true, true, by omega, by go_num, rfl, rfl, hn⟩
                  case measure => simp [intOf]; omega
                | true =>
                  go_wp2_with fail
                  go_round
                  case rel => exact ⟨k + 1, true, true, by omega, by go_num, rfl, rfl, hn⟩
                  case measure => simp [intOf]; omega
              | true =>
                cases y with
                | false =>
                  go_wp2_with fail
                  go_round
                  case rel => exact ⟨k + 1, true, true, by omega, by go_num, rfl, rfl, hn⟩
                  case measure => simp [intOf]; omega
                | true =>
                  go_wp2_with fail
                  go_round
                  case rel => exact ⟨k + 1, true, true, by omega, by go_num, rfl, rfl, hn⟩
                  case measure => simp [intOf]; omega
        · obtain rfl : k = s2.length := by omega
          have hs2 := hs.out
          rw [List.take_length] at hs2
          cases hF : sixB (insL s2) with
          | true =>
            obtain ⟨q, hq⟩ := find_some hF
            have h2 := mark_ins s2 q hq
            rw [hs2] at h2
            simp only at h2
            subst h2
            have CF := Lib.hid (fun W (EW : Env W) => find_any s2 (by omega) W EW)
            unfold readV at CF
            rw [hF] at CF
            generalize sixN (insL s2) 0 = r0 at CF
            generalize sixN (insL s2) 1 = r1 at CF
            generalize sixN (insL s2) 2 = r2 at CF
            generalize sixN (insL s2) 3 = r3 at CF
            generalize sixP (insL s2) = r4 at CF
            clear hF hq hs2
            go_wp2_with (go_at_call 13; refine (CF.out _ ?_).mono ?_)
            · exact E.below B3
            rintro e w9 rfl m9
            have B9 := below_trans B3 m9
            clear m9
            go_wp2_with fail
            go_ret
            exact ⟨rfl, B9.alloc B9.size _⟩
          | false =>
            have CF := Lib.hid (fun W (EW : Env W) => find_any s2 (by omega) W EW)
            rw [read_none hF] at CF
            have hz : ∀ W, (Op.equalIn 10000 25 (endV 0 0 0 0 0) (endV 0 0 0 0 0)).run Tryd.prog W = .ok true W := fun W => by rw [equal_ends]; rfl
            clear hF hs2
            go_wp2_with (go_at_call 13; refine (CF.out _ ?_).mono ?_)
            · exact E.below B3
            rintro e w9 rfl m9
            have B9 := below_trans B3 m9
            clear m9
            go_wp2_with fail
            go_ret
            exact ⟨rfl, B9.alloc B9.size _⟩
  · by_cases hpb : 0 ≤ o1 ∧ o1 ≤ 65535
    · have CA := Lib.hid (fun W (_ : Env W) => text_no a0 b0 c0 d0 o0 o0l o0h (by omega) W)
      have CB := Lib.hid (fun W (EW : Env W) => text_yes a1 b1 c1 d1 o1 a1l a1h b1l b1h c1l c1h d1l d1h hpb.1 hpb.2 W EW)
      clear hpa hpb
      go_enter Tryd.func5, Tryd.ntmps5
      go_wp2_with (go_at_call 8; refine (awake_any _ ?_).mono ?_)
      · exact (E.alloc _).alloc _
      rintro e w1 ⟨rfl, m1⟩
      have B1 : Below w.heap.size w w1 := (((Below.refl _ _).alloc (Nat.le_refl _) _).alloc (by simp) _).trans (m1.mono (by simp; omega))
      have R1 : IsRow w1 w.heap.size 25 #[.int .u8 a0, .int .u8 b0, .int .u8 c0, .int .u8 d0, .int .i64 o0] := ((IsRow.made w _ _).alloc _).call m1
      have S1 : IsRow w1 (w.heap.size + 1) 25 #[.int .u8 a1, .int .u8 b1, .int .u8 c1, .int .u8 d1, .int .i64 o1] := by have := (IsRow.made (w.alloc (.cells #[.int .u8 a0, .int .u8 b0, .int .u8 c0, .int .u8 d0, .int .i64 o0] 25)) 25 #[.int .u8 a1, .int .u8 b1, .int .u8 c1, .int .u8 d1, .int .i64 o1]).call m1; simpa using this
      clear m1
      have x0 : w1.cell? ⟨w.heap.size, 0, none⟩ = some (.int .u8 a0) := R1.cell 0
      have x1 : w1.cell? ⟨w.heap.size, 1, none⟩ = some (.int .u8 b0) := R1.cell 1
      have x2 : w1.cell? ⟨w.heap.size, 2, none⟩ = some (.int .u8 c0) := R1.cell 2
      have x3 : w1.cell? ⟨w.heap.size, 3, none⟩ = some (.int .u8 d0) := R1.cell 3
      have x4 : w1.cell? ⟨w.heap.size, 4, none⟩ = some (.int .i64 o0) := R1.cell 4
      go_wp2_with (go_at_call 9; refine (CA.out _ ?_).mono ?_)
      · exact E.below B1
      rintro e w2 ⟨rfl, m2⟩
      have B2 := below_trans B1 m2
      have R2 := R1.call m2
      have S2 := S1.call m2
      clear m2 x0 x1 x2 x3 x4 R1 S1 B1
      have y0 : w2.cell? ⟨w.heap.size + 1, 0, none⟩ = some (.int .u8 a1) := S2.cell 0
      have y1 : w2.cell? ⟨w.heap.size + 1, 1, none⟩ = some (.int .u8 b1) := S2.cell 1
      have y2 : w2.cell? ⟨w.heap.size + 1, 2, none⟩ = some (.int .u8 c1) := S2.cell 2
      have y3 : w2.cell? ⟨w.heap.size + 1, 3, none⟩ = some (.int .u8 d1) := S2.cell 3
      have y4 : w2.cell? ⟨w.heap.size + 1, 4, none⟩ = some (.int .i64 o1) := S2.cell 4
      go_wp2_with (go_at_call 9; refine (CB.out _ ?_).mono ?_)
      · exact E.below B2
      rintro e w3 ⟨rfl, m3⟩
      have B3 := below_trans B2 m3
      have R3 := R2.call m3
      have S3 := S2.call m3
      clear m3 y0 y1 y2 y3 y4 R2 S2 B2
      have x0 : w3.cell? ⟨w.heap.size, 0, none⟩ = some (.int .u8 a0) := R3.cell 0
      have x1 : w3.cell? ⟨w.heap.size, 1, none⟩ = some (.int .u8 b0) := R3.cell 1
      have x2 : w3.cell? ⟨w.heap.size, 2, none⟩ = some (.int .u8 c0) := R3.cell 2
      have x3 : w3.cell? ⟨w.heap.size, 3, none⟩ = some (.int .u8 d0) := R3.cell 3
      have x4 : w3.cell? ⟨w.heap.size, 4, none⟩ = some (.int .i64 o0) := R3.cell 4
      have y0 : w3.cell? ⟨w.heap.size + 1, 0, none⟩ = some (.int .u8 a1) := S3.cell 0
      have y1 : w3.cell? ⟨w.heap.size + 1, 1, none⟩ = some (.int .u8 b1) := S3.cell 1
      have y2 : w3.cell? ⟨w.heap.size + 1, 2, none⟩ = some (.int .u8 c1) := S3.cell 2
      have y3 : w3.cell? ⟨w.heap.size + 1, 3, none⟩ = some (.int .u8 d1) := S3.cell 3
      have y4 : w3.cell? ⟨w.heap.size + 1, 4, none⟩ = some (.int .i64 o1) := S3.cell 4
      go_wp2_with fail
      clear x0 x1 x2 x3 x4 y0 y1 y2 y3 y4
      go_loop [12, 13, 14] (fun op sh i => ∃ (k : Nat) (o s : Bool), k ≤ s2.length ∧ i = .int .i64 k ∧ op = .bool o ∧ sh = .bool s ∧ Hid (marks (s2.take k) = (o, s))) (fun _ _ i => s2.length - (intOf i).toNat)
      case atStart => exact ⟨0, false, false, Nat.zero_le _, rfl, rfl, rfl, Lib.hid rfl⟩
      case round =>
        obtain ⟨k, o, s, hk, rfl, rfl, rfl, hs⟩ := hrel
        by_cases hlt : k < s2.length
        · have hsz : k < (ByteArray.mk s2.toArray).size := by rw [size_of]; exact hlt
          have hx : (ByteArray.mk s2.toArray)[k]'hsz = s2[k] := rfl
          have d40 : (((((ByteArray.mk s2.toArray)[k]'hsz).toNat : Int) == 40)) = decide (s2[k] = 40) := by
            rw [hx]
            by_cases h : s2[k] = 40
            · rw [h]; rfl
            · rw [decide_eq_false h, beq_eq_false_iff_ne]; intro e; exact h (UInt8.toNat.inj (by show s2[k].toNat = 40; omega))
          have d41 : (((((ByteArray.mk s2.toArray)[k]'hsz).toNat : Int) == 41)) = decide (s2[k] = 41) := by
            rw [hx]
            by_cases h : s2[k] = 41
            · rw [h]; rfl
            · rw [decide_eq_false h, beq_eq_false_iff_ne]; intro e; exact h (UInt8.toNat.inj (by show s2[k].toNat = 41; omega))
          have hn : Hid (marks (s2.take (k + 1)) = (o || decide (s2[k] = 40), s || (o && decide (s2[k] = 41)))) := Lib.hid (by rw [marks_next hlt, hs.out]; rfl)
          clear hx
          generalize decide (s2[k] = 40) = x at d40 hn
          generalize decide (s2[k] = 41) = y at d41 hn
          cases o with
          | false =>
            cases s with
            | false =>
              cases x with
              | false =>
                cases y with
                | false =>
                  go_wp2_with fail
                  go_round
                  case rel => exact ⟨k + 1, false, false, by omega, by go_num, rfl, rfl, hn⟩
                  case measure => simp [intOf]; omega
                | true =>
                  go_wp2_with fail
                  go_round
                  case rel => exact ⟨k + 1, false, false, by omega, by go_num, rfl, rfl, hn⟩
                  case measure => simp [intOf]; omega
              | true =>
                cases y with
                | false =>
                  go_wp2_with fail
                  go_round
                  case rel => exact ⟨k + 1, true, false, by omega, by go_num, rfl, rfl, hn⟩
                  case measure => simp [intOf]; omega
                | true =>
                  go_wp2_with fail
                  go_round
                  case rel => exact ⟨k + 1, true, false, by omega, by go_num, rfl, rfl, hn⟩
                  case measure => simp [intOf]; omega
            | true =>
              cases x with
              | false =>
                cases y with
                | false =>
                  go_wp2_with fail
                  go_round
                  case rel => exact ⟨k + 1, false, true, by omega, by go_num, rfl, rfl, hn⟩
                  case measure => simp [intOf]; omega
                | true =>
                  go_wp2_with fail
                  go_round
                  case rel => exact ⟨k + 1, false, true, by omega, by go_num, rfl, rfl, hn⟩
                  case measure => simp [intOf]; omega
              | true =>
                cases y with
                | false =>
                  go_wp2_with fail
                  go_round
                  case rel => exact ⟨k + 1, true, true, by omega, by go_num, rfl, rfl, hn⟩
                  case measure => simp [intOf]; omega
                | true =>
                  go_wp2_with fail
                  go_round
                  case rel => exact ⟨k + 1, true, true, by omega, by go_num, rfl, rfl, hn⟩
                  case measure => simp [intOf]; omega
          | true =>
            cases s with
            | false =>
              cases x with
              | false =>
                cases y with
                | false =>
                  go_wp2_with fail
                  go_round
                  case rel => exact ⟨k + 1, true, false, by omega, by go_num, rfl, rfl, hn⟩
                  case measure => simp [intOf]; omega
                | true =>
                  go_wp2_with fail
                  go_round
                  case rel => exact ⟨k + 1, true, true, by omega, by go_num, rfl, rfl, hn⟩
                  case measure => simp [intOf]; omega
              | true =>
                cases y with
                | false =>
                  go_wp2_with fail
                  go_round
                  case rel => exact ⟨k + 1, true, false, by omega, by go_num, rfl, rfl, hn⟩
                  case measure => simp [intOf]; omega
                | true =>
                  go_wp2_with fail
                  go_round
                  case rel => exact ⟨k + 1, true, true, by omega, by go_num, rfl, rfl, hn⟩
                  case measure => simp [intOf]; omega
            | true =>
              cases x with
              | false =>
                cases y with
                | false =>
                  go_wp2_with fail
                  go_round
                  case rel => exact ⟨k + 1, true, true, by omega, by go_num, rfl, rfl, hn⟩
                  case measure => simp [intOf]; omega
                | true =>
                  go_wp2_with fail
                  go_round
                  case rel => exact ⟨k + 1, true, true, by omega, by go_num, rfl, rfl, hn⟩
                  case measure => simp [intOf]; omega
              | true =>
                cases y with
                | false =>
                  go_wp2_with fail
                  go_round
                  case rel => exact ⟨k + 1, true, true, by omega, by go_num, rfl, rfl, hn⟩
                  case measure => simp [intOf]; omega
                | true =>
                  go_wp2_with fail
                  go_round
                  case rel => exact ⟨k + 1, true, true, by omega, by go_num, rfl, rfl, hn⟩
                  case measure => simp [intOf]; omega
        · obtain rfl : k = s2.length := by omega
          have hs2 := hs.out
          rw [List.take_length] at hs2
          cases hF : sixB (insL s2) with
          | true =>
            obtain ⟨q, hq⟩ := find_some hF
            have h2 := mark_ins s2 q hq
            rw [hs2] at h2
            simp only at h2
            subst h2
            have CF := Lib.hid (fun W (EW : Env W) => find_any s2 (by omega) W EW)
            unfold readV at CF
            rw [hF] at CF
            generalize sixN (insL s2) 0 = r0 at CF
            generalize sixN (insL s2) 1 = r1 at CF
            generalize sixN (insL s2) 2 = r2 at CF
            generalize sixN (insL s2) 3 = r3 at CF
            generalize sixP (insL s2) = r4 at CF
            clear hF hq hs2
            go_wp2_with (go_at_call 13; refine (CF.out _ ?_).mono ?_)
            · exact E.below B3
            rintro e w9 rfl m9
            have B9 := below_trans B3 m9
            clear m9
            go_wp2_with fail
            go_ret
            exact ⟨rfl, B9.alloc B9.size _⟩
          | false =>
            have CF := Lib.hid (fun W (EW : Env W) => find_any s2 (by omega) W EW)
            rw [read_none hF] at CF
            have hz : ∀ W, (Op.equalIn 10000 25 (endV 0 0 0 0 0) (endV 0 0 0 0 0)).run Tryd.prog W = .ok true W := fun W => by rw [equal_ends]; rfl
            clear hF hs2
            go_wp2_with (go_at_call 13; refine (CF.out _ ?_).mono ?_)
            · exact E.below B3
            rintro e w9 rfl m9
            have B9 := below_trans B3 m9
            clear m9
            go_wp2_with fail
            go_ret
            exact ⟨rfl, B9.alloc B9.size _⟩
    · have CA := Lib.hid (fun W (_ : Env W) => text_no a0 b0 c0 d0 o0 o0l o0h (by omega) W)
      have CB := Lib.hid (fun W (_ : Env W) => text_no a1 b1 c1 d1 o1 o1l o1h (by omega) W)
      clear hpa hpb
      go_enter Tryd.func5, Tryd.ntmps5
      go_wp2_with (go_at_call 8; refine (awake_any _ ?_).mono ?_)
      · exact (E.alloc _).alloc _
      rintro e w1 ⟨rfl, m1⟩
      have B1 : Below w.heap.size w w1 := (((Below.refl _ _).alloc (Nat.le_refl _) _).alloc (by simp) _).trans (m1.mono (by simp; omega))
      have R1 : IsRow w1 w.heap.size 25 #[.int .u8 a0, .int .u8 b0, .int .u8 c0, .int .u8 d0, .int .i64 o0] := ((IsRow.made w _ _).alloc _).call m1
      have S1 : IsRow w1 (w.heap.size + 1) 25 #[.int .u8 a1, .int .u8 b1, .int .u8 c1, .int .u8 d1, .int .i64 o1] := by have := (IsRow.made (w.alloc (.cells #[.int .u8 a0, .int .u8 b0, .int .u8 c0, .int .u8 d0, .int .i64 o0] 25)) 25 #[.int .u8 a1, .int .u8 b1, .int .u8 c1, .int .u8 d1, .int .i64 o1]).call m1; simpa using this
      clear m1
      have x0 : w1.cell? ⟨w.heap.size, 0, none⟩ = some (.int .u8 a0) := R1.cell 0
      have x1 : w1.cell? ⟨w.heap.size, 1, none⟩ = some (.int .u8 b0) := R1.cell 1
      have x2 : w1.cell? ⟨w.heap.size, 2, none⟩ = some (.int .u8 c0) := R1.cell 2
      have x3 : w1.cell? ⟨w.heap.size, 3, none⟩ = some (.int .u8 d0) := R1.cell 3
      have x4 : w1.cell? ⟨w.heap.size, 4, none⟩ = some (.int .i64 o0) := R1.cell 4
      go_wp2_with (go_at_call 9; refine (CA.out _ ?_).mono ?_)
      · exact E.below B1
      rintro e w2 ⟨rfl, m2⟩
      have B2 := below_trans B1 m2
      have R2 := R1.call m2
      have S2 := S1.call m2
      clear m2 x0 x1 x2 x3 x4 R1 S1 B1
      have y0 : w2.cell? ⟨w.heap.size + 1, 0, none⟩ = some (.int .u8 a1) := S2.cell 0
      have y1 : w2.cell? ⟨w.heap.size + 1, 1, none⟩ = some (.int .u8 b1) := S2.cell 1
      have y2 : w2.cell? ⟨w.heap.size + 1, 2, none⟩ = some (.int .u8 c1) := S2.cell 2
      have y3 : w2.cell? ⟨w.heap.size + 1, 3, none⟩ = some (.int .u8 d1) := S2.cell 3
      have y4 : w2.cell? ⟨w.heap.size + 1, 4, none⟩ = some (.int .i64 o1) := S2.cell 4
      go_wp2_with (go_at_call 9; refine (CB.out _ ?_).mono ?_)
      · exact E.below B2
      rintro e w3 ⟨rfl, m3⟩
      have B3 := below_trans B2 m3
      have R3 := R2.call m3
      have S3 := S2.call m3
      clear m3 y0 y1 y2 y3 y4 R2 S2 B2
      have x0 : w3.cell? ⟨w.heap.size, 0, none⟩ = some (.int .u8 a0) := R3.cell 0
      have x1 : w3.cell? ⟨w.heap.size, 1, none⟩ = some (.int .u8 b0) := R3.cell 1
      have x2 : w3.cell? ⟨w.heap.size, 2, none⟩ = some (.int .u8 c0) := R3.cell 2
      have x3 : w3.cell? ⟨w.heap.size, 3, none⟩ = some (.int .u8 d0) := R3.cell 3
      have x4 : w3.cell? ⟨w.heap.size, 4, none⟩ = some (.int .i64 o0) := R3.cell 4
      have y0 : w3.cell? ⟨w.heap.size + 1, 0, none⟩ = some (.int .u8 a1) := S3.cell 0
      have y1 : w3.cell? ⟨w.heap.size + 1, 1, none⟩ = some (.int .u8 b1) := S3.cell 1
      have y2 : w3.cell? ⟨w.heap.size + 1, 2, none⟩ = some (.int .u8 c1) := S3.cell 2
      have y3 : w3.cell? ⟨w.heap.size + 1, 3, none⟩ = some (.int .u8 d1) := S3.cell 3
      have y4 : w3.cell? ⟨w.heap.size + 1, 4, none⟩ = some (.int .i64 o1) := S3.cell 4
      go_wp2_with fail
      clear x0 x1 x2 x3 x4 y0 y1 y2 y3 y4
      go_loop [12, 13, 14] (fun op sh i => ∃ (k : Nat) (o s : Bool), k ≤ s2.length ∧ i = .int .i64 k ∧ op = .bool o ∧ sh = .bool s ∧ Hid (marks (s2.take k) = (o, s))) (fun _ _ i => s2.length - (intOf i).toNat)
      case atStart => exact ⟨0, false, false, Nat.zero_le _, rfl, rfl, rfl, Lib.hid rfl⟩
      case round =>
        obtain ⟨k, o, s, hk, rfl, rfl, rfl, hs⟩ := hrel
        by_cases hlt : k < s2.length
        · have hsz : k < (ByteArray.mk s2.toArray).size := by rw [size_of]; exact hlt
          have hx : (ByteArray.mk s2.toArray)[k]'hsz = s2[k] := rfl
          have d40 : (((((ByteArray.mk s2.toArray)[k]'hsz).toNat : Int) == 40)) = decide (s2[k] = 40) := by
            rw [hx]
            by_cases h : s2[k] = 40
            · rw [h]; rfl
            · rw [decide_eq_false h, beq_eq_false_iff_ne]; intro e; exact h (UInt8.toNat.inj (by show s2[k].toNat = 40; omega))
          have d41 : (((((ByteArray.mk s2.toArray)[k]'hsz).toNat : Int) == 41)) = decide (s2[k] = 41) := by
            rw [hx]
            by_cases h : s2[k] = 41
            · rw [h]; rfl
            · rw [decide_eq_false h, beq_eq_false_iff_ne]; intro e; exact h (UInt8.toNat.inj (by show s2[k].toNat = 41; omega))
          have hn : Hid (marks (s2.take (k + 1)) = (o || decide (s2[k] = 40), s || (o && decide (s2[k] = 41)))) := Lib.hid (by rw [marks_next hlt, hs.out]; rfl)
          clear hx
          generalize decide (s2[k] = 40) = x at d40 hn
          generalize decide (s2[k] = 41) = y at d41 hn
          cases o with
          | false =>
            cases s with
            | false =>
              cases x with
              | false =>
                cases y with
                | false =>
                  go_wp2_with fail
                  go_round
                  case rel => exact ⟨k + 1, false, false, by omega, by go_num, rfl, rfl, hn⟩
                  case measure => simp [intOf]; omega
                | true =>
                  go_wp2_with fail
                  go_round
                  case rel => exact ⟨k + 1, false, false, by omega, by go_num, rfl, rfl, hn⟩
                  case measure => simp [intOf]; omega
              | true =>
                cases y with
                | false =>
                  go_wp2_with fail
                  go_round
                  case rel => exact ⟨k + 1, true, false, by omega, by go_num, rfl, rfl, hn⟩
                  case measure => simp [intOf]; omega
                | true =>
                  go_wp2_with fail
                  go_round
                  case rel => exact ⟨k + 1, true, false, by omega, by go_num, rfl, rfl, hn⟩
                  case measure => simp [intOf]; omega
            | true =>
              cases x with
              | false =>
                cases y with
                | false =>
                  go_wp2_with fail
                  go_round
                  case rel => exact ⟨k + 1, false, true, by omega, by go_num, rfl, rfl, hn⟩
                  case measure => simp [intOf]; omega
                | true =>
                  go_wp2_with fail
                  go_round
                  case rel => exact ⟨k + 1, false, true, by omega, by go_num, rfl, rfl, hn⟩
                  case measure => simp [intOf]; omega
              | true =>
                cases y with
                | false =>
                  go_wp2_with fail
                  go_round
                  case rel => exact ⟨k + 1, true, true, by omega, by go_num, rfl, rfl, hn⟩
                  case measure => simp [intOf]; omega
                | true =>
                  go_wp2_with fail
                  go_round
                  case rel => exact ⟨k + 1, true, true, by omega, by go_num, rfl, rfl, hn⟩
                  case measure => simp [intOf]; omega
          | true =>
            cases s with
            | false =>
              cases x with
              | false =>
                cases y with
                | false =>
                  go_wp2_with fail
                  go_round
                  case rel => exact ⟨k + 1, true, false, by omega, by go_num, rfl, rfl, hn⟩
                  case measure => simp [intOf]; omega
                | true =>
                  go_wp2_with fail
                  go_round
                  case rel => exact ⟨k + 1, true, true, by omega, by go_num, rfl, rfl, hn⟩
                  case measure => simp [intOf]; omega
              | true =>
                cases y with
                | false =>
                  go_wp2_with fail
                  go_round
                  case rel => exact ⟨k + 1, true, false, by omega, by go_num, rfl, rfl, hn⟩
                  case measure => simp [intOf]; omega
                | true =>
                  go_wp2_with fail
                  go_round
                  case rel => exact ⟨k + 1, true, true, by omega, by go_num, rfl, rfl, hn⟩
                  case measure => simp [intOf]; omega
            | true =>
              cases x with
              | false =>
                cases y with
                | false =>
                  go_wp2_with fail
                  go_round
                  case rel => exact ⟨k + 1, true, true, by omega, by go_num, rfl, rfl, hn⟩
                  case measure => simp [intOf]; omega
                | true =>
                  go_wp2_with fail
                  go_round
                  case rel => exact ⟨k + 1, true, true, by omega, by go_num, rfl, rfl, hn⟩
                  case measure => simp [intOf]; omega
              | true =>
                cases y with
                | false =>
                  go_wp2_with fail
                  go_round
                  case rel => exact ⟨k + 1, true, true, by omega, by go_num, rfl, rfl, hn⟩
                  case measure => simp [intOf]; omega
                | true =>
                  go_wp2_with fail
                  go_round
                  case rel => exact ⟨k + 1, true, true, by omega, by go_num, rfl, rfl, hn⟩
                  case measure => simp [intOf]; omega
        · obtain rfl : k = s2.length := by omega
          have hs2 := hs.out
          rw [List.take_length] at hs2
          cases hF : sixB (insL s2) with
          | true =>
            obtain ⟨q, hq⟩ := find_some hF
            have h2 := mark_ins s2 q hq
            rw [hs2] at h2
            simp only at h2
            subst h2
            have CF := Lib.hid (fun W (EW : Env W) => find_any s2 (by omega) W EW)
            unfold readV at CF
            rw [hF] at CF
            generalize sixN (insL s2) 0 = r0 at CF
            generalize sixN (insL s2) 1 = r1 at CF
            generalize sixN (insL s2) 2 = r2 at CF
            generalize sixN (insL s2) 3 = r3 at CF
            generalize sixP (insL s2) = r4 at CF
            clear hF hq hs2
            go_wp2_with (go_at_call 13; refine (CF.out _ ?_).mono ?_)
            · exact E.below B3
            rintro e w9 rfl m9
            have B9 := below_trans B3 m9
            clear m9
            go_wp2_with fail
            go_ret
            exact ⟨rfl, B9.alloc B9.size _⟩
          | false =>
            have CF := Lib.hid (fun W (EW : Env W) => find_any s2 (by omega) W EW)
            rw [read_none hF] at CF
            have hz : ∀ W, (Op.equalIn 10000 25 (endV 0 0 0 0 0) (endV 0 0 0 0 0)).run Tryd.prog W = .ok true W := fun W => by rw [equal_ends]; rfl
            clear hF hs2
            go_wp2_with (go_at_call 13; refine (CF.out _ ?_).mono ?_)
            · exact E.below B3
            rintro e w9 rfl m9
            have B9 := below_trans B3 m9
            clear m9
            go_wp2_with fail
            go_ret
            exact ⟨rfl, B9.alloc B9.size _⟩

set_option maxRecDepth 100000 in
theorem lifted (os : Os) (started : os.Started) (H : Type) (enc : TypeId × Value → H) :
    ReturnsInHanded {} Tryd.checked os 5 .any (fun w args => (Rows.sixOnlySpec.pre enc Tryd.prog Tryd.f5 [] false w args ∧ laidMetH Tryd.prog laidHere w) ∧ sizedMet enc Tryd.prog Tryd.f5 (OpenSpec.ofChange Rows.sixOnlySpec) false w args)
      (Rows.sixOnlySpec.post enc Tryd.prog Tryd.f5 false true false false) := by
  refine handed started (by kernel_rfl) Tryd.func5 #[.agg #[.int .u8 0, .int .u8 0, .int .u8 0, .int .u8 0, .int .i64 0], .agg #[.int .u8 0, .int .u8 0, .int .u8 0, .int .u8 0, .int .i64 0], .string ⟨#[]⟩] (by kernel_rfl) (by kernel_rfl) (by kernel_rfl) (World.shaped_of_ZipB (by kernel_rfl) (by kernel_rfl))
    (by unfold laidHere; rw [MakeChecks.laidMetH_plain _ _ _ (by kernel_rfl)]; exact laidMet_laidAll _ (by kernel_rfl) (by kernel_rfl)) ?_
  intro W base args ds gs before hval0 hW E
  have hval : ∀ (j : Nat) t v, Tryd.f5.params[j]? = some t → args[j]? = some v → Value.okWide Tryd.prog W .any base t v := hval0
  have hW' := hW
  obtain ⟨p, q, hA0, hV, rfl, _, _⟩ := hW
  have hA : DataW.TrodAll enc Tryd.prog W 0 (fun _ => true) true Tryd.f5.params.toList args.toList ds p := hA0
  rw [Tryd.params5] at hA hval
  obtain ⟨v0, vs0, d0, ds0, p0, q0, hargs, rfl, rfl, r0, t0⟩ := trodAll_cons hA
  obtain ⟨v1, vs1, d1, ds1, p1, q1, rfl, rfl, rfl, r1, t1⟩ := trodAll_cons t0
  obtain ⟨v2, vs2, d2, ds2, p2, q2, rfl, rfl, rfl, r2, t2⟩ := trodAll_cons t1
  obtain ⟨rfl, rfl, rfl⟩ := trodAll_nil t2
  obtain rfl : args = #[v0, v1, v2] := by cases args; simp_all
  obtain ⟨rfl, rfl⟩ := trodVars_none hV
  obtain ⟨a0, b0, c0, d0, o0, rfl, rfl, rfl, wa0, wb0, wc0, wd0, wo0⟩ := open_end (hval 0 25 v0 rfl rfl) r0
  obtain ⟨a1, b1, c1, d1, o1, rfl, rfl, rfl, wa1, wb1, wc1, wd1, wo1⟩ := open_end (hval 1 25 v1 rfl rfl) r1
  obtain ⟨x2, rfl, rfl, rfl, w2⟩ := open_string Tryd.underlying9 (hval 2 9 v2 rfl rfl) r2
  obtain ⟨s2, rfl⟩ : ∃ l : List UInt8, x2 = ⟨l.toArray⟩ := ⟨x2.data.toList, by simp⟩
  clear hA0 hval0
  simp only [List.append_nil] at hW'
  refine (walk a0 b0 c0 d0 o0 (byte_wf wa0).1 (byte_wf wa0).2 (byte_wf wb0).1 (byte_wf wb0).2 (byte_wf wc0).1 (byte_wf wc0).2 (byte_wf wd0).1 (byte_wf wd0).2 (int_wf wo0).1 (int_wf wo0).2 a1 b1 c1 d1 o1 (byte_wf wa1).1 (byte_wf wa1).2 (byte_wf wb1).1 (byte_wf wb1).2 (byte_wf wc1).1 (byte_wf wc1).2 (byte_wf wd1).1 (byte_wf wd1).2 (int_wf wo1).1 (int_wf wo1).2 s2 (by have := w2; rw [size_mk] at this; unfold maxLen at this; exact this) W E).mono fun e W' ⟨he, hb⟩ => ?_
  subst he
  exact ⟨_, rfl, told hW' (fun _ _ _ => trodAll_cons_mk (shut_bool Tryd.underlying4 _) trodAll_mk0) (fun _ => trodAll_cons_mk (shut_end wa0 wb0 wc0 wd0 wo0) (trodAll_cons_mk (shut_end wa1 wb1 wc1 wd1 wo1) (trodAll_cons_mk (shut_string Tryd.underlying9 w2) trodAll_mk0))) (fun _ => rfl) hb⟩

theorem over : Rows.SixOnlySaid :=
  OpenClaim.holds_of_wide 5 Tryd.f5 rfl rfl rfl rfl rfl rfl rfl ⟨rfl, rfl, rfl, rfl, rfl⟩ rfl rfl rfl rfl rfl (by kernel_rfl) Tryd.func5 (by kernel_rfl)
    (of_decide_eq_true (by kernel_rfl)) (by unfold Func.isWrapper; first | (rw [if_pos (by decide +kernel)]; kernel_rfl) | (rw [if_neg (by decide +kernel)]; exact ⟨rfl, rfl⟩))
    (fun os started H enc _ => lifted os started H enc)

theorem proved : Rows.SixOnlyCardSaid :=
  Claim7.holds_tied_plain_at .later [] Rows.sixOnlyCard.laidKinds true Rows.sixOnlyCard.stood.harness true
    over (fun _ h => by cases h) (by kernel_rfl) (fun _ h => by cases h) sixOnly_row_tie rfl ⟨rfl, rfl⟩ (by kernel_rfl) rfl
    (fun f fn hf hfn => by
      obtain rfl : f = 5 := Option.some.inj ((show Tryd.prog.funcNamed "wharfinger/wharfingerlaw03.SixOnly" = some 5 by kernel_rfl).symm.trans hf) |>.symm
      obtain rfl : fn = Tryd.f5 := (Option.some.inj (Tryd.func5.symm.trans hfn)).symm
      exact ⟨by kernel_rfl, fun j t ht => by
        rw [Tryd.params5] at ht
        have hm : t ∈ [25, 25, 9] := by simpa using Array.mem_of_getElem? ht
        have hall : ([25, 25, 9].all fun u => !Tryd.prog.wantsStandIn u) = true := by kernel_rfl
        exact (show Tryd.prog.wantsStandIn t = false by simpa using List.all_eq_true.1 hall t hm)⟩)
    (by kernel_rfl)
#print axioms proved
end Go.Proofs.YtocfklfomfbioaaDoor.sixOnly
