/- Proved: for every end and every three texts the law SixBack answers true: an end that may be is read as it is written, and found between brackets; what is read is written so. Conditions: none beyond the row's own (the library's variables start as the program's text lays them: the card ties them). -/
import Derived.Test.YtocfklfomfbioaaDoorSixAwake
import Derived.Test.YtocfklfomfbioaaDoorEndArg
import Derived.Test.YtocfklfomfbioaaDoorCards
import Derived.Test.YtocfklfomfbioaaDoorSixFacts
namespace Go.Proofs.YtocfklfomfbioaaDoor.sixBack
open Go.Proofs.YtocfklfomfbioaaDoor Go.Proofs.YtocfklfomfbioaaDoor.Quad Go.Proofs.YtocfklfomfbioaaDoor.Six
open Go.ChangeShapes Go.WideShapes Go.ChangeAt Go.RowKit Go.Sort Go.ChangeMaps
theorem app_of (a b : List UInt8) : (ByteArray.mk a.toArray ++ ByteArray.mk b.toArray) = ⟨(a ++ b).toArray⟩ := by
  apply ByteArray.ext
  simp

theorem written_shut {a b c d p : Int} (ha : 0 ≤ a) (hb : 0 ≤ b) (hc : 0 ≤ c) (hd : 0 ≤ d) (hp : 0 ≤ p) : (41 : UInt8) ∉ sixL a b c d p := fun h => by
  have := six_bytes ha hb hc hd hp h
  revert this; decide
theorem readV_text {a b c d p : Int} (ha : 0 ≤ a ∧ a ≤ 255) (hb : 0 ≤ b ∧ b ≤ 255) (hc : 0 ≤ c ∧ c ≤ 255) (hd : 0 ≤ d ∧ d ≤ 255) (hp : 0 ≤ p ∧ p ≤ 65535) : readV (sixL a b c d p) = .tuple #[endV a b c d p, .bool true] := by
  obtain ⟨h, h0, h1, h2, h3, h4⟩ := six_text ha hb hc hd hp
  unfold readV
  rw [h, h0, h1, h2, h3, h4]

set_option linter.unusedVariables false in
set_option maxHeartbeats 2000000 in
set_option maxRecDepth 100000 in
theorem walk (a0 b0 c0 d0 o0 : Int) (a0l : 0 ≤ a0) (a0h : a0 ≤ 255) (b0l : 0 ≤ b0) (b0h : b0 ≤ 255) (c0l : 0 ≤ c0) (c0h : c0 ≤ 255) (d0l : 0 ≤ d0) (d0h : d0 ≤ 255) (o0l : -9223372036854775808 ≤ o0) (o0h : o0 ≤ 9223372036854775807) (s1 : List UInt8) (z1 : s1.length ≤ 9223372036854775807) (s2 : List UInt8) (z2 : s2.length ≤ 9223372036854775807) (s3 : List UInt8) (z3 : s3.length ≤ 9223372036854775807) (w : World) (E : Env w) :
    Calls Tryd.prog 4 #[endV a0 b0 c0 d0 o0, str s1, str s2, str s3] w fun e w' => e = .returned (.bool true) ∧ Below w.heap.size w w' := by
  by_cases c1 : 100 < s1.length
  · go_enter Tryd.func4, Tryd.ntmps4
    go_wp2_with (go_at_call 8; refine (awake_any _ ?_).mono ?_)
    · exact E.alloc _
    rintro e w1 ⟨rfl, b1⟩
    go_wp2_with fail
    go_ret
    exact ⟨rfl, ((Below.refl _ _).alloc (Nat.le_refl _) _).trans (b1.mono (by simp))⟩
  by_cases c2 : 100 < s2.length
  · go_enter Tryd.func4, Tryd.ntmps4
    go_wp2_with (go_at_call 8; refine (awake_any _ ?_).mono ?_)
    · exact E.alloc _
    rintro e w1 ⟨rfl, b1⟩
    go_wp2_with fail
    go_ret
    exact ⟨rfl, ((Below.refl _ _).alloc (Nat.le_refl _) _).trans (b1.mono (by simp))⟩
  by_cases c3 : 100 < s3.length
  · go_enter Tryd.func4, Tryd.ntmps4
    go_wp2_with (go_at_call 8; refine (awake_any _ ?_).mono ?_)
    · exact E.alloc _
    rintro e w1 ⟨rfl, b1⟩
    go_wp2_with fail
    go_ret
    exact ⟨rfl, ((Below.refl _ _).alloc (Nat.le_refl _) _).trans (b1.mono (by simp))⟩
  go_enter Tryd.func4, Tryd.ntmps4
  go_wp2_with (go_at_call 8; refine (awake_any _ ?_).mono ?_)
  · exact E.alloc _
  rintro e w1 ⟨rfl, b1⟩
  have B1 : Below w.heap.size w w1 := ((Below.refl _ _).alloc (Nat.le_refl _) _).trans (b1.mono (by simp))
  have R1 : IsRow w1 w.heap.size 25 #[.int .u8 a0, .int .u8 b0, .int .u8 c0, .int .u8 d0, .int .i64 o0] := (IsRow.made w _ _).call b1
  clear b1
  go_wp2_with fail
  go_loop [10] (fun i => ∃ k : Nat, k ≤ s1.length ∧ i = .int .i64 k ∧ Hid ((40 : UInt8) ∉ s1.take k)) (fun i => s1.length - (intOf i).toNat)
  case atStart => exact ⟨0, Nat.zero_le _, rfl, Lib.hid (by simp)⟩
  case round =>
    obtain ⟨k, hk, rfl, hno⟩ := hrel
    by_cases hlt : k < s1.length
    · have hsz : k < (ByteArray.mk s1.toArray).size := by rw [size_of]; exact hlt
      have hx : (ByteArray.mk s1.toArray)[k]'hsz = s1[k] := rfl
      by_cases hc : s1[k] = 40
      · have hq : ((((ByteArray.mk s1.toArray)[k]'hsz).toNat : Int) == 40) = true := by rw [hx, hc]; rfl
        clear hx hc
        go_wp2_with fail
        go_ret
        exact ⟨rfl, B1⟩
      · have hq : ((((ByteArray.mk s1.toArray)[k]'hsz).toNat : Int) == 40) = false := by
          rw [hx, beq_eq_false_iff_ne]
          intro e; exact hc (UInt8.toNat.inj (by show s1[k].toNat = 40; omega))
        have hs := Lib.hid (no_next0 hno.out hlt hc)
        clear hx hc
        go_wp2_with fail
        go_round
        case rel => exact ⟨k + 1, by omega, by go_num, hs⟩
        case measure => simp [intOf]; omega
    · obtain rfl : k = s1.length := by omega
      have hn0 : Hid ((40 : UInt8) ∉ s1) := Lib.hid (by have h := hno.out; rw [List.take_length] at h; exact h)
      clear hno
      by_cases hp0 : 0 ≤ o0
      · by_cases hp1 : o0 ≤ 65535
        · cases hF : sixB s3 with
          | true =>
            have CT := Lib.hid (fun W (EW : Env W) => text_yes a0 b0 c0 d0 o0 a0l a0h b0l b0h c0l c0h d0l d0h hp0 hp1 W EW)
            have tl := six_length (a := a0) (b := b0) (c := c0) (d := d0) (p := o0) ⟨a0l, a0h⟩ ⟨b0l, b0h⟩ ⟨c0l, c0h⟩ ⟨d0l, d0h⟩ ⟨hp0, hp1⟩
            have t41 := written_shut (a := a0) (b := b0) (c := c0) (d := d0) (p := o0) a0l b0l c0l d0l hp0
            have hRV := readV_text (a := a0) (b := b0) (c := c0) (d := d0) (p := o0) ⟨a0l, a0h⟩ ⟨b0l, b0h⟩ ⟨c0l, c0h⟩ ⟨d0l, d0h⟩ ⟨hp0, hp1⟩
            have CX := Lib.hid (fun W (EW : Env W) => show Calls Tryd.prog 11 #[str (sixL a0 b0 c0 d0 o0)] W fun e w' => e = .returned (.tuple #[endV a0 b0 c0 d0 o0, .bool true]) ∧ Below W.heap.size W w' by
              have c := read_any (sixL a0 b0 c0 d0 o0) (by omega) W EW
              rw [hRV] at c; exact c)
            have CY := Lib.hid (fun W (EW : Env W) => show Calls Tryd.prog 13 #[.string (ByteArray.mk s1.toArray ++ ByteArray.mk #[40] ++ ByteArray.mk (sixL a0 b0 c0 d0 o0).toArray ++ ByteArray.mk #[41] ++ ByteArray.mk s2.toArray)] W fun e w' => e = .returned (.tuple #[endV a0 b0 c0 d0 o0, .bool true]) ∧ Below W.heap.size W w' by
              have e40 : (ByteArray.mk #[40]) = ⟨([40] : List UInt8).toArray⟩ := rfl
              have e41 : (ByteArray.mk #[41]) = ⟨([41] : List UInt8).toArray⟩ := rfl
              have c := find_any (s1 ++ [40] ++ sixL a0 b0 c0 d0 o0 ++ [41] ++ s2) (by simp; omega) W EW
              rw [find_written hn0.out t41, hRV] at c
              rw [e40, e41, app_of, app_of, app_of, app_of]; exact c)
            have hz : ∀ W, (Op.equalIn 10000 25 (endV a0 b0 c0 d0 o0) (endV a0 b0 c0 d0 o0)).run Tryd.prog W = .ok true W := fun W => by rw [equal_ends]; simp
            clear t41 hRV
            generalize sixL a0 b0 c0 d0 o0 = tt at CT CX CY tl
            have CR := Lib.hid (fun W (EW : Env W) => read_any s3 (by omega) W EW)
            have CU := Lib.hid (fun W (EW : Env W) => show Calls Tryd.prog 9 #[endV (sixN s3 0) (sixN s3 1) (sixN s3 2) (sixN s3 3) (sixP s3)] W fun e w' => e = .returned (.tuple #[str s3, .bool true]) ∧ Below W.heap.size W w' by
              have c := text_yes (sixN s3 0) (sixN s3 1) (sixN s3 2) (sixN s3 3) (sixP s3) (sixN_lo _ _) (sixN_hi _ _) (sixN_lo _ _) (sixN_hi _ _) (sixN_lo _ _) (sixN_hi _ _) (sixN_lo _ _) (sixN_hi _ _) (sixP_lo _) (sixP_hi _) W EW
              rw [six_yes hF] at c; exact c)
            unfold readV at CR
            rw [hF] at CR
            generalize sixN s3 0 = f0 at CR CU
            generalize sixN s3 1 = f1 at CR CU
            generalize sixN s3 2 = f2 at CR CU
            generalize sixN s3 3 = f3 at CR CU
            generalize sixP s3 = f4 at CR CU
            clear hF
            have x0 : w1.cell? ⟨w.heap.size, 0, none⟩ = some (.int .u8 a0) := R1.cell 0
            have x1 : w1.cell? ⟨w.heap.size, 1, none⟩ = some (.int .u8 b0) := R1.cell 1
            have x2 : w1.cell? ⟨w.heap.size, 2, none⟩ = some (.int .u8 c0) := R1.cell 2
            have x3 : w1.cell? ⟨w.heap.size, 3, none⟩ = some (.int .u8 d0) := R1.cell 3
            have x4 : w1.cell? ⟨w.heap.size, 4, none⟩ = some (.int .i64 o0) := R1.cell 4
            go_wp2_with (go_at_call 9; refine (CT.out _ ?_).mono ?_)
            · exact E.below B1
            intro e w2 hh
            first | (have m2 := hh.2; obtain rfl := hh.1; clear hh) | (intro m2; subst hh)
            have B2 := below_trans B1 m2
            have R2 := R1.call m2
            clear m2 x0 x1 x2 x3 x4
            go_wp2_with (go_at_call 11; refine (CR.out _ ?_).mono ?_)
            · exact E.below B2
            intro e w3 hh
            first | (have m3 := hh.2; obtain rfl := hh.1; clear hh) | (intro m3; subst hh)
            have B3 := below_trans B2 m3
            have R3 := R2.call m3
            have L3 := R3.lt
            have z3 := B3.size
            clear m3 R2 B2
            go_wp2_with (go_at_call 9; refine (CU.out _ ?_).mono ?_)
            · exact (E.below B3).alloc _
            intro e w4 hh
            first | (have m4 := hh.2; obtain rfl := hh.1; clear hh) | (intro m4; subst hh)
            have B4 : Below w.heap.size w w4 := (B3.alloc z3 _).trans (m4.mono (by first | omega | (simp; omega)))
            have R4 : IsRow w4 w.heap.size 25 #[.int .u8 a0, .int .u8 b0, .int .u8 c0, .int .u8 d0, .int .i64 o0] := (R3.alloc _).below m4 (by first | omega | (simp; omega))
            have L4 := R4.lt
            have z4 := B4.size
            clear m4
            go_wp2_with (go_at_call 11; refine (CX.out _ ?_).mono ?_)
            · exact E.below B4
            intro e w5 hh
            first | (have m5 := hh.2; obtain rfl := hh.1; clear hh) | (intro m5; subst hh)
            have B5 := below_trans B4 m5
            have R5 : IsRow w5 w.heap.size 25 #[.int .u8 a0, .int .u8 b0, .int .u8 c0, .int .u8 d0, .int .i64 o0] := R4.call m5
            have L5 := R5.lt
            have z5 := B5.size
            clear m5
            go_wp2_with (go_at_call 13; refine (CY.out _ ?_).mono ?_)
            · exact (E.below B5).alloc _
            intro e w6 hh
            first | (have m6 := hh.2; obtain rfl := hh.1; clear hh) | (intro m6; subst hh)
            have B6 : Below w.heap.size w w6 := (B5.alloc z5 _).trans (m6.mono (by first | omega | (simp; omega)))
            have R6 : IsRow w6 w.heap.size 25 #[.int .u8 a0, .int .u8 b0, .int .u8 c0, .int .u8 d0, .int .i64 o0] := (R5.alloc _).below m6 (by first | omega | (simp; omega))
            have G6 : IsRow w6 w5.heap.size 25 #[.int .u8 a0, .int .u8 b0, .int .u8 c0, .int .u8 d0, .int .i64 o0] := (IsRow.made w5 _ _).below m6 (by first | omega | simp)
            have L6 := R6.lt
            have K6 := G6.lt
            have z6 := B6.size
            clear m6
            have x0 : w6.cell? ⟨w.heap.size, 0, none⟩ = some (.int .u8 a0) := R6.cell 0
            have x1 : w6.cell? ⟨w.heap.size, 1, none⟩ = some (.int .u8 b0) := R6.cell 1
            have x2 : w6.cell? ⟨w.heap.size, 2, none⟩ = some (.int .u8 c0) := R6.cell 2
            have x3 : w6.cell? ⟨w.heap.size, 3, none⟩ = some (.int .u8 d0) := R6.cell 3
            have x4 : w6.cell? ⟨w.heap.size, 4, none⟩ = some (.int .i64 o0) := R6.cell 4
            have y0 : w6.cell? ⟨w5.heap.size, 0, none⟩ = some (.int .u8 a0) := G6.cell 0
            have y1 : w6.cell? ⟨w5.heap.size, 1, none⟩ = some (.int .u8 b0) := G6.cell 1
            have y2 : w6.cell? ⟨w5.heap.size, 2, none⟩ = some (.int .u8 c0) := G6.cell 2
            have y3 : w6.cell? ⟨w5.heap.size, 3, none⟩ = some (.int .u8 d0) := G6.cell 3
            have y4 : w6.cell? ⟨w5.heap.size, 4, none⟩ = some (.int .i64 o0) := G6.cell 4
            go_wp2_with fail
            go_ret
            exact ⟨rfl, B6.alloc z6 _⟩
          | false =>
            have CT := Lib.hid (fun W (EW : Env W) => text_yes a0 b0 c0 d0 o0 a0l a0h b0l b0h c0l c0h d0l d0h hp0 hp1 W EW)
            have tl := six_length (a := a0) (b := b0) (c := c0) (d := d0) (p := o0) ⟨a0l, a0h⟩ ⟨b0l, b0h⟩ ⟨c0l, c0h⟩ ⟨d0l, d0h⟩ ⟨hp0, hp1⟩
            have t41 := written_shut (a := a0) (b := b0) (c := c0) (d := d0) (p := o0) a0l b0l c0l d0l hp0
            have hRV := readV_text (a := a0) (b := b0) (c := c0) (d := d0) (p := o0) ⟨a0l, a0h⟩ ⟨b0l, b0h⟩ ⟨c0l, c0h⟩ ⟨d0l, d0h⟩ ⟨hp0, hp1⟩
            have CX := Lib.hid (fun W (EW : Env W) => show Calls Tryd.prog 11 #[str (sixL a0 b0 c0 d0 o0)] W fun e w' => e = .returned (.tuple #[endV a0 b0 c0 d0 o0, .bool true]) ∧ Below W.heap.size W w' by
              have c := read_any (sixL a0 b0 c0 d0 o0) (by omega) W EW
              rw [hRV] at c; exact c)
            have CY := Lib.hid (fun W (EW : Env W) => show Calls Tryd.prog 13 #[.string (ByteArray.mk s1.toArray ++ ByteArray.mk #[40] ++ ByteArray.mk (sixL a0 b0 c0 d0 o0).toArray ++ ByteArray.mk #[41] ++ ByteArray.mk s2.toArray)] W fun e w' => e = .returned (.tuple #[endV a0 b0 c0 d0 o0, .bool true]) ∧ Below W.heap.size W w' by
              have e40 : (ByteArray.mk #[40]) = ⟨([40] : List UInt8).toArray⟩ := rfl
              have e41 : (ByteArray.mk #[41]) = ⟨([41] : List UInt8).toArray⟩ := rfl
              have c := find_any (s1 ++ [40] ++ sixL a0 b0 c0 d0 o0 ++ [41] ++ s2) (by simp; omega) W EW
              rw [find_written hn0.out t41, hRV] at c
              rw [e40, e41, app_of, app_of, app_of, app_of]; exact c)
            have hz : ∀ W, (Op.equalIn 10000 25 (endV a0 b0 c0 d0 o0) (endV a0 b0 c0 d0 o0)).run Tryd.prog W = .ok true W := fun W => by rw [equal_ends]; simp
            clear t41 hRV
            generalize sixL a0 b0 c0 d0 o0 = tt at CT CX CY tl
            have CR := Lib.hid (fun W (EW : Env W) => read_any s3 (by omega) W EW)
            rw [read_none hF] at CR
            clear hF
            have x0 : w1.cell? ⟨w.heap.size, 0, none⟩ = some (.int .u8 a0) := R1.cell 0
            have x1 : w1.cell? ⟨w.heap.size, 1, none⟩ = some (.int .u8 b0) := R1.cell 1
            have x2 : w1.cell? ⟨w.heap.size, 2, none⟩ = some (.int .u8 c0) := R1.cell 2
            have x3 : w1.cell? ⟨w.heap.size, 3, none⟩ = some (.int .u8 d0) := R1.cell 3
            have x4 : w1.cell? ⟨w.heap.size, 4, none⟩ = some (.int .i64 o0) := R1.cell 4
            go_wp2_with (go_at_call 9; refine (CT.out _ ?_).mono ?_)
            · exact E.below B1
            intro e w2 hh
            first | (have m2 := hh.2; obtain rfl := hh.1; clear hh) | (intro m2; subst hh)
            have B2 := below_trans B1 m2
            have R2 := R1.call m2
            clear m2 x0 x1 x2 x3 x4
            go_wp2_with (go_at_call 11; refine (CR.out _ ?_).mono ?_)
            · exact E.below B2
            intro e w3 hh
            first | (have m3 := hh.2; obtain rfl := hh.1; clear hh) | (intro m3; subst hh)
            have B3 := below_trans B2 m3
            have R3 := R2.call m3
            have L3 := R3.lt
            have z3 := B3.size
            clear m3 R2 B2
            go_wp2_with (go_at_call 11; refine (CX.out _ ?_).mono ?_)
            · exact (E.below B3).alloc _
            intro e w5 hh
            first | (have m5 := hh.2; obtain rfl := hh.1; clear hh) | (intro m5; subst hh)
            have B5 : Below w.heap.size w w5 := (B3.alloc z3 _).trans (m5.mono (by first | omega | (simp; omega)))
            have R5 : IsRow w5 w.heap.size 25 #[.int .u8 a0, .int .u8 b0, .int .u8 c0, .int .u8 d0, .int .i64 o0] := (R3.alloc _).below m5 (by first | omega | (simp; omega))
            have L5 := R5.lt
            have z5 := B5.size
            clear m5
            go_wp2_with (go_at_call 13; refine (CY.out _ ?_).mono ?_)
            · exact (E.below B5).alloc _
            intro e w6 hh
            first | (have m6 := hh.2; obtain rfl := hh.1; clear hh) | (intro m6; subst hh)
            have B6 : Below w.heap.size w w6 := (B5.alloc z5 _).trans (m6.mono (by first | omega | (simp; omega)))
            have R6 : IsRow w6 w.heap.size 25 #[.int .u8 a0, .int .u8 b0, .int .u8 c0, .int .u8 d0, .int .i64 o0] := (R5.alloc _).below m6 (by first | omega | (simp; omega))
            have G6 : IsRow w6 w5.heap.size 25 #[.int .u8 a0, .int .u8 b0, .int .u8 c0, .int .u8 d0, .int .i64 o0] := (IsRow.made w5 _ _).below m6 (by first | omega | simp)
            have L6 := R6.lt
            have K6 := G6.lt
            have z6 := B6.size
            clear m6
            have x0 : w6.cell? ⟨w.heap.size, 0, none⟩ = some (.int .u8 a0) := R6.cell 0
            have x1 : w6.cell? ⟨w.heap.size, 1, none⟩ = some (.int .u8 b0) := R6.cell 1
            have x2 : w6.cell? ⟨w.heap.size, 2, none⟩ = some (.int .u8 c0) := R6.cell 2
            have x3 : w6.cell? ⟨w.heap.size, 3, none⟩ = some (.int .u8 d0) := R6.cell 3
            have x4 : w6.cell? ⟨w.heap.size, 4, none⟩ = some (.int .i64 o0) := R6.cell 4
            have y0 : w6.cell? ⟨w5.heap.size, 0, none⟩ = some (.int .u8 a0) := G6.cell 0
            have y1 : w6.cell? ⟨w5.heap.size, 1, none⟩ = some (.int .u8 b0) := G6.cell 1
            have y2 : w6.cell? ⟨w5.heap.size, 2, none⟩ = some (.int .u8 c0) := G6.cell 2
            have y3 : w6.cell? ⟨w5.heap.size, 3, none⟩ = some (.int .u8 d0) := G6.cell 3
            have y4 : w6.cell? ⟨w5.heap.size, 4, none⟩ = some (.int .i64 o0) := G6.cell 4
            go_wp2_with fail
            go_ret
            exact ⟨rfl, B6.alloc z6 _⟩
        · have hp2 : 65535 < o0 := by omega
          have hp3 : ¬ o0 < 0 := by omega
          cases hF : sixB s3 with
          | true =>
            have CT := Lib.hid (fun W (_ : Env W) => text_no a0 b0 c0 d0 o0 o0l o0h (by omega) W)
            have CR := Lib.hid (fun W (EW : Env W) => read_any s3 (by omega) W EW)
            have CU := Lib.hid (fun W (EW : Env W) => show Calls Tryd.prog 9 #[endV (sixN s3 0) (sixN s3 1) (sixN s3 2) (sixN s3 3) (sixP s3)] W fun e w' => e = .returned (.tuple #[str s3, .bool true]) ∧ Below W.heap.size W w' by
              have c := text_yes (sixN s3 0) (sixN s3 1) (sixN s3 2) (sixN s3 3) (sixP s3) (sixN_lo _ _) (sixN_hi _ _) (sixN_lo _ _) (sixN_hi _ _) (sixN_lo _ _) (sixN_hi _ _) (sixN_lo _ _) (sixN_hi _ _) (sixP_lo _) (sixP_hi _) W EW
              rw [six_yes hF] at c; exact c)
            unfold readV at CR
            rw [hF] at CR
            generalize sixN s3 0 = f0 at CR CU
            generalize sixN s3 1 = f1 at CR CU
            generalize sixN s3 2 = f2 at CR CU
            generalize sixN s3 3 = f3 at CR CU
            generalize sixP s3 = f4 at CR CU
            clear hF
            have x0 : w1.cell? ⟨w.heap.size, 0, none⟩ = some (.int .u8 a0) := R1.cell 0
            have x1 : w1.cell? ⟨w.heap.size, 1, none⟩ = some (.int .u8 b0) := R1.cell 1
            have x2 : w1.cell? ⟨w.heap.size, 2, none⟩ = some (.int .u8 c0) := R1.cell 2
            have x3 : w1.cell? ⟨w.heap.size, 3, none⟩ = some (.int .u8 d0) := R1.cell 3
            have x4 : w1.cell? ⟨w.heap.size, 4, none⟩ = some (.int .i64 o0) := R1.cell 4
            go_wp2_with (go_at_call 9; refine (CT.out _ ?_).mono ?_)
            · exact E.below B1
            intro e w2 hh
            first | (have m2 := hh.2; obtain rfl := hh.1; clear hh) | (intro m2; subst hh)
            have B2 := below_trans B1 m2
            have R2 := R1.call m2
            clear m2 x0 x1 x2 x3 x4
            go_wp2_with (go_at_call 11; refine (CR.out _ ?_).mono ?_)
            · exact E.below B2
            intro e w3 hh
            first | (have m3 := hh.2; obtain rfl := hh.1; clear hh) | (intro m3; subst hh)
            have B3 := below_trans B2 m3
            have R3 := R2.call m3
            have L3 := R3.lt
            have z3 := B3.size
            clear m3 R2 B2
            go_wp2_with (go_at_call 9; refine (CU.out _ ?_).mono ?_)
            · exact (E.below B3).alloc _
            intro e w4 hh
            first | (have m4 := hh.2; obtain rfl := hh.1; clear hh) | (intro m4; subst hh)
            have B4 : Below w.heap.size w w4 := (B3.alloc z3 _).trans (m4.mono (by first | omega | (simp; omega)))
            have R4 : IsRow w4 w.heap.size 25 #[.int .u8 a0, .int .u8 b0, .int .u8 c0, .int .u8 d0, .int .i64 o0] := (R3.alloc _).below m4 (by first | omega | (simp; omega))
            have L4 := R4.lt
            have z4 := B4.size
            clear m4
            have x0 : w4.cell? ⟨w.heap.size, 0, none⟩ = some (.int .u8 a0) := R4.cell 0
            have x1 : w4.cell? ⟨w.heap.size, 1, none⟩ = some (.int .u8 b0) := R4.cell 1
            have x2 : w4.cell? ⟨w.heap.size, 2, none⟩ = some (.int .u8 c0) := R4.cell 2
            have x3 : w4.cell? ⟨w.heap.size, 3, none⟩ = some (.int .u8 d0) := R4.cell 3
            have x4 : w4.cell? ⟨w.heap.size, 4, none⟩ = some (.int .i64 o0) := R4.cell 4
            go_wp2_with fail
            go_ret
            exact ⟨rfl, B4⟩
          | false =>
            have CT := Lib.hid (fun W (_ : Env W) => text_no a0 b0 c0 d0 o0 o0l o0h (by omega) W)
            have CR := Lib.hid (fun W (EW : Env W) => read_any s3 (by omega) W EW)
            rw [read_none hF] at CR
            clear hF
            have x0 : w1.cell? ⟨w.heap.size, 0, none⟩ = some (.int .u8 a0) := R1.cell 0
            have x1 : w1.cell? ⟨w.heap.size, 1, none⟩ = some (.int .u8 b0) := R1.cell 1
            have x2 : w1.cell? ⟨w.heap.size, 2, none⟩ = some (.int .u8 c0) := R1.cell 2
            have x3 : w1.cell? ⟨w.heap.size, 3, none⟩ = some (.int .u8 d0) := R1.cell 3
            have x4 : w1.cell? ⟨w.heap.size, 4, none⟩ = some (.int .i64 o0) := R1.cell 4
            go_wp2_with (go_at_call 9; refine (CT.out _ ?_).mono ?_)
            · exact E.below B1
            intro e w2 hh
            first | (have m2 := hh.2; obtain rfl := hh.1; clear hh) | (intro m2; subst hh)
            have B2 := below_trans B1 m2
            have R2 := R1.call m2
            clear m2 x0 x1 x2 x3 x4
            go_wp2_with (go_at_call 11; refine (CR.out _ ?_).mono ?_)
            · exact E.below B2
            intro e w3 hh
            first | (have m3 := hh.2; obtain rfl := hh.1; clear hh) | (intro m3; subst hh)
            have B3 := below_trans B2 m3
            have R3 := R2.call m3
            have L3 := R3.lt
            have z3 := B3.size
            clear m3 R2 B2
            have x0 : w3.cell? ⟨w.heap.size, 0, none⟩ = some (.int .u8 a0) := R3.cell 0
            have x1 : w3.cell? ⟨w.heap.size, 1, none⟩ = some (.int .u8 b0) := R3.cell 1
            have x2 : w3.cell? ⟨w.heap.size, 2, none⟩ = some (.int .u8 c0) := R3.cell 2
            have x3 : w3.cell? ⟨w.heap.size, 3, none⟩ = some (.int .u8 d0) := R3.cell 3
            have x4 : w3.cell? ⟨w.heap.size, 4, none⟩ = some (.int .i64 o0) := R3.cell 4
            go_wp2_with fail
            go_ret
            exact ⟨rfl, B3.alloc z3 _⟩
      · have hp2 : o0 < 0 := by omega
        cases hF : sixB s3 with
        | true =>
          have CT := Lib.hid (fun W (_ : Env W) => text_no a0 b0 c0 d0 o0 o0l o0h (by omega) W)
          have CR := Lib.hid (fun W (EW : Env W) => read_any s3 (by omega) W EW)
          have CU := Lib.hid (fun W (EW : Env W) => show Calls Tryd.prog 9 #[endV (sixN s3 0) (sixN s3 1) (sixN s3 2) (sixN s3 3) (sixP s3)] W fun e w' => e = .returned (.tuple #[str s3, .bool true]) ∧ Below W.heap.size W w' by
            have c := text_yes (sixN s3 0) (sixN s3 1) (sixN s3 2) (sixN s3 3) (sixP s3) (sixN_lo _ _) (sixN_hi _ _) (sixN_lo _ _) (sixN_hi _ _) (sixN_lo _ _) (sixN_hi _ _) (sixN_lo _ _) (sixN_hi _ _) (sixP_lo _) (sixP_hi _) W EW
            rw [six_yes hF] at c; exact c)
          unfold readV at CR
          rw [hF] at CR
          generalize sixN s3 0 = f0 at CR CU
          generalize sixN s3 1 = f1 at CR CU
          generalize sixN s3 2 = f2 at CR CU
          generalize sixN s3 3 = f3 at CR CU
          generalize sixP s3 = f4 at CR CU
          clear hF
          have x0 : w1.cell? ⟨w.heap.size, 0, none⟩ = some (.int .u8 a0) := R1.cell 0
          have x1 : w1.cell? ⟨w.heap.size, 1, none⟩ = some (.int .u8 b0) := R1.cell 1
          have x2 : w1.cell? ⟨w.heap.size, 2, none⟩ = some (.int .u8 c0) := R1.cell 2
          have x3 : w1.cell? ⟨w.heap.size, 3, none⟩ = some (.int .u8 d0) := R1.cell 3
          have x4 : w1.cell? ⟨w.heap.size, 4, none⟩ = some (.int .i64 o0) := R1.cell 4
          go_wp2_with (go_at_call 9; refine (CT.out _ ?_).mono ?_)
          · exact E.below B1
          intro e w2 hh
          first | (have m2 := hh.2; obtain rfl := hh.1; clear hh) | (intro m2; subst hh)
          have B2 := below_trans B1 m2
          have R2 := R1.call m2
          clear m2 x0 x1 x2 x3 x4
          go_wp2_with (go_at_call 11; refine (CR.out _ ?_).mono ?_)
          · exact E.below B2
          intro e w3 hh
          first | (have m3 := hh.2; obtain rfl := hh.1; clear hh) | (intro m3; subst hh)
          have B3 := below_trans B2 m3
          have R3 := R2.call m3
          have L3 := R3.lt
          have z3 := B3.size
          clear m3 R2 B2
          go_wp2_with (go_at_call 9; refine (CU.out _ ?_).mono ?_)
          · exact (E.below B3).alloc _
          intro e w4 hh
          first | (have m4 := hh.2; obtain rfl := hh.1; clear hh) | (intro m4; subst hh)
          have B4 : Below w.heap.size w w4 := (B3.alloc z3 _).trans (m4.mono (by first | omega | (simp; omega)))
          have R4 : IsRow w4 w.heap.size 25 #[.int .u8 a0, .int .u8 b0, .int .u8 c0, .int .u8 d0, .int .i64 o0] := (R3.alloc _).below m4 (by first | omega | (simp; omega))
          have L4 := R4.lt
          have z4 := B4.size
          clear m4
          have x0 : w4.cell? ⟨w.heap.size, 0, none⟩ = some (.int .u8 a0) := R4.cell 0
          have x1 : w4.cell? ⟨w.heap.size, 1, none⟩ = some (.int .u8 b0) := R4.cell 1
          have x2 : w4.cell? ⟨w.heap.size, 2, none⟩ = some (.int .u8 c0) := R4.cell 2
          have x3 : w4.cell? ⟨w.heap.size, 3, none⟩ = some (.int .u8 d0) := R4.cell 3
          have x4 : w4.cell? ⟨w.heap.size, 4, none⟩ = some (.int .i64 o0) := R4.cell 4
          go_wp2_with fail
          go_ret
          exact ⟨rfl, B4⟩
        | false =>
          have CT := Lib.hid (fun W (_ : Env W) => text_no a0 b0 c0 d0 o0 o0l o0h (by omega) W)
          have CR := Lib.hid (fun W (EW : Env W) => read_any s3 (by omega) W EW)
          rw [read_none hF] at CR
          clear hF
          have x0 : w1.cell? ⟨w.heap.size, 0, none⟩ = some (.int .u8 a0) := R1.cell 0
          have x1 : w1.cell? ⟨w.heap.size, 1, none⟩ = some (.int .u8 b0) := R1.cell 1
          have x2 : w1.cell? ⟨w.heap.size, 2, none⟩ = some (.int .u8 c0) := R1.cell 2
          have x3 : w1.cell? ⟨w.heap.size, 3, none⟩ = some (.int .u8 d0) := R1.cell 3
          have x4 : w1.cell? ⟨w.heap.size, 4, none⟩ = some (.int .i64 o0) := R1.cell 4
          go_wp2_with (go_at_call 9; refine (CT.out _ ?_).mono ?_)
          · exact E.below B1
          intro e w2 hh
          first | (have m2 := hh.2; obtain rfl := hh.1; clear hh) | (intro m2; subst hh)
          have B2 := below_trans B1 m2
          have R2 := R1.call m2
          clear m2 x0 x1 x2 x3 x4
          go_wp2_with (go_at_call 11; refine (CR.out _ ?_).mono ?_)
          · exact E.below B2
          intro e w3 hh
          first | (have m3 := hh.2; obtain rfl := hh.1; clear hh) | (intro m3; subst hh)
          have B3 := below_trans B2 m3
          have R3 := R2.call m3
          have L3 := R3.lt
          have z3 := B3.size
          clear m3 R2 B2
          have x0 : w3.cell? ⟨w.heap.size, 0, none⟩ = some (.int .u8 a0) := R3.cell 0
          have x1 : w3.cell? ⟨w.heap.size, 1, none⟩ = some (.int .u8 b0) := R3.cell 1
          have x2 : w3.cell? ⟨w.heap.size, 2, none⟩ = some (.int .u8 c0) := R3.cell 2
          have x3 : w3.cell? ⟨w.heap.size, 3, none⟩ = some (.int .u8 d0) := R3.cell 3
          have x4 : w3.cell? ⟨w.heap.size, 4, none⟩ = some (.int .i64 o0) := R3.cell 4
          go_wp2_with fail
          go_ret
          exact ⟨rfl, B3.alloc z3 _⟩

set_option maxRecDepth 100000 in
theorem lifted (os : Os) (started : os.Started) (H : Type) (enc : TypeId × Value → H) :
    ReturnsInHanded {} Tryd.checked os 4 .any (fun w args => (Rows.sixBackSpec.pre enc Tryd.prog Tryd.f4 [] false w args ∧ laidMetH Tryd.prog laidHere w) ∧ sizedMet enc Tryd.prog Tryd.f4 (OpenSpec.ofChange Rows.sixBackSpec) false w args)
      (Rows.sixBackSpec.post enc Tryd.prog Tryd.f4 false true false false) := by
  refine handed started (by kernel_rfl) Tryd.func4 #[.agg #[.int .u8 0, .int .u8 0, .int .u8 0, .int .u8 0, .int .i64 0], .string ⟨#[]⟩, .string ⟨#[]⟩, .string ⟨#[]⟩] (by kernel_rfl) (by kernel_rfl) (by kernel_rfl) (World.shaped_of_ZipB (by kernel_rfl) (by kernel_rfl))
    (by unfold laidHere; rw [MakeChecks.laidMetH_plain _ _ _ (by kernel_rfl)]; exact laidMet_laidAll _ (by kernel_rfl) (by kernel_rfl)) ?_
  intro W base args ds gs before hval0 hW E
  have hval : ∀ (j : Nat) t v, Tryd.f4.params[j]? = some t → args[j]? = some v → Value.okWide Tryd.prog W .any base t v := hval0
  have hW' := hW
  obtain ⟨p, q, hA0, hV, rfl, _, _⟩ := hW
  have hA : DataW.TrodAll enc Tryd.prog W 0 (fun _ => true) true Tryd.f4.params.toList args.toList ds p := hA0
  rw [Tryd.params4] at hA hval
  obtain ⟨v0, vs0, d0, ds0, p0, q0, hargs, rfl, rfl, r0, t0⟩ := trodAll_cons hA
  obtain ⟨v1, vs1, d1, ds1, p1, q1, rfl, rfl, rfl, r1, t1⟩ := trodAll_cons t0
  obtain ⟨v2, vs2, d2, ds2, p2, q2, rfl, rfl, rfl, r2, t2⟩ := trodAll_cons t1
  obtain ⟨v3, vs3, d3, ds3, p3, q3, rfl, rfl, rfl, r3, t3⟩ := trodAll_cons t2
  obtain ⟨rfl, rfl, rfl⟩ := trodAll_nil t3
  obtain rfl : args = #[v0, v1, v2, v3] := by cases args; simp_all
  obtain ⟨rfl, rfl⟩ := trodVars_none hV
  obtain ⟨a0, b0, c0, d0, o0, rfl, rfl, rfl, wa0, wb0, wc0, wd0, wo0⟩ := open_end (hval 0 25 v0 rfl rfl) r0
  obtain ⟨x1, rfl, rfl, rfl, w1⟩ := open_string Tryd.underlying9 (hval 1 9 v1 rfl rfl) r1
  obtain ⟨s1, rfl⟩ : ∃ l : List UInt8, x1 = ⟨l.toArray⟩ := ⟨x1.data.toList, by simp⟩
  obtain ⟨x2, rfl, rfl, rfl, w2⟩ := open_string Tryd.underlying9 (hval 2 9 v2 rfl rfl) r2
  obtain ⟨s2, rfl⟩ : ∃ l : List UInt8, x2 = ⟨l.toArray⟩ := ⟨x2.data.toList, by simp⟩
  obtain ⟨x3, rfl, rfl, rfl, w3⟩ := open_string Tryd.underlying9 (hval 3 9 v3 rfl rfl) r3
  obtain ⟨s3, rfl⟩ : ∃ l : List UInt8, x3 = ⟨l.toArray⟩ := ⟨x3.data.toList, by simp⟩
  clear hA0 hval0
  simp only [List.append_nil] at hW'
  refine (walk a0 b0 c0 d0 o0 (byte_wf wa0).1 (byte_wf wa0).2 (byte_wf wb0).1 (byte_wf wb0).2 (byte_wf wc0).1 (byte_wf wc0).2 (byte_wf wd0).1 (byte_wf wd0).2 (int_wf wo0).1 (int_wf wo0).2 s1 (by have := w1; rw [size_mk] at this; unfold maxLen at this; exact this) s2 (by have := w2; rw [size_mk] at this; unfold maxLen at this; exact this) s3 (by have := w3; rw [size_mk] at this; unfold maxLen at this; exact this) W E).mono fun e W' ⟨he, hb⟩ => ?_
  subst he
  exact ⟨_, rfl, told hW' (fun _ _ _ => trodAll_cons_mk (shut_bool Tryd.underlying4 _) trodAll_mk0) (fun _ => trodAll_cons_mk (shut_end wa0 wb0 wc0 wd0 wo0) (trodAll_cons_mk (shut_string Tryd.underlying9 w1) (trodAll_cons_mk (shut_string Tryd.underlying9 w2) (trodAll_cons_mk (shut_string Tryd.underlying9 w3) trodAll_mk0)))) (fun _ => rfl) hb⟩

theorem over : Rows.SixBackSaid :=
  OpenClaim.holds_of_wide 4 Tryd.f4 rfl rfl rfl rfl rfl rfl rfl ⟨rfl, rfl, rfl, rfl, rfl⟩ rfl rfl rfl rfl rfl (by kernel_rfl) Tryd.func4 (by kernel_rfl)
    (of_decide_eq_true (by kernel_rfl)) (by unfold Func.isWrapper; first | (rw [if_pos (by decide +kernel)]; kernel_rfl) | (rw [if_neg (by decide +kernel)]; exact ⟨rfl, rfl⟩))
    (fun os started H enc _ => lifted os started H enc)

theorem proved : Rows.SixBackCardSaid :=
  Claim7.holds_tied_plain_at .later [] Rows.sixBackCard.laidKinds true Rows.sixBackCard.stood.harness true
    over (fun _ h => by cases h) (by kernel_rfl) (fun _ h => by cases h) sixBack_row_tie rfl ⟨rfl, rfl⟩ (by kernel_rfl) rfl
    (fun f fn hf hfn => by
      obtain rfl : f = 4 := Option.some.inj ((show Tryd.prog.funcNamed "wharfinger/wharfingerlaw03.SixBack" = some 4 by kernel_rfl).symm.trans hf) |>.symm
      obtain rfl : fn = Tryd.f4 := (Option.some.inj (Tryd.func4.symm.trans hfn)).symm
      exact ⟨by kernel_rfl, fun j t ht => by
        rw [Tryd.params4] at ht
        have hm : t ∈ [25, 9, 9, 9] := by simpa using Array.mem_of_getElem? ht
        have hall : ([25, 9, 9, 9].all fun u => !Tryd.prog.wantsStandIn u) = true := by kernel_rfl
        exact (show Tryd.prog.wantsStandIn t = false by simpa using List.all_eq_true.1 hall t hm)⟩)
    (by kernel_rfl)
#print axioms proved
end Go.Proofs.YtocfklfomfbioaaDoor.sixBack
