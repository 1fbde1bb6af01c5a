/- Proved: for every end, every text and every place the law ExtFew answers true: an end that is read has a port from 1 on; a beginning of what is written is none. Conditions: none beyond the row's own (the library's variables start as the program's text lays them: the card ties them). -/
import Derived.Test.YtchemjppmncmdaaGreatDoorExtAwake
import Derived.Test.YtchemjppmncmdaaGreatDoorEndArg
import Derived.Test.YtchemjppmncmdaaGreatDoorCards
namespace Go.Proofs.YtchemjppmncmdaaGreatDoor.extFew
open Go.Proofs.YtchemjppmncmdaaGreatDoor Go.Proofs.YtchemjppmncmdaaGreatDoor.Quad Go.Proofs.YtchemjppmncmdaaGreatDoor.Six Go.Proofs.YtchemjppmncmdaaGreatDoor.Ext
open Go.ChangeShapes Go.WideShapes Go.ChangeAt Go.RowKit Go.Sort Go.ChangeMaps
theorem piece_at (l : List UInt8) (a b : Nat) : (ByteArray.mk l.toArray).extract a b = ⟨((l.drop a).take (b - a)).toArray⟩ := by
  apply ByteArray.ext
  simp
theorem shape_text (a b c d p : Int) : ∃ m, extL a b c d p = [124, 49, 124] ++ m ++ [124] := ⟨textL a b c d ++ [124] ++ Lib.itoa p, by unfold extL; simp⟩
theorem shape_port (n : Int) : ∃ m, portL n = [40, 124, 124, 124] ++ m ++ [124, 41] := ⟨_, rfl⟩
theorem extL_long {a b c d p : Int} (ha : 0 ≤ a ∧ a ≤ 255) (hb : 0 ≤ b ∧ b ≤ 255) (hc : 0 ≤ c ∧ c ≤ 255) (hd : 0 ≤ d ∧ d ≤ 255) (hp : 1 ≤ p ∧ p ≤ 65535) : (extL a b c d p).length ≤ 100 := by
  have h1 := itoa_short ha.1 ha.2; have h2 := itoa_short hb.1 hb.2; have h3 := itoa_short hc.1 hc.2; have h4 := itoa_short hd.1 hd.2
  have h5 := port_long (n := p) (by omega) hp.2
  unfold extL textL; simp; omega
theorem portL_long {p : Int} (hp : 1 ≤ p ∧ p ≤ 65535) : (portL p).length ≤ 100 := by
  have h5 := port_long (n := p) (by omega) hp.2
  unfold portL; simp; omega

set_option linter.unusedVariables false in
set_option maxHeartbeats 2000000 in
set_option maxRecDepth 100000 in
theorem walk (a0 b0 c0 d0 o0 : Int) (a0l : 0 ≤ a0) (a0h : a0 ≤ 255) (b0l : 0 ≤ b0) (b0h : b0 ≤ 255) (c0l : 0 ≤ c0) (c0h : c0 ≤ 255) (d0l : 0 ≤ d0) (d0h : d0 ≤ 255) (o0l : -9223372036854775808 ≤ o0) (o0h : o0 ≤ 9223372036854775807) (s1 : List UInt8) (z1 : s1.length ≤ 9223372036854775807) (n2 : Int) (l2 : -9223372036854775808 ≤ n2) (h2 : n2 ≤ 9223372036854775807) (w : World) (E : Env w) :
    Calls Tryz.prog 5 #[endV a0 b0 c0 d0 o0, str s1, .int .i64 n2] w fun e w' => e = .returned (.bool true) ∧ Below w.heap.size w w' := by
  by_cases c100 : 100 < s1.length
  · go_enter Tryz.func5, Tryz.ntmps5
    go_wp2_with (go_at_call 8; refine (awake_any _ ?_).mono ?_)
    · exact E.alloc _
    rintro e w1 ⟨rfl, b1⟩
    go_wp2_with fail
    go_ret
    exact ⟨rfl, ((Below.refl _ _).alloc (Nat.le_refl _) _).trans (b1.mono (by simp))⟩
  have CR := Lib.hid (fun W (EW : Env W) => Ext.read_any s1 (by omega) W EW)
  have hz : ∀ W, (Op.equalIn 10000 25 (endV 0 0 0 0 0) (endV 0 0 0 0 0)).run Tryz.prog W = .ok true W := fun W => by rw [equal_ends]; simp
  rcases extC_mem s1 with h0 | h0 | h0
  · obtain ⟨pl, ph⟩ := extP_some h0
    unfold readX at CR
    rw [h0] at CR
    clear h0
    generalize extH s1 0 = r0 at CR
    generalize extH s1 1 = r1 at CR
    generalize extH s1 2 = r2 at CR
    generalize extH s1 3 = r3 at CR
    generalize extP s1 = r4 at CR pl ph
    go_enter Tryz.func5, Tryz.ntmps5
    go_wp2_with (go_at_call 8; refine (awake_any _ ?_).mono ?_)
    · exact E.alloc _
    rintro e w1 ⟨rfl, b1⟩
    have B1 : Below w.heap.size w w1 := ((Below.refl _ _).alloc (Nat.le_refl _) _).trans (b1.mono (by simp))
    have R1 : IsRow w1 w.heap.size 25 #[.int .u8 a0, .int .u8 b0, .int .u8 c0, .int .u8 d0, .int .i64 o0] := (IsRow.made w _ _).call b1
    have z1 := B1.size
    clear b1
    have x0 : w1.cell? ⟨w.heap.size, 0, none⟩ = some (.int .u8 a0) := R1.cell 0
    have x1 : w1.cell? ⟨w.heap.size, 1, none⟩ = some (.int .u8 b0) := R1.cell 1
    have x2 : w1.cell? ⟨w.heap.size, 2, none⟩ = some (.int .u8 c0) := R1.cell 2
    have x3 : w1.cell? ⟨w.heap.size, 3, none⟩ = some (.int .u8 d0) := R1.cell 3
    have x4 : w1.cell? ⟨w.heap.size, 4, none⟩ = some (.int .i64 o0) := R1.cell 4
    go_wp2_with (go_at_call 11; refine (CR.out _ ?_).mono ?_)
    · exact E.below B1
    intro e w2 hh
    first | (have b2 := hh.2; obtain rfl := hh.1; clear hh) | (intro b2; subst hh)
    have B2 : Below w.heap.size w w2 := below_trans B1 b2
    have z2 := B2.size
    have R2 := R1.call b2
    have L2 := R2.lt
    clear b2 R1 x0 x1 x2 x3 x4
    by_cases hp : 1 ≤ o0 ∧ o0 ≤ 65535
    · have CT := Lib.hid (fun W (EW : Env W) => text_yes a0 b0 c0 d0 o0 a0l a0h b0l b0h c0l c0h d0l d0h hp.1 hp.2 W EW)
      have ll : (extL a0 b0 c0 d0 o0).length ≤ 100 := extL_long ⟨a0l, a0h⟩ ⟨b0l, b0h⟩ ⟨c0l, c0h⟩ ⟨d0l, d0h⟩ hp
      by_cases hat : n2 < 0
      · generalize extL a0 b0 c0 d0 o0 = tt at CT ll
        have x0 : w2.cell? ⟨w.heap.size, 0, none⟩ = some (.int .u8 a0) := R2.cell 0
        have x1 : w2.cell? ⟨w.heap.size, 1, none⟩ = some (.int .u8 b0) := R2.cell 1
        have x2 : w2.cell? ⟨w.heap.size, 2, none⟩ = some (.int .u8 c0) := R2.cell 2
        have x3 : w2.cell? ⟨w.heap.size, 3, none⟩ = some (.int .u8 d0) := R2.cell 3
        have x4 : w2.cell? ⟨w.heap.size, 4, none⟩ = some (.int .i64 o0) := R2.cell 4
        go_wp2_with (go_at_call 9; refine (CT.out _ ?_).mono ?_)
        · exact (E.below B2).alloc _
        intro e w4 hh
        first | (have b4 := hh.2; obtain rfl := hh.1; clear hh) | (intro b4; subst hh)
        have B4 : Below w.heap.size w w4 := (B2.alloc z2 _).trans (b4.mono (by first | omega | (simp; omega)))
        have z4 := B4.size
        go_wp2_with fail
        go_ret
        exact ⟨rfl, B4⟩
      · by_cases hln : ((extL a0 b0 c0 d0 o0).length : Int) ≤ n2
        · generalize extL a0 b0 c0 d0 o0 = tt at CT ll hln
          have x0 : w2.cell? ⟨w.heap.size, 0, none⟩ = some (.int .u8 a0) := R2.cell 0
          have x1 : w2.cell? ⟨w.heap.size, 1, none⟩ = some (.int .u8 b0) := R2.cell 1
          have x2 : w2.cell? ⟨w.heap.size, 2, none⟩ = some (.int .u8 c0) := R2.cell 2
          have x3 : w2.cell? ⟨w.heap.size, 3, none⟩ = some (.int .u8 d0) := R2.cell 3
          have x4 : w2.cell? ⟨w.heap.size, 4, none⟩ = some (.int .i64 o0) := R2.cell 4
          go_wp2_with (go_at_call 9; refine (CT.out _ ?_).mono ?_)
          · exact (E.below B2).alloc _
          intro e w4 hh
          first | (have b4 := hh.2; obtain rfl := hh.1; clear hh) | (intro b4; subst hh)
          have B4 : Below w.heap.size w w4 := (B2.alloc z2 _).trans (b4.mono (by first | omega | (simp; omega)))
          have z4 := B4.size
          go_wp2_with fail
          go_ret
          exact ⟨rfl, B4⟩
        · have CX := Lib.hid (fun W (EW : Env W) => show Calls Tryz.prog 11 #[.string ((ByteArray.mk (extL a0 b0 c0 d0 o0).toArray).extract 0 n2.toNat)] W fun e w' => e = .returned (.tuple #[endV 0 0 0 0 0, .int .i64 2]) ∧ Below W.heap.size W w' by
            have hC := ext_cut a0l b0l c0l d0l (show 0 ≤ o0 by omega) (k := n2.toNat) (show n2.toNat < (extL a0 b0 c0 d0 o0).length by omega)
            rw [piece_at, List.drop_zero, Nat.sub_zero]
            have c := Ext.read_any ((extL a0 b0 c0 d0 o0).take n2.toNat) (by simp; omega) W EW
            rw [readX_no (by rw [hC]; decide), hC] at c; exact c)
          generalize extL a0 b0 c0 d0 o0 = tt at CT ll hln CX
          have x0 : w2.cell? ⟨w.heap.size, 0, none⟩ = some (.int .u8 a0) := R2.cell 0
          have x1 : w2.cell? ⟨w.heap.size, 1, none⟩ = some (.int .u8 b0) := R2.cell 1
          have x2 : w2.cell? ⟨w.heap.size, 2, none⟩ = some (.int .u8 c0) := R2.cell 2
          have x3 : w2.cell? ⟨w.heap.size, 3, none⟩ = some (.int .u8 d0) := R2.cell 3
          have x4 : w2.cell? ⟨w.heap.size, 4, none⟩ = some (.int .i64 o0) := R2.cell 4
          go_wp2_with (go_at_call 9; refine (CT.out _ ?_).mono ?_)
          · exact (E.below B2).alloc _
          intro e w4 hh
          first | (have b4 := hh.2; obtain rfl := hh.1; clear hh) | (intro b4; subst hh)
          have B4 : Below w.heap.size w w4 := (B2.alloc z2 _).trans (b4.mono (by first | omega | (simp; omega)))
          have z4 := B4.size
          have hsl : ∀ W, (Instr.slice 9 (str tt) none (some (.int .i64 n2)) none).run Tryz.prog W = .ok (.string ((ByteArray.mk tt.toArray).extract 0 n2.toNat)) W := fun W => run_slice_string_h W _ _ Tryz.underlying9 .i64 _ (by omega) (by rw [size_of]; omega)
          go_wp2_with (go_at_call 11; refine (CX.out _ ?_).mono ?_)
          · exact E.below B4
          intro e w5 hh
          first | (have b5 := hh.2; obtain rfl := hh.1; clear hh) | (intro b5; subst hh)
          have B5 := below_trans B4 b5
          go_wp2_with fail
          go_ret
          exact ⟨rfl, B5.alloc B5.size _⟩
    · have CT := Lib.hid (fun W => text_no a0 b0 c0 d0 o0 (by omega) W)
      clear hp
      have x0 : w2.cell? ⟨w.heap.size, 0, none⟩ = some (.int .u8 a0) := R2.cell 0
      have x1 : w2.cell? ⟨w.heap.size, 1, none⟩ = some (.int .u8 b0) := R2.cell 1
      have x2 : w2.cell? ⟨w.heap.size, 2, none⟩ = some (.int .u8 c0) := R2.cell 2
      have x3 : w2.cell? ⟨w.heap.size, 3, none⟩ = some (.int .u8 d0) := R2.cell 3
      have x4 : w2.cell? ⟨w.heap.size, 4, none⟩ = some (.int .i64 o0) := R2.cell 4
      go_wp2_with (go_at_call 9; refine (CT.out _).mono ?_)
      intro e w4 hh
      first | (have b4 := hh.2; obtain rfl := hh.1; clear hh) | (intro b4; subst hh)
      have B4 : Below w.heap.size w w4 := (B2.alloc z2 _).trans (b4.mono (by first | omega | (simp; omega)))
      have z4 := B4.size
      go_wp2_with fail
      go_ret
      exact ⟨rfl, B4⟩
  · rw [readX_no (by rw [h0]; decide), h0] at CR
    clear h0
    go_enter Tryz.func5, Tryz.ntmps5
    go_wp2_with (go_at_call 8; refine (awake_any _ ?_).mono ?_)
    · exact E.alloc _
    rintro e w1 ⟨rfl, b1⟩
    have B1 : Below w.heap.size w w1 := ((Below.refl _ _).alloc (Nat.le_refl _) _).trans (b1.mono (by simp))
    have R1 : IsRow w1 w.heap.size 25 #[.int .u8 a0, .int .u8 b0, .int .u8 c0, .int .u8 d0, .int .i64 o0] := (IsRow.made w _ _).call b1
    have z1 := B1.size
    clear b1
    have x0 : w1.cell? ⟨w.heap.size, 0, none⟩ = some (.int .u8 a0) := R1.cell 0
    have x1 : w1.cell? ⟨w.heap.size, 1, none⟩ = some (.int .u8 b0) := R1.cell 1
    have x2 : w1.cell? ⟨w.heap.size, 2, none⟩ = some (.int .u8 c0) := R1.cell 2
    have x3 : w1.cell? ⟨w.heap.size, 3, none⟩ = some (.int .u8 d0) := R1.cell 3
    have x4 : w1.cell? ⟨w.heap.size, 4, none⟩ = some (.int .i64 o0) := R1.cell 4
    go_wp2_with (go_at_call 11; refine (CR.out _ ?_).mono ?_)
    · exact E.below B1
    intro e w2 hh
    first | (have b2 := hh.2; obtain rfl := hh.1; clear hh) | (intro b2; subst hh)
    have B2 : Below w.heap.size w w2 := below_trans B1 b2
    have z2 := B2.size
    have R2 := R1.call b2
    have L2 := R2.lt
    clear b2 R1 x0 x1 x2 x3 x4
    by_cases hp : 1 ≤ o0 ∧ o0 ≤ 65535
    · have CT := Lib.hid (fun W (EW : Env W) => text_yes a0 b0 c0 d0 o0 a0l a0h b0l b0h c0l c0h d0l d0h hp.1 hp.2 W EW)
      have ll : (extL a0 b0 c0 d0 o0).length ≤ 100 := extL_long ⟨a0l, a0h⟩ ⟨b0l, b0h⟩ ⟨c0l, c0h⟩ ⟨d0l, d0h⟩ hp
      by_cases hat : n2 < 0
      · generalize extL a0 b0 c0 d0 o0 = tt at CT ll
        have x0 : w2.cell? ⟨w.heap.size, 0, none⟩ = some (.int .u8 a0) := R2.cell 0
        have x1 : w2.cell? ⟨w.heap.size, 1, none⟩ = some (.int .u8 b0) := R2.cell 1
        have x2 : w2.cell? ⟨w.heap.size, 2, none⟩ = some (.int .u8 c0) := R2.cell 2
        have x3 : w2.cell? ⟨w.heap.size, 3, none⟩ = some (.int .u8 d0) := R2.cell 3
        have x4 : w2.cell? ⟨w.heap.size, 4, none⟩ = some (.int .i64 o0) := R2.cell 4
        go_wp2_with (go_at_call 9; refine (CT.out _ ?_).mono ?_)
        · exact (E.below B2).alloc _
        intro e w4 hh
        first | (have b4 := hh.2; obtain rfl := hh.1; clear hh) | (intro b4; subst hh)
        have B4 : Below w.heap.size w w4 := (B2.alloc z2 _).trans (b4.mono (by first | omega | (simp; omega)))
        have z4 := B4.size
        go_wp2_with fail
        go_ret
        exact ⟨rfl, B4⟩
      · by_cases hln : ((extL a0 b0 c0 d0 o0).length : Int) ≤ n2
        · generalize extL a0 b0 c0 d0 o0 = tt at CT ll hln
          have x0 : w2.cell? ⟨w.heap.size, 0, none⟩ = some (.int .u8 a0) := R2.cell 0
          have x1 : w2.cell? ⟨w.heap.size, 1, none⟩ = some (.int .u8 b0) := R2.cell 1
          have x2 : w2.cell? ⟨w.heap.size, 2, none⟩ = some (.int .u8 c0) := R2.cell 2
          have x3 : w2.cell? ⟨w.heap.size, 3, none⟩ = some (.int .u8 d0) := R2.cell 3
          have x4 : w2.cell? ⟨w.heap.size, 4, none⟩ = some (.int .i64 o0) := R2.cell 4
          go_wp2_with (go_at_call 9; refine (CT.out _ ?_).mono ?_)
          · exact (E.below B2).alloc _
          intro e w4 hh
          first | (have b4 := hh.2; obtain rfl := hh.1; clear hh) | (intro b4; subst hh)
          have B4 : Below w.heap.size w w4 := (B2.alloc z2 _).trans (b4.mono (by first | omega | (simp; omega)))
          have z4 := B4.size
          go_wp2_with fail
          go_ret
          exact ⟨rfl, B4⟩
        · have CX := Lib.hid (fun W (EW : Env W) => show Calls Tryz.prog 11 #[.string ((ByteArray.mk (extL a0 b0 c0 d0 o0).toArray).extract 0 n2.toNat)] W fun e w' => e = .returned (.tuple #[endV 0 0 0 0 0, .int .i64 2]) ∧ Below W.heap.size W w' by
            have hC := ext_cut a0l b0l c0l d0l (show 0 ≤ o0 by omega) (k := n2.toNat) (show n2.toNat < (extL a0 b0 c0 d0 o0).length by omega)
            rw [piece_at, List.drop_zero, Nat.sub_zero]
            have c := Ext.read_any ((extL a0 b0 c0 d0 o0).take n2.toNat) (by simp; omega) W EW
            rw [readX_no (by rw [hC]; decide), hC] at c; exact c)
          generalize extL a0 b0 c0 d0 o0 = tt at CT ll hln CX
          have x0 : w2.cell? ⟨w.heap.size, 0, none⟩ = some (.int .u8 a0) := R2.cell 0
          have x1 : w2.cell? ⟨w.heap.size, 1, none⟩ = some (.int .u8 b0) := R2.cell 1
          have x2 : w2.cell? ⟨w.heap.size, 2, none⟩ = some (.int .u8 c0) := R2.cell 2
          have x3 : w2.cell? ⟨w.heap.size, 3, none⟩ = some (.int .u8 d0) := R2.cell 3
          have x4 : w2.cell? ⟨w.heap.size, 4, none⟩ = some (.int .i64 o0) := R2.cell 4
          go_wp2_with (go_at_call 9; refine (CT.out _ ?_).mono ?_)
          · exact (E.below B2).alloc _
          intro e w4 hh
          first | (have b4 := hh.2; obtain rfl := hh.1; clear hh) | (intro b4; subst hh)
          have B4 : Below w.heap.size w w4 := (B2.alloc z2 _).trans (b4.mono (by first | omega | (simp; omega)))
          have z4 := B4.size
          have hsl : ∀ W, (Instr.slice 9 (str tt) none (some (.int .i64 n2)) none).run Tryz.prog W = .ok (.string ((ByteArray.mk tt.toArray).extract 0 n2.toNat)) W := fun W => run_slice_string_h W _ _ Tryz.underlying9 .i64 _ (by omega) (by rw [size_of]; omega)
          go_wp2_with (go_at_call 11; refine (CX.out _ ?_).mono ?_)
          · exact E.below B4
          intro e w5 hh
          first | (have b5 := hh.2; obtain rfl := hh.1; clear hh) | (intro b5; subst hh)
          have B5 := below_trans B4 b5
          go_wp2_with fail
          go_ret
          exact ⟨rfl, B5.alloc B5.size _⟩
    · have CT := Lib.hid (fun W => text_no a0 b0 c0 d0 o0 (by omega) W)
      clear hp
      have x0 : w2.cell? ⟨w.heap.size, 0, none⟩ = some (.int .u8 a0) := R2.cell 0
      have x1 : w2.cell? ⟨w.heap.size, 1, none⟩ = some (.int .u8 b0) := R2.cell 1
      have x2 : w2.cell? ⟨w.heap.size, 2, none⟩ = some (.int .u8 c0) := R2.cell 2
      have x3 : w2.cell? ⟨w.heap.size, 3, none⟩ = some (.int .u8 d0) := R2.cell 3
      have x4 : w2.cell? ⟨w.heap.size, 4, none⟩ = some (.int .i64 o0) := R2.cell 4
      go_wp2_with (go_at_call 9; refine (CT.out _).mono ?_)
      intro e w4 hh
      first | (have b4 := hh.2; obtain rfl := hh.1; clear hh) | (intro b4; subst hh)
      have B4 : Below w.heap.size w w4 := (B2.alloc z2 _).trans (b4.mono (by first | omega | (simp; omega)))
      have z4 := B4.size
      go_wp2_with fail
      go_ret
      exact ⟨rfl, B4⟩
  · rw [readX_no (by rw [h0]; decide), h0] at CR
    clear h0
    go_enter Tryz.func5, Tryz.ntmps5
    go_wp2_with (go_at_call 8; refine (awake_any _ ?_).mono ?_)
    · exact E.alloc _
    rintro e w1 ⟨rfl, b1⟩
    have B1 : Below w.heap.size w w1 := ((Below.refl _ _).alloc (Nat.le_refl _) _).trans (b1.mono (by simp))
    have R1 : IsRow w1 w.heap.size 25 #[.int .u8 a0, .int .u8 b0, .int .u8 c0, .int .u8 d0, .int .i64 o0] := (IsRow.made w _ _).call b1
    have z1 := B1.size
    clear b1
    have x0 : w1.cell? ⟨w.heap.size, 0, none⟩ = some (.int .u8 a0) := R1.cell 0
    have x1 : w1.cell? ⟨w.heap.size, 1, none⟩ = some (.int .u8 b0) := R1.cell 1
    have x2 : w1.cell? ⟨w.heap.size, 2, none⟩ = some (.int .u8 c0) := R1.cell 2
    have x3 : w1.cell? ⟨w.heap.size, 3, none⟩ = some (.int .u8 d0) := R1.cell 3
    have x4 : w1.cell? ⟨w.heap.size, 4, none⟩ = some (.int .i64 o0) := R1.cell 4
    go_wp2_with (go_at_call 11; refine (CR.out _ ?_).mono ?_)
    · exact E.below B1
    intro e w2 hh
    first | (have b2 := hh.2; obtain rfl := hh.1; clear hh) | (intro b2; subst hh)
    have B2 : Below w.heap.size w w2 := below_trans B1 b2
    have z2 := B2.size
    have R2 := R1.call b2
    have L2 := R2.lt
    clear b2 R1 x0 x1 x2 x3 x4
    by_cases hp : 1 ≤ o0 ∧ o0 ≤ 65535
    · have CT := Lib.hid (fun W (EW : Env W) => text_yes a0 b0 c0 d0 o0 a0l a0h b0l b0h c0l c0h d0l d0h hp.1 hp.2 W EW)
      have ll : (extL a0 b0 c0 d0 o0).length ≤ 100 := extL_long ⟨a0l, a0h⟩ ⟨b0l, b0h⟩ ⟨c0l, c0h⟩ ⟨d0l, d0h⟩ hp
      by_cases hat : n2 < 0
      · generalize extL a0 b0 c0 d0 o0 = tt at CT ll
        have x0 : w2.cell? ⟨w.heap.size, 0, none⟩ = some (.int .u8 a0) := R2.cell 0
        have x1 : w2.cell? ⟨w.heap.size, 1, none⟩ = some (.int .u8 b0) := R2.cell 1
        have x2 : w2.cell? ⟨w.heap.size, 2, none⟩ = some (.int .u8 c0) := R2.cell 2
        have x3 : w2.cell? ⟨w.heap.size, 3, none⟩ = some (.int .u8 d0) := R2.cell 3
        have x4 : w2.cell? ⟨w.heap.size, 4, none⟩ = some (.int .i64 o0) := R2.cell 4
        go_wp2_with (go_at_call 9; refine (CT.out _ ?_).mono ?_)
        · exact (E.below B2).alloc _
        intro e w4 hh
        first | (have b4 := hh.2; obtain rfl := hh.1; clear hh) | (intro b4; subst hh)
        have B4 : Below w.heap.size w w4 := (B2.alloc z2 _).trans (b4.mono (by first | omega | (simp; omega)))
        have z4 := B4.size
        go_wp2_with fail
        go_ret
        exact ⟨rfl, B4⟩
      · by_cases hln : ((extL a0 b0 c0 d0 o0).length : Int) ≤ n2
        · generalize extL a0 b0 c0 d0 o0 = tt at CT ll hln
          have x0 : w2.cell? ⟨w.heap.size, 0, none⟩ = some (.int .u8 a0) := R2.cell 0
          have x1 : w2.cell? ⟨w.heap.size, 1, none⟩ = some (.int .u8 b0) := R2.cell 1
          have x2 : w2.cell? ⟨w.heap.size, 2, none⟩ = some (.int .u8 c0) := R2.cell 2
          have x3 : w2.cell? ⟨w.heap.size, 3, none⟩ = some (.int .u8 d0) := R2.cell 3
          have x4 : w2.cell? ⟨w.heap.size, 4, none⟩ = some (.int .i64 o0) := R2.cell 4
          go_wp2_with (go_at_call 9; refine (CT.out _ ?_).mono ?_)
          · exact (E.below B2).alloc _
          intro e w4 hh
          first | (have b4 := hh.2; obtain rfl := hh.1; clear hh) | (intro b4; subst hh)
          have B4 : Below w.heap.size w w4 := (B2.alloc z2 _).trans (b4.mono (by first | omega | (simp; omega)))
          have z4 := B4.size
          go_wp2_with fail
          go_ret
          exact ⟨rfl, B4⟩
        · have CX := Lib.hid (fun W (EW : Env W) => show Calls Tryz.prog 11 #[.string ((ByteArray.mk (extL a0 b0 c0 d0 o0).toArray).extract 0 n2.toNat)] W fun e w' => e = .returned (.tuple #[endV 0 0 0 0 0, .int .i64 2]) ∧ Below W.heap.size W w' by
            have hC := ext_cut a0l b0l c0l d0l (show 0 ≤ o0 by omega) (k := n2.toNat) (show n2.toNat < (extL a0 b0 c0 d0 o0).length by omega)
            rw [piece_at, List.drop_zero, Nat.sub_zero]
            have c := Ext.read_any ((extL a0 b0 c0 d0 o0).take n2.toNat) (by simp; omega) W EW
            rw [readX_no (by rw [hC]; decide), hC] at c; exact c)
          generalize extL a0 b0 c0 d0 o0 = tt at CT ll hln CX
          have x0 : w2.cell? ⟨w.heap.size, 0, none⟩ = some (.int .u8 a0) := R2.cell 0
          have x1 : w2.cell? ⟨w.heap.size, 1, none⟩ = some (.int .u8 b0) := R2.cell 1
          have x2 : w2.cell? ⟨w.heap.size, 2, none⟩ = some (.int .u8 c0) := R2.cell 2
          have x3 : w2.cell? ⟨w.heap.size, 3, none⟩ = some (.int .u8 d0) := R2.cell 3
          have x4 : w2.cell? ⟨w.heap.size, 4, none⟩ = some (.int .i64 o0) := R2.cell 4
          go_wp2_with (go_at_call 9; refine (CT.out _ ?_).mono ?_)
          · exact (E.below B2).alloc _
          intro e w4 hh
          first | (have b4 := hh.2; obtain rfl := hh.1; clear hh) | (intro b4; subst hh)
          have B4 : Below w.heap.size w w4 := (B2.alloc z2 _).trans (b4.mono (by first | omega | (simp; omega)))
          have z4 := B4.size
          have hsl : ∀ W, (Instr.slice 9 (str tt) none (some (.int .i64 n2)) none).run Tryz.prog W = .ok (.string ((ByteArray.mk tt.toArray).extract 0 n2.toNat)) W := fun W => run_slice_string_h W _ _ Tryz.underlying9 .i64 _ (by omega) (by rw [size_of]; omega)
          go_wp2_with (go_at_call 11; refine (CX.out _ ?_).mono ?_)
          · exact E.below B4
          intro e w5 hh
          first | (have b5 := hh.2; obtain rfl := hh.1; clear hh) | (intro b5; subst hh)
          have B5 := below_trans B4 b5
          go_wp2_with fail
          go_ret
          exact ⟨rfl, B5.alloc B5.size _⟩
    · have CT := Lib.hid (fun W => text_no a0 b0 c0 d0 o0 (by omega) W)
      clear hp
      have x0 : w2.cell? ⟨w.heap.size, 0, none⟩ = some (.int .u8 a0) := R2.cell 0
      have x1 : w2.cell? ⟨w.heap.size, 1, none⟩ = some (.int .u8 b0) := R2.cell 1
      have x2 : w2.cell? ⟨w.heap.size, 2, none⟩ = some (.int .u8 c0) := R2.cell 2
      have x3 : w2.cell? ⟨w.heap.size, 3, none⟩ = some (.int .u8 d0) := R2.cell 3
      have x4 : w2.cell? ⟨w.heap.size, 4, none⟩ = some (.int .i64 o0) := R2.cell 4
      go_wp2_with (go_at_call 9; refine (CT.out _).mono ?_)
      intro e w4 hh
      first | (have b4 := hh.2; obtain rfl := hh.1; clear hh) | (intro b4; subst hh)
      have B4 : Below w.heap.size w w4 := (B2.alloc z2 _).trans (b4.mono (by first | omega | (simp; omega)))
      have z4 := B4.size
      go_wp2_with fail
      go_ret
      exact ⟨rfl, B4⟩

set_option maxRecDepth 100000 in
theorem lifted (os : Os) (started : os.Started) (H : Type) (enc : TypeId × Value → H) :
    ReturnsInHanded {} Tryz.checked os 5 .any (fun w args => (Rows.extFewSpec.pre enc Tryz.prog Tryz.f5 [] false w args ∧ laidMetH Tryz.prog laidHere w) ∧ sizedMet enc Tryz.prog Tryz.f5 (OpenSpec.ofChange Rows.extFewSpec) false w args)
      (Rows.extFewSpec.post enc Tryz.prog Tryz.f5 false true false false) := by
  refine handed started (by kernel_rfl) Tryz.func5 #[.agg #[.int .u8 0, .int .u8 0, .int .u8 0, .int .u8 0, .int .i64 0], .string ⟨#[]⟩, .int .i64 0] (by kernel_rfl) (by kernel_rfl) (by kernel_rfl) (World.shaped_of_ZipB (by kernel_rfl) (by kernel_rfl)) ?_
  intro W base args ds gs before hval0 hW E
  have hval : ∀ (j : Nat) t v, Tryz.f5.params[j]? = some t → args[j]? = some v → Value.okWide Tryz.prog W .any base t v := hval0
  have hW' := hW
  obtain ⟨p, q, hA0, hV, rfl, _, _⟩ := hW
  have hA : DataW.TrodAll enc Tryz.prog W 0 (fun _ => true) true Tryz.f5.params.toList args.toList ds p := hA0
  rw [Tryz.params5] at hA hval
  obtain ⟨v0, vs0, d0, ds0, p0, q0, hargs, rfl, rfl, r0, t0⟩ := trodAll_cons hA
  obtain ⟨v1, vs1, d1, ds1, p1, q1, rfl, rfl, rfl, r1, t1⟩ := trodAll_cons t0
  obtain ⟨v2, vs2, d2, ds2, p2, q2, rfl, rfl, rfl, r2, t2⟩ := trodAll_cons t1
  obtain ⟨rfl, rfl, rfl⟩ := trodAll_nil t2
  obtain rfl : args = #[v0, v1, v2] := by cases args; simp_all
  obtain ⟨rfl, rfl⟩ := trodVars_none hV
  obtain ⟨a0, b0, c0, d0, o0, rfl, rfl, rfl, wa0, wb0, wc0, wd0, wo0⟩ := open_end (hval 0 25 v0 rfl rfl) r0
  obtain ⟨x1, rfl, rfl, rfl, w1⟩ := open_string Tryz.underlying9 (hval 1 9 v1 rfl rfl) r1
  obtain ⟨s1, rfl⟩ : ∃ l : List UInt8, x1 = ⟨l.toArray⟩ := ⟨x1.data.toList, by simp⟩
  obtain ⟨n2, rfl, rfl, rfl, w2⟩ := open_int Tryz.underlying3 (hval 2 3 v2 rfl rfl) r2
  clear hA0 hval0
  simp only [List.append_nil] at hW'
  refine (walk a0 b0 c0 d0 o0 (byte_wf wa0).1 (byte_wf wa0).2 (byte_wf wb0).1 (byte_wf wb0).2 (byte_wf wc0).1 (byte_wf wc0).2 (byte_wf wd0).1 (byte_wf wd0).2 (int_wf wo0).1 (int_wf wo0).2 s1 (by have := w1; rw [size_mk] at this; unfold maxLen at this; exact this) n2 (int_wf w2).1 (int_wf w2).2 W E).mono fun e W' ⟨he, hb⟩ => ?_
  subst he
  exact ⟨_, rfl, told hW' (fun _ _ _ => trodAll_cons_mk (shut_bool Tryz.underlying4 _) trodAll_mk0) (fun _ => trodAll_cons_mk (shut_end wa0 wb0 wc0 wd0 wo0) (trodAll_cons_mk (shut_string Tryz.underlying9 w1) (trodAll_cons_mk (shut_int Tryz.underlying3 w2) trodAll_mk0))) (fun _ => rfl) hb⟩

theorem over : Rows.ExtFewSaid :=
  OpenClaim.holds_of_wide 5 Tryz.f5 rfl rfl rfl rfl rfl rfl rfl ⟨rfl, rfl, rfl, rfl, rfl⟩ rfl rfl rfl rfl rfl (by kernel_rfl) Tryz.func5 (by kernel_rfl)
    (of_decide_eq_true (by kernel_rfl)) (by unfold Func.isWrapper; first | (rw [if_pos (by decide +kernel)]; kernel_rfl) | (rw [if_neg (by decide +kernel)]; exact ⟨rfl, rfl⟩))
    (fun os started H enc _ => lifted os started H enc)

theorem proved : Rows.ExtFewCardSaid :=
  Claim7.holds_tied_plain_at .later [] Rows.extFewCard.laidKinds true Rows.extFewCard.stood.harness true
    over (fun _ h => by cases h) (by kernel_rfl) (fun _ h => by cases h) extFew_row_tie rfl ⟨rfl, rfl⟩ (by kernel_rfl) rfl
    (fun f fn hf hfn => by
      obtain rfl : f = 5 := Option.some.inj ((show Tryz.prog.funcNamed "wharfinger/wharfingerlaw04.ExtFew" = some 5 by kernel_rfl).symm.trans hf) |>.symm
      obtain rfl : fn = Tryz.f5 := (Option.some.inj (Tryz.func5.symm.trans hfn)).symm
      exact ⟨by kernel_rfl, fun j t ht => by
        rw [Tryz.params5] at ht
        have hm : t ∈ [25, 9, 3] := by simpa using Array.mem_of_getElem? ht
        have hall : ([25, 9, 3].all fun u => !Tryz.prog.wantsStandIn u) = true := by kernel_rfl
        exact (show Tryz.prog.wantsStandIn t = false by simpa using List.all_eq_true.1 hall t hm)⟩)
    (by kernel_rfl)
#print axioms proved
end Go.Proofs.YtchemjppmncmdaaGreatDoor.extFew
