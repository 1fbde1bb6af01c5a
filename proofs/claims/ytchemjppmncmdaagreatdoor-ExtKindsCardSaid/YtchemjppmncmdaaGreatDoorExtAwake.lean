/- The chapter's examples hold: wharfingerlaw04.awake answers true. -/
import Derived.Test.YtchemjppmncmdaaGreatDoorExtEnd
import Derived.Test.YtchemjppmncmdaaGreatDoorExtText
namespace Go.Proofs.YtchemjppmncmdaaGreatDoor.Ext
open Go.Proofs.YtchemjppmncmdaaGreatDoor.Quad Go.Proofs.YtchemjppmncmdaaGreatDoor.Six Go.Proofs.YtchemjppmncmdaaGreatDoor
open Go.ChangeShapes Go.WideShapes Go.ChangeAt Go.RowKit Go.Sort

theorem itoa0 : Lib.itoa 0 = [48] := by rw [itoa_pos (by omega)]; exact Lib.decDigits_one (i := 0) (by omega)
theorem itoa10 : Lib.itoa 10 = [49, 48] := by rw [itoa_pos (by omega)]; exact Lib.decDigits_two (i := 10) (by omega) (by omega)
theorem itoa80 : Lib.itoa 80 = [56, 48] := by rw [itoa_pos (by omega)]; exact Lib.decDigits_two (i := 80) (by omega) (by omega)
def one : List UInt8 := [124, 49, 124, 49, 48, 46, 48, 46, 48, 46, 49, 124, 56, 48, 124]
def two : List UInt8 := [124, 50, 124, 58, 58, 49, 124, 56, 48, 124]
def pt : List UInt8 := [40, 124, 124, 124, 56, 48, 124, 41]
def hd : List UInt8 := [50, 50, 57, 32, 40, 124, 124, 124, 56, 48, 124, 41]
theorem ext1 : extL 10 0 0 1 80 = one := by
  unfold extL textL
  rw [itoa10, itoa0, itoa1', itoa80]; rfl
theorem port1 : portL 80 = pt := by
  unfold portL; rw [itoa80]; rfl
theorem readX1 : readX one = .tuple #[endV 10 0 0 1 80, .int .i64 0] := by
  obtain ⟨h, h0, h1, h2, h3, h4⟩ := ext_text (a := 10) (b := 0) (c := 0) (d := 1) (p := 80) (by omega) (by omega) (by omega) (by omega) (by omega)
  rw [ext1] at h h0 h1 h2 h3 h4
  unfold readX
  rw [h, h0, h1, h2, h3, h4]
theorem readX2 : readX two = .tuple #[endV 0 0 0 0 0, .int .i64 8] := by
  have h := (ext_kind (k := 50) (h := [58, 58, 49]) (by decide) (by decide)).1 (by decide)
  have e : extC two = 8 := h
  rw [readX_no (by rw [e]; decide), e]
theorem held1 : holdB (insL hd) = true ∧ holdN (insL hd) = 80 := by
  have h := hold_port (n := 80) (by omega) (by omega)
  rw [itoa80] at h
  have e : insL hd = [124, 124, 124] ++ [56, 48] ++ [124] := by decide
  rw [e]; exact h

theorem awake_text (w : World) (E : Env w) : Calls Tryz.prog 9 #[endV 10 0 0 1 80] w fun e w' => e = .returned (.tuple #[.string ⟨#[124, 49, 124, 49, 48, 46, 48, 46, 48, 46, 49, 124, 56, 48, 124]⟩, .bool true]) ∧ Below w.heap.size w w' := by
  have c := text_yes 10 0 0 1 80 (by omega) (by omega) (by omega) (by omega) (by omega) (by omega) (by omega) (by omega) (by omega) (by omega) w E
  rw [ext1] at c
  exact c
theorem awake_read (w : World) (E : Env w) : Calls Tryz.prog 11 #[.string ⟨#[124, 49, 124, 49, 48, 46, 48, 46, 48, 46, 49, 124, 56, 48, 124]⟩] w fun e w' => e = .returned (.tuple #[endV 10 0 0 1 80, .int .i64 0]) ∧ Below w.heap.size w w' := by
  have c := read_any one (by decide) w E
  rw [readX1] at c
  exact c
theorem awake_read2 (w : World) (E : Env w) : Calls Tryz.prog 11 #[.string ⟨#[124, 50, 124, 58, 58, 49, 124, 56, 48, 124]⟩] w fun e w' => e = .returned (.tuple #[endV 0 0 0 0 0, .int .i64 8]) ∧ Below w.heap.size w w' := by
  have c := read_any two (by decide) w E
  rw [readX2] at c
  exact c
theorem awake_find (w : World) (E : Env w) : Calls Tryz.prog 15 #[.string ⟨#[50, 50, 57, 32, 40, 124, 124, 124, 56, 48, 124, 41]⟩] w fun e w' => e = .returned (.tuple #[.int .i64 80, .bool true]) ∧ Below w.heap.size w w' := by
  have c := find_any hd (by decide) w E
  rw [held1.1, held1.2] at c
  exact c
theorem awake_port (w : World) (E : Env w) : Calls Tryz.prog 13 #[.int .i64 80] w fun e w' => e = .returned (.tuple #[.string ⟨#[40, 124, 124, 124, 56, 48, 124, 41]⟩, .bool true]) ∧ Below w.heap.size w w' := by
  have c := port_yes 80 (by omega) (by omega) w E
  rw [port1] at c
  exact c

set_option maxHeartbeats 1000000 in
set_option maxRecDepth 100000 in
theorem awake_any (w : World) (E : Env w) : Calls Tryz.prog 8 #[] w fun e w' => e = .returned (.bool true) ∧ Below w.heap.size w w' := by
  go_enter Tryz.func8, Tryz.ntmps8
  go_wp2_with (go_at_call 11; with_reducible refine (awake_read _ ?_).mono ?_)
  · exact E
  rintro e w1 ⟨rfl, B1⟩
  go_wp2_with (go_at_call 11; with_reducible refine (awake_read2 _ ?_).mono ?_)
  · exact (E.below B1).alloc _
  rintro e w2 ⟨rfl, b2⟩
  have B2 : Below w.heap.size w w2 := (B1.alloc B1.size _).trans (b2.mono (by have := B1.size; simp; omega))
  have R2 : IsRow w2 w1.heap.size 25 #[.int .u8 10, .int .u8 0, .int .u8 0, .int .u8 1, .int .i64 80] := (IsRow.made w1 _ _).call b2
  clear b2 B1
  go_wp2_with (go_at_call 15; with_reducible refine (awake_find _ ?_).mono ?_)
  · exact (E.below B2).alloc _
  rintro e w3 ⟨rfl, b3⟩
  have B3 : Below w.heap.size w w3 := (B2.alloc B2.size _).trans (b3.mono (by have := B2.size; simp; omega))
  have R3 := (R2.alloc _).call b3
  clear b3 B2 R2
  go_wp2_with (go_at_call 13; with_reducible refine (awake_port _ ?_).mono ?_)
  · exact E.below B3
  rintro e w4 ⟨rfl, b4⟩
  have B4 := below_trans B3 b4
  have R4 := R3.call b4
  have hN := R4.lt
  clear b4 B3 R3
  have c0 : w4.cell? ⟨w1.heap.size, 0, none⟩ = some (.int .u8 10) := R4.cell 0
  have c1 : w4.cell? ⟨w1.heap.size, 1, none⟩ = some (.int .u8 0) := R4.cell 1
  have c2 : w4.cell? ⟨w1.heap.size, 2, none⟩ = some (.int .u8 0) := R4.cell 2
  have c3 : w4.cell? ⟨w1.heap.size, 3, none⟩ = some (.int .u8 1) := R4.cell 3
  have c4 : w4.cell? ⟨w1.heap.size, 4, none⟩ = some (.int .i64 80) := R4.cell 4
  go_wp2_with (go_at_call 9; with_reducible refine (awake_text _ ?_).mono ?_)
  · exact E.below B4
  rintro e w5 ⟨rfl, b5⟩
  have B5 := below_trans B4 b5
  go_wp2_with fail
  go_ret
  exact ⟨rfl, B5⟩

#print axioms awake_any
end Go.Proofs.YtchemjppmncmdaaGreatDoor.Ext
