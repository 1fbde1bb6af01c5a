/- The chapter's example holds: wharfingerlaw03.awake answers true. -/
import Derived.Test.YtocfklfomfbioaaDoorSixRead
import Derived.Test.YtocfklfomfbioaaDoorSixText
namespace Go.Proofs.YtocfklfomfbioaaDoor.Six
open Go.Proofs.YtocfklfomfbioaaDoor.Quad
open Go.ChangeShapes Go.WideShapes Go.ChangeAt Go.RowKit Go.Sort

theorem itoa0 : Lib.itoa 0 = [48] := by rw [itoa_pos (by omega)]; exact Lib.decDigits_one (i := 0) (by omega)
theorem itoa1 : Lib.itoa 1 = [49] := by rw [itoa_pos (by omega)]; exact Lib.decDigits_one (i := 1) (by omega)
theorem itoa2 : Lib.itoa 2 = [50] := by rw [itoa_pos (by omega)]; exact Lib.decDigits_one (i := 2) (by omega)
theorem itoa10 : Lib.itoa 10 = [49, 48] := by rw [itoa_pos (by omega)]; exact Lib.decDigits_two (i := 10) (by omega) (by omega)
theorem six1 : sixL 10 0 0 1 258 = [49, 48, 44, 48, 44, 48, 44, 49, 44, 49, 44, 50] := by
  unfold sixL
  rw [show (258 : Int) / 256 = 1 from rfl, show (258 : Int) % 256 = 2 from rfl, itoa10, itoa0, itoa1, itoa2]; rfl
theorem readV1 : readV [49, 48, 44, 48, 44, 48, 44, 49, 44, 49, 44, 50] = .tuple #[endV 10 0 0 1 258, .bool true] := by
  obtain ⟨h, h0, h1, h2, h3, h4⟩ := six_text (a := 10) (b := 0) (c := 0) (d := 1) (p := 258) (by omega) (by omega) (by omega) (by omega) (by omega)
  rw [six1] at h h0 h1 h2 h3 h4
  unfold readV
  rw [h, h0, h1, h2, h3, h4]

theorem awake_text (w : World) (E : Env w) : Calls Tryd.prog 9 #[endV 10 0 0 1 258] w fun e w' => e = .returned (.tuple #[.string ⟨#[49, 48, 44, 48, 44, 48, 44, 49, 44, 49, 44, 50]⟩, .bool true]) ∧ Below w.heap.size w w' := by
  have c := text_yes 10 0 0 1 258 (by omega) (by omega) (by omega) (by omega) (by omega) (by omega) (by omega) (by omega) (by omega) (by omega) w E
  rw [six1] at c
  exact c
theorem awake_read (w : World) (E : Env w) : Calls Tryd.prog 11 #[.string ⟨#[49, 48, 44, 48, 44, 48, 44, 49, 44, 49, 44, 50]⟩] w fun e w' => e = .returned (.tuple #[endV 10 0 0 1 258, .bool true]) ∧ Below w.heap.size w w' := by
  have c := read_any [49, 48, 44, 48, 44, 48, 44, 49, 44, 49, 44, 50] (by simp) w E
  rw [readV1] at c
  exact c
theorem awake_find (x : ByteArray) (hx : x = ⟨([50, 50, 55, 32, 120, 32, 40, 49, 48, 44, 48, 44, 48, 44, 49, 44, 49, 44, 50, 41, 46] : List UInt8).toArray⟩) (w : World) (E : Env w) : Calls Tryd.prog 13 #[.string x] w fun e w' => e = .returned (.tuple #[endV 10 0 0 1 258, .bool true]) ∧ Below w.heap.size w w' := by
  subst hx
  have c := find_any [50, 50, 55, 32, 120, 32, 40, 49, 48, 44, 48, 44, 48, 44, 49, 44, 49, 44, 50, 41, 46] (by simp) w E
  rw [show insL [50, 50, 55, 32, 120, 32, 40, 49, 48, 44, 48, 44, 48, 44, 49, 44, 49, 44, 50, 41, 46] = [49, 48, 44, 48, 44, 48, 44, 49, 44, 49, 44, 50] from by decide, readV1] at c
  exact c

set_option maxHeartbeats 1000000 in
set_option maxRecDepth 100000 in
theorem awake_any (w : World) (E : Env w) : Calls Tryd.prog 8 #[] w fun e w' => e = .returned (.bool true) ∧ Below w.heap.size w w' := by
  have hq : ∀ W, (Op.equalIn 10000 25 (endV 10 0 0 1 258) (endV 10 0 0 1 258)).run Tryd.prog W = .ok true W := fun W => by rw [equal_ends]; rfl
  go_enter Tryd.func8, Tryd.ntmps8
  go_wp2_with (go_at_call 9; refine (awake_text _ ?_).mono ?_)
  · exact E.alloc _
  rintro e w1 ⟨rfl, b1⟩
  have B1 : Below w.heap.size w w1 := ((Below.refl _ _).alloc (Nat.le_refl _) _).trans (b1.mono (by simp))
  have R1 : IsRow w1 w.heap.size 25 #[.int .u8 10, .int .u8 0, .int .u8 0, .int .u8 1, .int .i64 258] := (IsRow.made w _ _).call b1
  clear b1
  go_wp2_with (go_at_call 13; refine (awake_find _ (by rfl) _ ?_).mono ?_)
  · exact E.below B1
  rintro e w2 ⟨rfl, b2⟩
  have B2 := below_trans B1 b2
  have R2 := R1.call b2
  clear b2 R1 B1
  go_wp2_with (go_at_call 11; refine (awake_read _ ?_).mono ?_)
  · exact (E.below B2).alloc _
  rintro e w3 ⟨rfl, b3⟩
  have B3 : Below w.heap.size w w3 := (B2.alloc B2.size _).trans (b3.mono (by have := B2.size; simp; omega))
  have R3 := (R2.alloc _).call b3
  have S3 := (IsRow.made w2 25 _).call b3
  have hN := R3.lt
  have hM := S3.lt
  clear b3 R2 B2
  have c0 : w3.cell? ⟨w.heap.size, 0, none⟩ = some (.int .u8 10) := R3.cell 0
  have c1 : w3.cell? ⟨w.heap.size, 1, none⟩ = some (.int .u8 0) := R3.cell 1
  have c2 : w3.cell? ⟨w.heap.size, 2, none⟩ = some (.int .u8 0) := R3.cell 2
  have c3 : w3.cell? ⟨w.heap.size, 3, none⟩ = some (.int .u8 1) := R3.cell 3
  have c4 : w3.cell? ⟨w.heap.size, 4, none⟩ = some (.int .i64 258) := R3.cell 4
  have d0 : w3.cell? ⟨w2.heap.size, 0, none⟩ = some (.int .u8 10) := S3.cell 0
  have d1 : w3.cell? ⟨w2.heap.size, 1, none⟩ = some (.int .u8 0) := S3.cell 1
  have d2 : w3.cell? ⟨w2.heap.size, 2, none⟩ = some (.int .u8 0) := S3.cell 2
  have d3 : w3.cell? ⟨w2.heap.size, 3, none⟩ = some (.int .u8 1) := S3.cell 3
  have d4 : w3.cell? ⟨w2.heap.size, 4, none⟩ = some (.int .i64 258) := S3.cell 4
  go_wp2_with fail
  go_ret
  exact ⟨rfl, B3.alloc B3.size _⟩

#print axioms awake_any
end Go.Proofs.YtocfklfomfbioaaDoor.Six
