/- The chapter's examples hold: wharfingerlaw02.awake answers true. -/
import Derived.Test.YtnglancebcimaaaDoorQuadRead
namespace Go.Proofs.YtnglancebcimaaaDoor.Quad
open Go.ChangeShapes Go.WideShapes Go.ChangeAt Go.RowKit Go.Sort

theorem itoa0 : Lib.itoa 0 = [48] := by rw [itoa_pos (by omega)]; exact Lib.decDigits_one (i := 0) (by omega)
theorem itoa1 : Lib.itoa 1 = [49] := by rw [itoa_pos (by omega)]; exact Lib.decDigits_one (i := 1) (by omega)
theorem itoa10 : Lib.itoa 10 = [49, 48] := by rw [itoa_pos (by omega)]; exact Lib.decDigits_two (i := 10) (by omega) (by omega)
theorem itoa_7 : Lib.itoa (-7) = [45, 55] := by rw [itoa_neg (by omega)]; exact congrArg (45 :: ·) (Lib.decDigits_one (i := 7) (by omega))
theorem text1 : textL 10 0 0 1 = [49, 48, 46, 48, 46, 48, 46, 49] := by unfold textL; rw [itoa10, itoa0, itoa1]; rfl
theorem get80 : getB [56, 48] 100 = true ∧ getV [56, 48] 100 = 80 := by
  have g : getO [56, 48] = some 80 := (getO_iff _ _).2 ⟨Lib.decDigits_two (i := 80) (by omega) (by omega), by simp⟩
  exact ⟨by rw [getB_some g]; rfl, getV_yes g (by omega)⟩
theorem read01 : readB [49, 48, 46, 48, 46, 48, 46, 48, 49] = false := by
  cases h : readB [49, 48, 46, 48, 46, 48, 46, 48, 49] with
  | false => rfl
  | true =>
    exfalso
    unfold readB at h
    rw [show cutL 46 [49, 48, 46, 48, 46, 48, 46, 48, 49] = [[49, 48], [48], [48], [48, 49]] from by decide] at h
    simp only [List.all_cons, Bool.and_eq_true] at h
    obtain ⟨n, h1, _, _, _⟩ := (getB_iff [48, 49] 255).1 h.2.2.2.2.1
    have h2 := decNat_digits n
    rw [h1] at h2
    have h3 : Lib.decNat [48, 49] = some 1 := by decide
    rw [h3] at h2
    obtain rfl := Option.some.inj h2
    rw [Lib.decDigits_one (by omega)] at h1
    simp at h1

theorem awake_read (w : World) (E : Env w) : Calls Tryd.prog 11 #[.string ⟨#[49, 48, 46, 48, 46, 48, 46, 49]⟩] w fun e w' => e = .returned (.tuple #[hostV 10 0 0 1, .bool true]) ∧ Below w.heap.size w w' := by
  have c := read_any [49, 48, 46, 48, 46, 48, 46, 49] (by simp) w E
  obtain ⟨h, h0, h1, h2, h3⟩ := read_text (a := 10) (b := 0) (c := 0) (d := 1) (by omega) (by omega) (by omega) (by omega)
  rw [text1] at h h0 h1 h2 h3
  unfold readV at c
  rw [h, h0, h1, h2, h3] at c
  exact c
theorem awake_read2 (w : World) (E : Env w) : Calls Tryd.prog 11 #[.string ⟨#[49, 48, 46, 48, 46, 48, 46, 48, 49]⟩] w fun e w' => e = .returned (.tuple #[hostV 0 0 0 0, .bool false]) ∧ Below w.heap.size w w' := by
  have c := read_any [49, 48, 46, 48, 46, 48, 46, 48, 49] (by simp) w E
  unfold readV at c
  rw [readH_no read01, readH_no read01, readH_no read01, readH_no read01, read01] at c
  exact c
theorem awake_get (w : World) (E : Env w) : Calls Tryd.prog 9 #[.string ⟨#[56, 48]⟩, .int .i64 100] w fun e w' => e = .returned (.tuple #[.int .i64 80, .bool true]) ∧ Below w.heap.size w w' := by
  have c := get_any [56, 48] 100 w E
  unfold gotV at c
  rw [get80.1, get80.2] at c
  exact c
theorem awake_num (w : World) (E : Env w) : Calls Tryd.prog 13 #[.int .i64 (-7)] w fun e w' => e = .returned (.string ⟨#[45, 55]⟩) ∧ Below w.heap.size w w' := by
  have c := num_any (-7) (by omega) (by omega) w E
  rw [itoa_7] at c
  exact c
theorem awake_text (w : World) (E : Env w) : Calls Tryd.prog 15 #[hostV 10 0 0 1] w fun e w' => e = .returned (.string ⟨#[49, 48, 46, 48, 46, 48, 46, 49]⟩) ∧ Below w.heap.size w w' := by
  have c := text_any 10 0 0 1 (by omega) (by omega) (by omega) (by omega) (by omega) (by omega) (by omega) (by omega) w E
  rw [text1] at c
  exact c

set_option maxHeartbeats 1000000 in
set_option maxRecDepth 100000 in
theorem awake_any (w : World) (E : Env w) : Calls Tryd.prog 8 #[] w fun e w' => e = .returned (.bool true) ∧ Below w.heap.size w w' := by
  have hq : ∀ W, (Op.equalIn 10000 23 (hostV 10 0 0 1) (hostV 10 0 0 1)).run Tryd.prog W = .ok true W := fun W => by rw [equal_hosts]; rfl
  go_enter Tryd.func8, Tryd.ntmps8
  go_wp2_with (go_at_call 11; refine (awake_read _ ?_).mono ?_)
  · exact E
  rintro e w1 ⟨rfl, B1⟩
  go_wp2_with (go_at_call 11; refine (awake_read2 _ ?_).mono ?_)
  · exact (E.below B1).alloc _
  rintro e w2 ⟨rfl, b2⟩
  have B2 : Below w.heap.size w w2 := (B1.alloc B1.size _).trans (b2.mono (by have := B1.size; simp; omega))
  have R2 := (IsRow.made w1 23 _).call b2
  clear b2
  go_wp2_with (go_at_call 9; refine (awake_get _ ?_).mono ?_)
  · exact (E.below B2).alloc _
  rintro e w3 ⟨rfl, b3⟩
  have B3 : Below w.heap.size w w3 := (B2.alloc B2.size _).trans (b3.mono (by have := B2.size; simp; omega))
  have R3 := (R2.alloc _).call b3
  clear b3 R2
  have c0 : w3.cell? ⟨w1.heap.size, 0, none⟩ = some (.int .u8 10) := R3.cell 0
  have c1 : w3.cell? ⟨w1.heap.size, 1, none⟩ = some (.int .u8 0) := R3.cell 1
  have c2 : w3.cell? ⟨w1.heap.size, 2, none⟩ = some (.int .u8 0) := R3.cell 2
  have c3 : w3.cell? ⟨w1.heap.size, 3, none⟩ = some (.int .u8 1) := R3.cell 3
  go_wp2_with (go_at_call 13; refine (awake_num _ ?_).mono ?_)
  · exact E.below B3
  rintro e w4 ⟨rfl, b4⟩
  have B4 := below_trans B3 b4
  have R4 := R3.call b4
  clear b4 R3 c0 c1 c2 c3
  have c0 : w4.cell? ⟨w1.heap.size, 0, none⟩ = some (.int .u8 10) := R4.cell 0
  have c1 : w4.cell? ⟨w1.heap.size, 1, none⟩ = some (.int .u8 0) := R4.cell 1
  have c2 : w4.cell? ⟨w1.heap.size, 2, none⟩ = some (.int .u8 0) := R4.cell 2
  have c3 : w4.cell? ⟨w1.heap.size, 3, none⟩ = some (.int .u8 1) := R4.cell 3
  go_wp2_with (go_at_call 15; refine (awake_text _ ?_).mono ?_)
  · exact E.below B4
  rintro e w5 ⟨rfl, b5⟩
  go_wp2_with fail
  go_ret
  exact ⟨rfl, below_trans B4 b5⟩

#print axioms awake_any
end Go.Proofs.YtnglancebcimaaaDoor.Quad
