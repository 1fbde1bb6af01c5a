/- The contracts of package quad on addresses: write, loose, Text, Read. -/
import Derived.Test.YtdimfppijcebjaaGreatDoorQuadCode
import Derived.Test.YtdimfppijcebjaaGreatDoorBlocks
import Derived.LoopN
namespace Go.Proofs.YtdimfppijcebjaaGreatDoor.Quad
open Go.ChangeShapes Go.WideShapes Go.ChangeAt Go.RowKit Go.Sort

/-- an address as a value -/
abbrev hostV (a b c d : Int) : Value := .agg #[.int .u8 a, .int .u8 b, .int .u8 c, .int .u8 d]
abbrev fourV (a b c d : List UInt8) : Value := .agg #[str a, str b, str c, str d]

set_option maxHeartbeats 1000000 in
set_option maxRecDepth 100000 in
theorem write_any (a b c d : Int) (ha : 0 ≤ a) (ha' : a ≤ 255) (hb : 0 ≤ b) (hb' : b ≤ 255) (hc : 0 ≤ c) (hc' : c ≤ 255) (hd : 0 ≤ d) (hd' : d ≤ 255) (w : World) (E : Env w) :
    Calls Tryz.prog 80 #[hostV a b c d] w fun e w' => e = .returned (fourV (Lib.itoa a) (Lib.itoa b) (Lib.itoa c) (Lib.itoa d)) ∧ Below w.heap.size w w' := by
  have i0 : ∀ w, (Instr.index 28 (hostV a b c d) (.int .i64 0)).run Tryz.prog w = .ok (.int .u8 a) w := fun _ => by kernel_rfl
  have i1 : ∀ w, (Instr.index 28 (hostV a b c d) (.int .i64 1)).run Tryz.prog w = .ok (.int .u8 b) w := fun _ => by kernel_rfl
  have i2 : ∀ w, (Instr.index 28 (hostV a b c d) (.int .i64 2)).run Tryz.prog w = .ok (.int .u8 c) w := fun _ => by kernel_rfl
  have i3 : ∀ w, (Instr.index 28 (hostV a b c d) (.int .i64 3)).run Tryz.prog w = .ok (.int .u8 d) w := fun _ => by kernel_rfl
  go_enter Tryz.func80, Tryz.ntmps80
  go_wp2_with fail
  refine wp_loop_rounds 5 ?_
  rw [rounds_succ]
  go_wp2_with (go_at_call 57; refine (num_any a (by omega) (by omega) _ ?_).mono ?_)
  · exact ((E.alloc _).alloc _).alloc _
  rintro e w1 ⟨rfl, b1⟩
  have B1 : Below w.heap.size w w1 := ((((Below.refl _ _).alloc (Nat.le_refl _) _).alloc (by simp) _).alloc (by simp; omega) _).trans (b1.mono (by simp; omega))
  have r1 : IsRow w1 (w.heap.size + 1 + 1) 114 #[.string ⟨#[]⟩, .string ⟨#[]⟩, .string ⟨#[]⟩, .string ⟨#[]⟩] := by have := (IsRow.made ((w.alloc _).alloc _) 114 _).call b1; simpa using this
  have q1 : IsRow w1 (w.heap.size + 1) 114 #[.string ⟨#[]⟩, .string ⟨#[]⟩, .string ⟨#[]⟩, .string ⟨#[]⟩] := by have := ((IsRow.made (w.alloc _) 114 _).alloc _).call b1; simpa using this
  clear b1
  have c1 : w1.cell? ⟨w.heap.size + 1 + 1, 0, none⟩ = some (.string ⟨#[]⟩) := r1.cell 0
  have f1 : w1.frozen? ⟨w.heap.size + 1 + 1, 0, none⟩ = false := r1.free 0
  go_wp2_with fail
  clear c1 f1
  rw [rounds_succ]
  go_wp2_with (go_at_call 57; refine (num_any b (by omega) (by omega) _ ?_).mono ?_)
  · exact E.below (B1.setCell (by simp; omega) _)
  rintro e w2 ⟨rfl, b2⟩
  have B2 : Below w.heap.size w w2 := (B1.setCell (by simp; omega) _).trans (b2.mono (by have := B1.size; simp; omega))
  have r2 : IsRow w2 (w.heap.size + 1 + 1) 114 #[str (Lib.itoa a), .string ⟨#[]⟩, .string ⟨#[]⟩, .string ⟨#[]⟩] := (r1.set 0 _).call b2
  have q2 : IsRow w2 (w.heap.size + 1) 114 #[.string ⟨#[]⟩, .string ⟨#[]⟩, .string ⟨#[]⟩, .string ⟨#[]⟩] := (q1.other (by simp) _).call b2
  clear b2
  have c2 : w2.cell? ⟨w.heap.size + 1 + 1, 1, none⟩ = some (.string ⟨#[]⟩) := r2.cell 1
  have f2 : w2.frozen? ⟨w.heap.size + 1 + 1, 1, none⟩ = false := r2.free 1
  go_wp2_with fail
  clear c2 f2
  rw [rounds_succ]
  go_wp2_with (go_at_call 57; refine (num_any c (by omega) (by omega) _ ?_).mono ?_)
  · exact E.below (B2.setCell (by simp; omega) _)
  rintro e w3 ⟨rfl, b3⟩
  have B3 : Below w.heap.size w w3 := (B2.setCell (by simp; omega) _).trans (b3.mono (by have := B2.size; simp; omega))
  have r3 : IsRow w3 (w.heap.size + 1 + 1) 114 #[str (Lib.itoa a), str (Lib.itoa b), .string ⟨#[]⟩, .string ⟨#[]⟩] := (r2.set 1 _).call b3
  have q3 : IsRow w3 (w.heap.size + 1) 114 #[.string ⟨#[]⟩, .string ⟨#[]⟩, .string ⟨#[]⟩, .string ⟨#[]⟩] := (q2.other (by simp) _).call b3
  clear b3
  have c3 : w3.cell? ⟨w.heap.size + 1 + 1, 2, none⟩ = some (.string ⟨#[]⟩) := r3.cell 2
  have f3 : w3.frozen? ⟨w.heap.size + 1 + 1, 2, none⟩ = false := r3.free 2
  go_wp2_with fail
  clear c3 f3
  rw [rounds_succ]
  go_wp2_with (go_at_call 57; refine (num_any d (by omega) (by omega) _ ?_).mono ?_)
  · exact E.below (B3.setCell (by simp; omega) _)
  rintro e w4 ⟨rfl, b4⟩
  have B4 : Below w.heap.size w w4 := (B3.setCell (by simp; omega) _).trans (b4.mono (by have := B3.size; simp; omega))
  have r4 : IsRow w4 (w.heap.size + 1 + 1) 114 #[str (Lib.itoa a), str (Lib.itoa b), str (Lib.itoa c), .string ⟨#[]⟩] := (r3.set 2 _).call b4
  have q4 : IsRow w4 (w.heap.size + 1) 114 #[.string ⟨#[]⟩, .string ⟨#[]⟩, .string ⟨#[]⟩, .string ⟨#[]⟩] := (q3.other (by simp) _).call b4
  clear b4
  have c4 : w4.cell? ⟨w.heap.size + 1 + 1, 3, none⟩ = some (.string ⟨#[]⟩) := r4.cell 3
  have f4 : w4.frozen? ⟨w.heap.size + 1 + 1, 3, none⟩ = false := r4.free 3
  have c40 : w4.cell? ⟨w.heap.size + 1 + 1, 0, none⟩ = some (str (Lib.itoa a)) := r4.cell 0
  have c41 : w4.cell? ⟨w.heap.size + 1 + 1, 1, none⟩ = some (str (Lib.itoa b)) := r4.cell 1
  have c42 : w4.cell? ⟨w.heap.size + 1 + 1, 2, none⟩ = some (str (Lib.itoa c)) := r4.cell 2
  have d40 : w4.cell? ⟨w.heap.size + 1, 0, none⟩ = some (.string ⟨#[]⟩) := q4.cell 0
  have g40 : w4.frozen? ⟨w.heap.size + 1, 0, none⟩ = false := q4.free 0
  have d41 : w4.cell? ⟨w.heap.size + 1, 1, none⟩ = some (.string ⟨#[]⟩) := q4.cell 1
  have g41 : w4.frozen? ⟨w.heap.size + 1, 1, none⟩ = false := q4.free 1
  have d42 : w4.cell? ⟨w.heap.size + 1, 2, none⟩ = some (.string ⟨#[]⟩) := q4.cell 2
  have g42 : w4.frozen? ⟨w.heap.size + 1, 2, none⟩ = false := q4.free 2
  have d43 : w4.cell? ⟨w.heap.size + 1, 3, none⟩ = some (.string ⟨#[]⟩) := q4.cell 3
  have g43 : w4.frozen? ⟨w.heap.size + 1, 3, none⟩ = false := q4.free 3
  go_wp2_with fail
  rw [rounds_succ]
  go_wp2_with fail
  refine bodyPost_ret (v := fourV (Lib.itoa a) (Lib.itoa b) (Lib.itoa c) (Lib.itoa d)) (by simp [results, Tryz.results80, go_sem, d40, d41, d42, d43]) rfl ⟨rfl, ?_⟩
  exact ((((B4.setCell (by simp; omega) _).setCell (by simp) _).setCell (by simp) _).setCell (by simp) _).setCell (by simp) _

set_option maxHeartbeats 1000000 in
set_option maxRecDepth 100000 in
theorem loose_any (p q r s : List UInt8) (w : World) (E : Env w) :
    Calls Tryz.prog 127 #[fourV p q r s] w fun e w' => e = .returned (hostV (getV p 255) (getV q 255) (getV r 255) (getV s 255)) ∧ Below w.heap.size w w' := by
  have lop := getV_lo p 255
  have hip := getV_hi (l := p) (most := 255) (by omega)
  have loq := getV_lo q 255
  have hiq := getV_hi (l := q) (most := 255) (by omega)
  have lor := getV_lo r 255
  have hir := getV_hi (l := r) (most := 255) (by omega)
  have los := getV_lo s 255
  have his := getV_hi (l := s) (most := 255) (by omega)
  have i0 : ∀ w, (Instr.index 114 (fourV p q r s) (.int .i64 0)).run Tryz.prog w = .ok (str p) w := fun _ => by kernel_rfl
  have i1 : ∀ w, (Instr.index 114 (fourV p q r s) (.int .i64 1)).run Tryz.prog w = .ok (str q) w := fun _ => by kernel_rfl
  have i2 : ∀ w, (Instr.index 114 (fourV p q r s) (.int .i64 2)).run Tryz.prog w = .ok (str r) w := fun _ => by kernel_rfl
  have i3 : ∀ w, (Instr.index 114 (fourV p q r s) (.int .i64 3)).run Tryz.prog w = .ok (str s) w := fun _ => by kernel_rfl
  go_enter Tryz.func127, Tryz.ntmps127
  go_wp2_with fail
  refine wp_loop_rounds 5 ?_
  rw [rounds_succ]
  go_wp2_with (go_at_call 68; refine (get_any p 255 _ ?_).mono ?_)
  · exact ((E.alloc _).alloc _).alloc _
  rintro e w1 ⟨rfl, b1⟩
  have B1 : Below w.heap.size w w1 := ((((Below.refl _ _).alloc (Nat.le_refl _) _).alloc (by simp) _).alloc (by simp; omega) _).trans (b1.mono (by simp; omega))
  have r1 : IsRow w1 (w.heap.size + 1 + 1) 28 #[.int .u8 0, .int .u8 0, .int .u8 0, .int .u8 0] := by have := (IsRow.made ((w.alloc _).alloc _) 28 _).call b1; simpa using this
  have q1 : IsRow w1 (w.heap.size + 1) 28 #[.int .u8 0, .int .u8 0, .int .u8 0, .int .u8 0] := by have := ((IsRow.made (w.alloc _) 28 _).alloc _).call b1; simpa using this
  clear b1
  have c1 : w1.cell? ⟨w.heap.size + 1 + 1, 0, none⟩ = some (.int .u8 0) := r1.cell 0
  have f1 : w1.frozen? ⟨w.heap.size + 1 + 1, 0, none⟩ = false := r1.free 0
  go_wp2_with fail
  clear c1 f1
  rw [rounds_succ]
  go_wp2_with (go_at_call 68; refine (get_any q 255 _ ?_).mono ?_)
  · exact E.below (B1.setCell (by simp; omega) _)
  rintro e w2 ⟨rfl, b2⟩
  have B2 : Below w.heap.size w w2 := (B1.setCell (by simp; omega) _).trans (b2.mono (by have := B1.size; simp; omega))
  have r2 : IsRow w2 (w.heap.size + 1 + 1) 28 #[.int .u8 (getV p 255), .int .u8 0, .int .u8 0, .int .u8 0] := (r1.set 0 _).call b2
  have q2 : IsRow w2 (w.heap.size + 1) 28 #[.int .u8 0, .int .u8 0, .int .u8 0, .int .u8 0] := (q1.other (by simp) _).call b2
  clear b2
  have c2 : w2.cell? ⟨w.heap.size + 1 + 1, 1, none⟩ = some (.int .u8 0) := r2.cell 1
  have f2 : w2.frozen? ⟨w.heap.size + 1 + 1, 1, none⟩ = false := r2.free 1
  go_wp2_with fail
  clear c2 f2
  rw [rounds_succ]
  go_wp2_with (go_at_call 68; refine (get_any r 255 _ ?_).mono ?_)
  · exact E.below (B2.setCell (by simp; omega) _)
  rintro e w3 ⟨rfl, b3⟩
  have B3 : Below w.heap.size w w3 := (B2.setCell (by simp; omega) _).trans (b3.mono (by have := B2.size; simp; omega))
  have r3 : IsRow w3 (w.heap.size + 1 + 1) 28 #[.int .u8 (getV p 255), .int .u8 (getV q 255), .int .u8 0, .int .u8 0] := (r2.set 1 _).call b3
  have q3 : IsRow w3 (w.heap.size + 1) 28 #[.int .u8 0, .int .u8 0, .int .u8 0, .int .u8 0] := (q2.other (by simp) _).call b3
  clear b3
  have c3 : w3.cell? ⟨w.heap.size + 1 + 1, 2, none⟩ = some (.int .u8 0) := r3.cell 2
  have f3 : w3.frozen? ⟨w.heap.size + 1 + 1, 2, none⟩ = false := r3.free 2
  go_wp2_with fail
  clear c3 f3
  rw [rounds_succ]
  go_wp2_with (go_at_call 68; refine (get_any s 255 _ ?_).mono ?_)
  · exact E.below (B3.setCell (by simp; omega) _)
  rintro e w4 ⟨rfl, b4⟩
  have B4 : Below w.heap.size w w4 := (B3.setCell (by simp; omega) _).trans (b4.mono (by have := B3.size; simp; omega))
  have r4 : IsRow w4 (w.heap.size + 1 + 1) 28 #[.int .u8 (getV p 255), .int .u8 (getV q 255), .int .u8 (getV r 255), .int .u8 0] := (r3.set 2 _).call b4
  have q4 : IsRow w4 (w.heap.size + 1) 28 #[.int .u8 0, .int .u8 0, .int .u8 0, .int .u8 0] := (q3.other (by simp) _).call b4
  clear b4
  have c4 : w4.cell? ⟨w.heap.size + 1 + 1, 3, none⟩ = some (.int .u8 0) := r4.cell 3
  have f4 : w4.frozen? ⟨w.heap.size + 1 + 1, 3, none⟩ = false := r4.free 3
  have c40 : w4.cell? ⟨w.heap.size + 1 + 1, 0, none⟩ = some (.int .u8 (getV p 255)) := r4.cell 0
  have c41 : w4.cell? ⟨w.heap.size + 1 + 1, 1, none⟩ = some (.int .u8 (getV q 255)) := r4.cell 1
  have c42 : w4.cell? ⟨w.heap.size + 1 + 1, 2, none⟩ = some (.int .u8 (getV r 255)) := r4.cell 2
  have d40 : w4.cell? ⟨w.heap.size + 1, 0, none⟩ = some (.int .u8 0) := q4.cell 0
  have g40 : w4.frozen? ⟨w.heap.size + 1, 0, none⟩ = false := q4.free 0
  have d41 : w4.cell? ⟨w.heap.size + 1, 1, none⟩ = some (.int .u8 0) := q4.cell 1
  have g41 : w4.frozen? ⟨w.heap.size + 1, 1, none⟩ = false := q4.free 1
  have d42 : w4.cell? ⟨w.heap.size + 1, 2, none⟩ = some (.int .u8 0) := q4.cell 2
  have g42 : w4.frozen? ⟨w.heap.size + 1, 2, none⟩ = false := q4.free 2
  have d43 : w4.cell? ⟨w.heap.size + 1, 3, none⟩ = some (.int .u8 0) := q4.cell 3
  have g43 : w4.frozen? ⟨w.heap.size + 1, 3, none⟩ = false := q4.free 3
  go_wp2_with fail
  rw [rounds_succ]
  go_wp2_with fail
  refine bodyPost_ret (v := hostV (getV p 255) (getV q 255) (getV r 255) (getV s 255)) (by simp [results, Tryz.results127, go_sem, d40, d41, d42, d43]) rfl ⟨rfl, ?_⟩
  exact ((((B4.setCell (by simp; omega) _).setCell (by simp) _).setCell (by simp) _).setCell (by simp) _).setCell (by simp) _

end Go.Proofs.YtdimfppijcebjaaGreatDoor.Quad
