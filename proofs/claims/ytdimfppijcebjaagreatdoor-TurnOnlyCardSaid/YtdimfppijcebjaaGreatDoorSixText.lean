/- The contract of six.Text. -/
import Derived.Test.YtdimfppijcebjaaGreatDoorSixPure
import Derived.Test.YtdimfppijcebjaaGreatDoorEndArg
import Derived.Test.YtdimfppijcebjaaGreatDoorQuadCode
import Derived.BigQuiet
namespace Go.Proofs.YtdimfppijcebjaaGreatDoor.Six
open Go.Proofs.YtdimfppijcebjaaGreatDoor.Quad
open Go.ChangeShapes Go.WideShapes Go.ChangeAt Go.RowKit Go.Sort

theorem join_six (bk : Nat) (t : TypeId) (p q r s u v : List UInt8) (hlen : p.length + q.length + r.length + s.length + u.length + v.length ≤ 1000000) (w : World) (hr : IsRow w bk t #[str p, str q, str r, str s, str u, str v]) :
    Calls Tryz.prog 58 #[.slice (some ⟨bk, 0, none⟩) 6 6, .string ⟨#[44]⟩] w fun e w' => e = .returned (str (p ++ 44 :: (q ++ 44 :: (r ++ 44 :: (s ++ 44 :: (u ++ 44 :: v)))))) ∧ Below w.heap.size w w' := by
  have e : Lib.join ([p, q, r, s, u, v] : List (List UInt8)) [44] = p ++ 44 :: (q ++ 44 :: (r ++ 44 :: (s ++ 44 :: (u ++ 44 :: v)))) := by
    simp [Lib.join, List.intercalate]
  have em : (([⟨p.toArray⟩, ⟨q.toArray⟩, ⟨r.toArray⟩, ⟨s.toArray⟩, ⟨u.toArray⟩, ⟨v.toArray⟩] : List ByteArray).map (·.data.toList)) = [p, q, r, s, u, v] := by simp
  have c := Tryz.strings_Join bk 0 6 [⟨p.toArray⟩, ⟨q.toArray⟩, ⟨r.toArray⟩, ⟨s.toArray⟩, ⟨u.toArray⟩, ⟨v.toArray⟩] ⟨#[44]⟩ w (fun j x hx => by
    rw [Nat.zero_add, hr.cell j]
    match j, hx with
    | 0, hx => simp at hx; subst hx; rfl
    | 1, hx => simp at hx; subst hx; rfl
    | 2, hx => simp at hx; subst hx; rfl
    | 3, hx => simp at hx; subst hx; rfl
    | 4, hx => simp at hx; subst hx; rfl
    | 5, hx => simp at hx; subst hx; rfl
    | j + 6, hx => simp at hx) hr.lt (by simp) (by simp) (by rw [em, e]; simp; omega)
  rw [em, e] at c
  exact c

set_option maxHeartbeats 2000000 in
set_option maxRecDepth 100000 in
theorem text_no (a b c d p : Int) (h0 : -9223372036854775808 ≤ p) (h1 : p ≤ 9223372036854775807) (hp : p < 0 ∨ 65535 < p) (w : World) :
    Calls Tryz.prog 28 #[endV a b c d p] w fun e w' => e = .returned (.tuple #[str [], .bool false]) ∧ Below w.heap.size w w' := by
  go_enter Tryz.func28, Tryz.ntmps28
  go_wp2_with (go_at_call 55; refine (split_any a b c d p (by omega) (by omega) _).mono ?_)
  rintro e w1 ⟨⟨x, y, rfl, hx0, hx1, hy0, hy1, hxy⟩, b1⟩
  clear hxy
  have B1 : Below w.heap.size w w1 := ((Below.refl _ _).alloc (Nat.le_refl _) _).trans (b1.mono (by simp))
  have R1 : IsRow w1 w.heap.size 30 #[.int .u8 a, .int .u8 b, .int .u8 c, .int .u8 d, .int .i64 p] := (IsRow.made w _ _).call b1
  clear b1
  go_wp2_with fail
  obtain ⟨w2, e2, S1, S2, B2⟩ : ∃ w2, w1.alloc (.cells #[.int .u8 a, .int .u8 b, .int .u8 c, .int .u8 d, .int .u8 x, .int .u8 y] 88) = w2 ∧ IsRow w2 w.heap.size 30 #[.int .u8 a, .int .u8 b, .int .u8 c, .int .u8 d, .int .i64 p] ∧ IsRow w2 w1.heap.size 88 #[.int .u8 a, .int .u8 b, .int .u8 c, .int .u8 d, .int .u8 x, .int .u8 y] ∧ Below w.heap.size w w2 :=
    ⟨_, rfl, R1.alloc _, IsRow.made _ _ _, B1.alloc B1.size _⟩
  rw [e2]
  clear e2 R1
  have i0 := cell_regrown (show w2.cell? ⟨w.heap.size, 0, none⟩ = some (.int .u8 a) from S1.cell 0)
  have i1 := cell_regrown (show w2.cell? ⟨w.heap.size, 1, none⟩ = some (.int .u8 b) from S1.cell 1)
  have i2 := cell_regrown (show w2.cell? ⟨w.heap.size, 2, none⟩ = some (.int .u8 c) from S1.cell 2)
  have i3 := cell_regrown (show w2.cell? ⟨w.heap.size, 3, none⟩ = some (.int .u8 d) from S1.cell 3)
  have i4 := cell_regrown (show w2.cell? ⟨w.heap.size, 4, none⟩ = some (.int .i64 p) from S1.cell 4)
  have j0 := cell_regrown (show w2.cell? ⟨w1.heap.size, 0, none⟩ = some (.int .u8 a) from S2.cell 0)
  have j1 := cell_regrown (show w2.cell? ⟨w1.heap.size, 1, none⟩ = some (.int .u8 b) from S2.cell 1)
  have j2 := cell_regrown (show w2.cell? ⟨w1.heap.size, 2, none⟩ = some (.int .u8 c) from S2.cell 2)
  have j3 := cell_regrown (show w2.cell? ⟨w1.heap.size, 3, none⟩ = some (.int .u8 d) from S2.cell 3)
  have j4 := cell_regrown (show w2.cell? ⟨w1.heap.size, 4, none⟩ = some (.int .u8 x) from S2.cell 4)
  have j5 := cell_regrown (show w2.cell? ⟨w1.heap.size, 5, none⟩ = some (.int .u8 y) from S2.cell 5)
  have KJ := Lib.hid (show ∀ dd os, Calls Tryz.prog 56 #[numV a b c d x y] (grow (redrawn w2 dd) os) fun e w'' => e = .returned (endV a b c d (x * 256 + y)) ∧ ∃ p : Regrown, w'' = grow (redrawn w2 p.d) p.os from fun dd os => Calls.regrown_of (join_any a b c d x y (by omega) (by omega) (by omega) (by omega) _))
  have hq : ∀ W, (Op.equalIn 10000 30 (endV a b c d (x * 256 + y)) (endV a b c d p)).run Tryz.prog W = .ok false W := fun W => by
    rw [equal_ends, beq_eq_false_iff_ne.2 (show x * 256 + y ≠ p by omega)]; simp
  refine wp_region_quiet_below (by kernel_rfl) (by kernel_rfl) ?_
  repeat (quiet_step (with_reducible exact KJ.out _ _))
  refine wpQuiet_nil ?_
  intro _ hw'
  obtain ⟨⟨dq, osq⟩, hw''⟩ := hw'
  subst hw''
  go_wp2_with fail
  go_ret2
  exact ⟨rfl, below_trans B2 (below_regrown w2 dq osq)⟩

set_option maxHeartbeats 2000000 in
set_option maxRecDepth 100000 in
theorem text_yes (a b c d p : Int) (ha : 0 ≤ a) (ha' : a ≤ 255) (hb : 0 ≤ b) (hb' : b ≤ 255) (hc : 0 ≤ c) (hc' : c ≤ 255) (hd : 0 ≤ d) (hd' : d ≤ 255) (h0 : 0 ≤ p) (h1 : p ≤ 65535) (w : World) (E : Env w) :
    Calls Tryz.prog 28 #[endV a b c d p] w fun e w' => e = .returned (.tuple #[str (sixL a b c d p), .bool true]) ∧ Below w.heap.size w w' := by
  have la := itoa_short (n := a) (by omega) (by omega)
  have lb := itoa_short (n := b) (by omega) (by omega)
  have lc := itoa_short (n := c) (by omega) (by omega)
  have ld := itoa_short (n := d) (by omega) (by omega)
  have lx := itoa_short (n := (p / 256)) (by omega) (by omega)
  have ly := itoa_short (n := (p % 256)) (by omega) (by omega)
  go_enter Tryz.func28, Tryz.ntmps28
  go_wp2_with (go_at_call 55; refine (split_any a b c d p (by omega) (by omega) _).mono ?_)
  rintro e w1 ⟨⟨x, y, rfl, hx0, hx1, hy0, hy1, hxy⟩, b1⟩
  obtain ⟨rfl, rfl⟩ := hxy ⟨h0, h1⟩
  have B1 : Below w.heap.size w w1 := ((Below.refl _ _).alloc (Nat.le_refl _) _).trans (b1.mono (by simp))
  have R1 : IsRow w1 w.heap.size 30 #[.int .u8 a, .int .u8 b, .int .u8 c, .int .u8 d, .int .i64 p] := (IsRow.made w _ _).call b1
  clear b1
  go_wp2_with fail
  obtain ⟨w2, e2, S1, S2, B2⟩ : ∃ w2, w1.alloc (.cells #[.int .u8 a, .int .u8 b, .int .u8 c, .int .u8 d, .int .u8 (p / 256), .int .u8 (p % 256)] 88) = w2 ∧ IsRow w2 w.heap.size 30 #[.int .u8 a, .int .u8 b, .int .u8 c, .int .u8 d, .int .i64 p] ∧ IsRow w2 w1.heap.size 88 #[.int .u8 a, .int .u8 b, .int .u8 c, .int .u8 d, .int .u8 (p / 256), .int .u8 (p % 256)] ∧ Below w.heap.size w w2 :=
    ⟨_, rfl, R1.alloc _, IsRow.made _ _ _, B1.alloc B1.size _⟩
  rw [e2]
  clear e2 R1
  have i0 := cell_regrown (show w2.cell? ⟨w.heap.size, 0, none⟩ = some (.int .u8 a) from S1.cell 0)
  have i1 := cell_regrown (show w2.cell? ⟨w.heap.size, 1, none⟩ = some (.int .u8 b) from S1.cell 1)
  have i2 := cell_regrown (show w2.cell? ⟨w.heap.size, 2, none⟩ = some (.int .u8 c) from S1.cell 2)
  have i3 := cell_regrown (show w2.cell? ⟨w.heap.size, 3, none⟩ = some (.int .u8 d) from S1.cell 3)
  have i4 := cell_regrown (show w2.cell? ⟨w.heap.size, 4, none⟩ = some (.int .i64 p) from S1.cell 4)
  have j0 := cell_regrown (show w2.cell? ⟨w1.heap.size, 0, none⟩ = some (.int .u8 a) from S2.cell 0)
  have j1 := cell_regrown (show w2.cell? ⟨w1.heap.size, 1, none⟩ = some (.int .u8 b) from S2.cell 1)
  have j2 := cell_regrown (show w2.cell? ⟨w1.heap.size, 2, none⟩ = some (.int .u8 c) from S2.cell 2)
  have j3 := cell_regrown (show w2.cell? ⟨w1.heap.size, 3, none⟩ = some (.int .u8 d) from S2.cell 3)
  have j4 := cell_regrown (show w2.cell? ⟨w1.heap.size, 4, none⟩ = some (.int .u8 (p / 256)) from S2.cell 4)
  have j5 := cell_regrown (show w2.cell? ⟨w1.heap.size, 5, none⟩ = some (.int .u8 (p % 256)) from S2.cell 5)
  have KJ := Lib.hid (show ∀ dd os, Calls Tryz.prog 56 #[numV a b c d (p / 256) (p % 256)] (grow (redrawn w2 dd) os) fun e w'' => e = .returned (endV a b c d ((p / 256) * 256 + (p % 256))) ∧ ∃ p : Regrown, w'' = grow (redrawn w2 p.d) p.os from fun dd os => Calls.regrown_of (join_any a b c d (p / 256) (p % 256) (by omega) (by omega) (by omega) (by omega) _))
  have hq : ∀ W, (Op.equalIn 10000 30 (endV a b c d ((p / 256) * 256 + (p % 256))) (endV a b c d p)).run Tryz.prog W = .ok true W := fun W => by
    rw [equal_ends, beq_iff_eq.2 (show (p / 256) * 256 + (p % 256) = p by omega)]; simp
  refine wp_region_quiet_below (by kernel_rfl) (by kernel_rfl) ?_
  repeat (quiet_step (with_reducible exact KJ.out _ _))
  refine wpQuiet_nil ?_
  intro _ hw'
  obtain ⟨⟨dq, osq⟩, hw''⟩ := hw'
  subst hw''
  have b3 := below_regrown w2 dq osq
  generalize grow (redrawn w2 dq) osq = w3 at b3 ⊢
  have S3 := S2.call b3
  have B3 := below_trans B2 b3
  clear b3 i0 i1 i2 i3 i4 j0 j1 j2 j3 j4 j5 hq KJ S1 S2 B2
  have k0 : w3.cell? ⟨w1.heap.size, 0, none⟩ = some (.int .u8 a) := S3.cell 0
  have k1 : w3.cell? ⟨w1.heap.size, 1, none⟩ = some (.int .u8 b) := S3.cell 1
  have k2 : w3.cell? ⟨w1.heap.size, 2, none⟩ = some (.int .u8 c) := S3.cell 2
  have k3 : w3.cell? ⟨w1.heap.size, 3, none⟩ = some (.int .u8 d) := S3.cell 3
  have k4 : w3.cell? ⟨w1.heap.size, 4, none⟩ = some (.int .u8 (p / 256)) := S3.cell 4
  have k5 : w3.cell? ⟨w1.heap.size, 5, none⟩ = some (.int .u8 (p % 256)) := S3.cell 5
  have q0 : ∀ w, (Instr.index 88 (numV a b c d (p / 256) (p % 256)) (.int .i64 0)).run Tryz.prog w = .ok (.int .u8 a) w := fun _ => by kernel_rfl
  have q1 : ∀ w, (Instr.index 88 (numV a b c d (p / 256) (p % 256)) (.int .i64 1)).run Tryz.prog w = .ok (.int .u8 b) w := fun _ => by kernel_rfl
  have q2 : ∀ w, (Instr.index 88 (numV a b c d (p / 256) (p % 256)) (.int .i64 2)).run Tryz.prog w = .ok (.int .u8 c) w := fun _ => by kernel_rfl
  have q3 : ∀ w, (Instr.index 88 (numV a b c d (p / 256) (p % 256)) (.int .i64 3)).run Tryz.prog w = .ok (.int .u8 d) w := fun _ => by kernel_rfl
  have q4 : ∀ w, (Instr.index 88 (numV a b c d (p / 256) (p % 256)) (.int .i64 4)).run Tryz.prog w = .ok (.int .u8 (p / 256)) w := fun _ => by kernel_rfl
  have q5 : ∀ w, (Instr.index 88 (numV a b c d (p / 256) (p % 256)) (.int .i64 5)).run Tryz.prog w = .ok (.int .u8 (p % 256)) w := fun _ => by kernel_rfl
  have hN : w.heap.size ≤ w3.heap.size := B3.size
  have hM : w1.heap.size < w3.heap.size := S3.lt
  go_wp2_with fail
  clear k0 k1 k2 k3 k4 k5
  refine wp_loop_rounds 7 ?_
  rw [rounds_succ]
  go_wp2_with (go_at_call 57; refine (num_any a (by omega) (by omega) _ ?_).mono ?_)
  · exact (E.below B3).alloc _
  rintro e v1 ⟨rfl, m1⟩
  have C1 : Below w.heap.size w v1 := (B3.alloc hN _).trans (m1.mono (by simp; omega))
  have r1 : IsRow v1 w3.heap.size 91 #[.string ⟨#[]⟩, .string ⟨#[]⟩, .string ⟨#[]⟩, .string ⟨#[]⟩, .string ⟨#[]⟩, .string ⟨#[]⟩] := (IsRow.made w3 91 _).call m1
  clear m1
  have c1 : v1.cell? ⟨w3.heap.size, 0, none⟩ = some (.string ⟨#[]⟩) := r1.cell 0
  have f1 : v1.frozen? ⟨w3.heap.size, 0, none⟩ = false := r1.free 0
  go_wp2_with fail
  clear c1 f1
  rw [rounds_succ]
  go_wp2_with (go_at_call 57; refine (num_any b (by omega) (by omega) _ ?_).mono ?_)
  · exact E.below (C1.setCell hN _)
  rintro e v2 ⟨rfl, m2⟩
  have C2 : Below w.heap.size w v2 := (C1.setCell hN _).trans (m2.mono (by have := C1.size; simp; omega))
  have r2 : IsRow v2 w3.heap.size 91 #[str (Lib.itoa a), .string ⟨#[]⟩, .string ⟨#[]⟩, .string ⟨#[]⟩, .string ⟨#[]⟩, .string ⟨#[]⟩] := (r1.set 0 _).call m2
  clear m2
  have c2 : v2.cell? ⟨w3.heap.size, 1, none⟩ = some (.string ⟨#[]⟩) := r2.cell 1
  have f2 : v2.frozen? ⟨w3.heap.size, 1, none⟩ = false := r2.free 1
  go_wp2_with fail
  clear c2 f2
  rw [rounds_succ]
  go_wp2_with (go_at_call 57; refine (num_any c (by omega) (by omega) _ ?_).mono ?_)
  · exact E.below (C2.setCell hN _)
  rintro e v3 ⟨rfl, m3⟩
  have C3 : Below w.heap.size w v3 := (C2.setCell hN _).trans (m3.mono (by have := C2.size; simp; omega))
  have r3 : IsRow v3 w3.heap.size 91 #[str (Lib.itoa a), str (Lib.itoa b), .string ⟨#[]⟩, .string ⟨#[]⟩, .string ⟨#[]⟩, .string ⟨#[]⟩] := (r2.set 1 _).call m3
  clear m3
  have c3 : v3.cell? ⟨w3.heap.size, 2, none⟩ = some (.string ⟨#[]⟩) := r3.cell 2
  have f3 : v3.frozen? ⟨w3.heap.size, 2, none⟩ = false := r3.free 2
  go_wp2_with fail
  clear c3 f3
  rw [rounds_succ]
  go_wp2_with (go_at_call 57; refine (num_any d (by omega) (by omega) _ ?_).mono ?_)
  · exact E.below (C3.setCell hN _)
  rintro e v4 ⟨rfl, m4⟩
  have C4 : Below w.heap.size w v4 := (C3.setCell hN _).trans (m4.mono (by have := C3.size; simp; omega))
  have r4 : IsRow v4 w3.heap.size 91 #[str (Lib.itoa a), str (Lib.itoa b), str (Lib.itoa c), .string ⟨#[]⟩, .string ⟨#[]⟩, .string ⟨#[]⟩] := (r3.set 2 _).call m4
  clear m4
  have c4 : v4.cell? ⟨w3.heap.size, 3, none⟩ = some (.string ⟨#[]⟩) := r4.cell 3
  have f4 : v4.frozen? ⟨w3.heap.size, 3, none⟩ = false := r4.free 3
  go_wp2_with fail
  clear c4 f4
  rw [rounds_succ]
  go_wp2_with (go_at_call 57; refine (num_any (p / 256) (by omega) (by omega) _ ?_).mono ?_)
  · exact E.below (C4.setCell hN _)
  rintro e v5 ⟨rfl, m5⟩
  have C5 : Below w.heap.size w v5 := (C4.setCell hN _).trans (m5.mono (by have := C4.size; simp; omega))
  have r5 : IsRow v5 w3.heap.size 91 #[str (Lib.itoa a), str (Lib.itoa b), str (Lib.itoa c), str (Lib.itoa d), .string ⟨#[]⟩, .string ⟨#[]⟩] := (r4.set 3 _).call m5
  clear m5
  have c5 : v5.cell? ⟨w3.heap.size, 4, none⟩ = some (.string ⟨#[]⟩) := r5.cell 4
  have f5 : v5.frozen? ⟨w3.heap.size, 4, none⟩ = false := r5.free 4
  go_wp2_with fail
  clear c5 f5
  rw [rounds_succ]
  go_wp2_with (go_at_call 57; refine (num_any (p % 256) (by omega) (by omega) _ ?_).mono ?_)
  · exact E.below (C5.setCell hN _)
  rintro e v6 ⟨rfl, m6⟩
  have C6 : Below w.heap.size w v6 := (C5.setCell hN _).trans (m6.mono (by have := C5.size; simp; omega))
  have r6 : IsRow v6 w3.heap.size 91 #[str (Lib.itoa a), str (Lib.itoa b), str (Lib.itoa c), str (Lib.itoa d), str (Lib.itoa (p / 256)), .string ⟨#[]⟩] := (r5.set 4 _).call m6
  clear m6
  have c6 : v6.cell? ⟨w3.heap.size, 5, none⟩ = some (.string ⟨#[]⟩) := r6.cell 5
  have f6 : v6.frozen? ⟨w3.heap.size, 5, none⟩ = false := r6.free 5
  go_wp2_with fail
  clear c6 f6
  rw [rounds_succ]
  go_wp2_with (go_at_call 58; refine (join_six _ 91 (Lib.itoa a) (Lib.itoa b) (Lib.itoa c) (Lib.itoa d) (Lib.itoa (p / 256)) (Lib.itoa (p % 256)) (by omega) _ ?_).mono ?_)
  · exact r6.set 5 _
  rintro e v7 ⟨rfl, m7⟩
  have C7 : Below w.heap.size w v7 := (C6.setCell hN _).trans (m7.mono (by have := C6.size; simp; omega))
  go_wp2_with fail
  go_ret2
  exact ⟨rfl, C7⟩

#print axioms text_no
#print axioms text_yes
end Go.Proofs.YtdimfppijcebjaaGreatDoor.Six
