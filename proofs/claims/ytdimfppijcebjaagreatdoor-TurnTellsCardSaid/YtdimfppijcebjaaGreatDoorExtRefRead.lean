/- The contract of the document's answer of layer 4: wharfingerref04.Read. -/
import Derived.Test.YtdimfppijcebjaaGreatDoorExtRef
import Derived.Test.YtdimfppijcebjaaGreatDoorExtEnd
import Derived.Test.YtdimfppijcebjaaGreatDoorQuadRefRead
namespace Go.Proofs.YtdimfppijcebjaaGreatDoor.Ext
open Go.Proofs.YtdimfppijcebjaaGreatDoor.Quad Go.Proofs.YtdimfppijcebjaaGreatDoor.Six Go.Proofs.YtdimfppijcebjaaGreatDoor
open Go.ChangeShapes Go.WideShapes Go.ChangeAt Go.RowKit Go.Sort

theorem own_five {w : World} {base : Nat} {e : TypeId} {v : Value} {p q r s t : Value} (h : w.ownsRow base e 1 v 5 [p, q, r, s, t]) :
    ∃ g cap, v = .slice (some ⟨g, 0, none⟩) 5 cap ∧ base ≤ g ∧ g < w.heap.size ∧ w.cell? ⟨g, 0, none⟩ = some p ∧ w.cell? ⟨g, 1, none⟩ = some q ∧ w.cell? ⟨g, 2, none⟩ = some r ∧ w.cell? ⟨g, 3, none⟩ = some s ∧ w.cell? ⟨g, 4, none⟩ = some t := by
  rcases h.2 with ⟨_, h0⟩ | ⟨g, cap, cur, hv, hg, hh, _, _, _, ht⟩
  · cases h0
  · have row : IsRow w g e cur := hh
    have at_ : ∀ i, i < 5 → w.cell? ⟨g, i, none⟩ = ([p, q, r, s, t] : List Value)[i]? := fun i hi => by
      rw [row.cell i, ← ht, List.getElem?_take_of_lt (by omega), Array.getElem?_toList]
    exact ⟨g, cap, hv, hg, row.lt, at_ 0 (by omega), at_ 1 (by omega), at_ 2 (by omega), at_ 3 (by omega), at_ 4 (by omega)⟩
theorem readX_two {l : List UInt8} (h : extC l = 2) : readX l = .tuple #[endV 0 0 0 0 0, .int .i64 2] := by rw [readX_no (by omega), h]
theorem readX_eight {l : List UInt8} (h : extC l = 8) : readX l = .tuple #[endV 0 0 0 0 0, .int .i64 8] := by rw [readX_no (by omega), h]
theorem nofive {c : UInt8} {r l : List UInt8} (hl : l = c :: r) (h : five c l = false) : extC l = 2 := by subst hl; exact fiveL_no h

set_option maxHeartbeats 2000000 in
set_option maxRecDepth 100000 in
theorem rreadX_nil (l : List UInt8) (ll : l.length ≤ 1000000) (hl : l = []) (w : World) :
    Calls Tryz.prog 23 #[str l] w fun e w' => e = .returned (readX l) ∧ Below w.heap.size w w' := by
  subst hl
  have hV := Lib.hid (readX_two (l := []) rfl)
  have B1 : Below w.heap.size w (w.alloc (.cells #[.int .u8 0, .int .u8 0, .int .u8 0, .int .u8 0, .int .i64 0] 30)) := (Below.refl _ _).alloc (Nat.le_refl _) _
  have Q1 : IsRow (w.alloc (.cells #[.int .u8 0, .int .u8 0, .int .u8 0, .int .u8 0, .int .i64 0] 30)) w.heap.size 30 #[.int .u8 0, .int .u8 0, .int .u8 0, .int .u8 0, .int .i64 0] := IsRow.made w _ _
  go_enter Tryz.func23, Tryz.ntmps23
  go_wp2_with fail
  clear Q1
  exact bodyPost_ret (v := .tuple #[endV 0 0 0 0 0, .int .i64 2]) (by simp [results, Tryz.results23, go_sem]) rfl ⟨by rw [hV.out], B1⟩

set_option maxHeartbeats 2000000 in
set_option maxRecDepth 100000 in
theorem rreadX_markless (l : List UInt8) (ll : l.length ≤ 1000000) (c : UInt8) (r : List UInt8) (hl : l = c :: r) (hm : markB c = false) (w : World) :
    Calls Tryz.prog 23 #[str l] w fun e w' => e = .returned (readX l) ∧ Below w.heap.size w w' := by
  have hV := Lib.hid (readX_two (nofive hl (by unfold five; rw [hm]; rfl)))
  have hpos : 0 < l.length := by rw [hl]; simp
  have hsz : 0 < (ByteArray.mk l.toArray).size := by rw [size_of]; exact hpos
  have hx : (ByteArray.mk l.toArray)[0]'hsz = c := by subst hl; rfl
  have hq : markN ((((ByteArray.mk l.toArray)[0]'hsz).toNat : Int)) = false := by rw [hx, mark_is]; exact hm
  have hl0 : (((l.length : Nat) : Int) == 0) = false := by rw [beq_eq_false_iff_ne]; omega
  have CC := Lib.hid (fun W => rcut_any c ((((ByteArray.mk l.toArray)[0]'hsz).toNat : Int)) (by rw [hx]) l ll W)
  clear hx
  clear hl hm ll
  go_enter Tryz.func23, Tryz.ntmps23
  go_wp2_with (first | (go_at_call 49; refine (rmark_any _ _).mono ?_; rintro e w2 ⟨rfl, rfl⟩) | (go_at_call 47; refine (CC.out _).mono ?_))
  rintro e w1 ⟨v, rfl, hown, b1⟩
  have B1 : Below w.heap.size w w1 := ((Below.refl _ _).alloc (Nat.le_refl _) _).trans (b1.mono (by simp))
  have Q1 : IsRow w1 w.heap.size 30 #[.int .u8 0, .int .u8 0, .int .u8 0, .int .u8 0, .int .i64 0] := (IsRow.made w _ _).call b1
  have hN1 := Q1.lt
  clear b1 CC
  obtain ⟨a, cp, rfl⟩ : ∃ a cp, v = .slice a (cutL c l).length cp := by
    rcases hown.2 with ⟨rfl, h0⟩ | ⟨g, cap, cur, rfl, _⟩
    · exact ⟨none, 0, by rw [h0]⟩
    · exact ⟨_, _, rfl⟩
  generalize (cutL c l).length = len at hown
  clear hown
  have z0 : w1.cell? ⟨w.heap.size, 0, none⟩ = some (.int .u8 0) := Q1.cell 0
  have zf0 : w1.frozen? ⟨w.heap.size, 0, none⟩ = false := Q1.free 0
  have z1 : w1.cell? ⟨w.heap.size, 1, none⟩ = some (.int .u8 0) := Q1.cell 1
  have zf1 : w1.frozen? ⟨w.heap.size, 1, none⟩ = false := Q1.free 1
  have z2 : w1.cell? ⟨w.heap.size, 2, none⟩ = some (.int .u8 0) := Q1.cell 2
  have zf2 : w1.frozen? ⟨w.heap.size, 2, none⟩ = false := Q1.free 2
  have z3 : w1.cell? ⟨w.heap.size, 3, none⟩ = some (.int .u8 0) := Q1.cell 3
  have zf3 : w1.frozen? ⟨w.heap.size, 3, none⟩ = false := Q1.free 3
  have z4 : w1.cell? ⟨w.heap.size, 4, none⟩ = some (.int .i64 0) := Q1.cell 4
  have zf4 : w1.frozen? ⟨w.heap.size, 4, none⟩ = false := Q1.free 4
  go_wp2_with fail
  generalize hW : World.setCell _ _ _ = W9
  have FR : IsRow W9 w.heap.size 30 #[.int .u8 0, .int .u8 0, .int .u8 0, .int .u8 0, .int .i64 0] := by rw [← hW]; exact (((((Q1.set 0 _).set 1 _).set 2 _).set 3 _).set 4 _)
  have B9 : Below w.heap.size w W9 := by rw [← hW]; exact (((((B1.setCell (Nat.le_refl _) _).setCell (Nat.le_refl _) _).setCell (Nat.le_refl _) _).setCell (Nat.le_refl _) _).setCell (Nat.le_refl _) _)
  have g0 : W9.cell? ⟨w.heap.size, 0, none⟩ = some (.int .u8 0) := FR.cell 0
  have g1 : W9.cell? ⟨w.heap.size, 1, none⟩ = some (.int .u8 0) := FR.cell 1
  have g2 : W9.cell? ⟨w.heap.size, 2, none⟩ = some (.int .u8 0) := FR.cell 2
  have g3 : W9.cell? ⟨w.heap.size, 3, none⟩ = some (.int .u8 0) := FR.cell 3
  have g4 : W9.cell? ⟨w.heap.size, 4, none⟩ = some (.int .i64 0) := FR.cell 4
  exact bodyPost_ret (v := .tuple #[endV 0 0 0 0 0, .int .i64 2]) (by simp [results, Tryz.results23, go_sem, g0, g1, g2, g3, g4]) rfl ⟨by rw [hV.out], B9⟩

set_option maxHeartbeats 2000000 in
set_option maxRecDepth 100000 in
theorem rreadX_few (l : List UInt8) (ll : l.length ≤ 1000000) (c : UInt8) (r : List UInt8) (hl : l = c :: r) (hm : markB c = true) (h5 : (cutL c l).length ≠ 5) (w : World) :
    Calls Tryz.prog 23 #[str l] w fun e w' => e = .returned (readX l) ∧ Below w.heap.size w w' := by
  have hV := Lib.hid (readX_two (nofive hl (by unfold five; rw [beq_eq_false_iff_ne.2 h5]; simp)))
  have hpos : 0 < l.length := by rw [hl]; simp
  have hsz : 0 < (ByteArray.mk l.toArray).size := by rw [size_of]; exact hpos
  have hx : (ByteArray.mk l.toArray)[0]'hsz = c := by subst hl; rfl
  have hq : markN ((((ByteArray.mk l.toArray)[0]'hsz).toNat : Int)) = true := by rw [hx, mark_is]; exact hm
  have hl0 : (((l.length : Nat) : Int) == 0) = false := by rw [beq_eq_false_iff_ne]; omega
  have CC := Lib.hid (fun W => rcut_any c ((((ByteArray.mk l.toArray)[0]'hsz).toNat : Int)) (by rw [hx]) l ll W)
  clear hx
  clear hl hm ll
  go_enter Tryz.func23, Tryz.ntmps23
  go_wp2_with (first | (go_at_call 49; refine (rmark_any _ _).mono ?_; rintro e w2 ⟨rfl, rfl⟩) | (go_at_call 47; refine (CC.out _).mono ?_))
  rintro e w1 ⟨v, rfl, hown, b1⟩
  have B1 : Below w.heap.size w w1 := ((Below.refl _ _).alloc (Nat.le_refl _) _).trans (b1.mono (by simp))
  have Q1 : IsRow w1 w.heap.size 30 #[.int .u8 0, .int .u8 0, .int .u8 0, .int .u8 0, .int .i64 0] := (IsRow.made w _ _).call b1
  have hN1 := Q1.lt
  clear b1 CC
  obtain ⟨a, cp, rfl⟩ : ∃ a cp, v = .slice a (cutL c l).length cp := by
    rcases hown.2 with ⟨rfl, h0⟩ | ⟨g, cap, cur, rfl, _⟩
    · exact ⟨none, 0, by rw [h0]⟩
    · exact ⟨_, _, rfl⟩
  have hn : ((((cutL c l).length : Nat) : Int) != 5) = true := by rw [bne_iff_ne]; omega
  generalize (cutL c l).length = len at hown hn h5
  clear hown h5
  have z0 : w1.cell? ⟨w.heap.size, 0, none⟩ = some (.int .u8 0) := Q1.cell 0
  have zf0 : w1.frozen? ⟨w.heap.size, 0, none⟩ = false := Q1.free 0
  have z1 : w1.cell? ⟨w.heap.size, 1, none⟩ = some (.int .u8 0) := Q1.cell 1
  have zf1 : w1.frozen? ⟨w.heap.size, 1, none⟩ = false := Q1.free 1
  have z2 : w1.cell? ⟨w.heap.size, 2, none⟩ = some (.int .u8 0) := Q1.cell 2
  have zf2 : w1.frozen? ⟨w.heap.size, 2, none⟩ = false := Q1.free 2
  have z3 : w1.cell? ⟨w.heap.size, 3, none⟩ = some (.int .u8 0) := Q1.cell 3
  have zf3 : w1.frozen? ⟨w.heap.size, 3, none⟩ = false := Q1.free 3
  have z4 : w1.cell? ⟨w.heap.size, 4, none⟩ = some (.int .i64 0) := Q1.cell 4
  have zf4 : w1.frozen? ⟨w.heap.size, 4, none⟩ = false := Q1.free 4
  go_wp2_with fail
  generalize hW : World.setCell _ _ _ = W9
  have FR : IsRow W9 w.heap.size 30 #[.int .u8 0, .int .u8 0, .int .u8 0, .int .u8 0, .int .i64 0] := by rw [← hW]; exact (((((Q1.set 0 _).set 1 _).set 2 _).set 3 _).set 4 _)
  have B9 : Below w.heap.size w W9 := by rw [← hW]; exact (((((B1.setCell (Nat.le_refl _) _).setCell (Nat.le_refl _) _).setCell (Nat.le_refl _) _).setCell (Nat.le_refl _) _).setCell (Nat.le_refl _) _)
  have g0 : W9.cell? ⟨w.heap.size, 0, none⟩ = some (.int .u8 0) := FR.cell 0
  have g1 : W9.cell? ⟨w.heap.size, 1, none⟩ = some (.int .u8 0) := FR.cell 1
  have g2 : W9.cell? ⟨w.heap.size, 2, none⟩ = some (.int .u8 0) := FR.cell 2
  have g3 : W9.cell? ⟨w.heap.size, 3, none⟩ = some (.int .u8 0) := FR.cell 3
  have g4 : W9.cell? ⟨w.heap.size, 4, none⟩ = some (.int .i64 0) := FR.cell 4
  exact bodyPost_ret (v := .tuple #[endV 0 0 0 0 0, .int .i64 2]) (by simp [results, Tryz.results23, go_sem, g0, g1, g2, g3, g4]) rfl ⟨by rw [hV.out], B9⟩

set_option maxHeartbeats 2000000 in
set_option maxRecDepth 100000 in
theorem rreadX_tail (l : List UInt8) (ll : l.length ≤ 1000000) (c : UInt8) (r : List UInt8) (hl : l = c :: r) (hm : markB c = true) {x k h q z : List UInt8} (hc : cutL c l = [x, k, h, q, z]) (hz : z ≠ []) (w : World) :
    Calls Tryz.prog 23 #[str l] w fun e w' => e = .returned (readX l) ∧ Below w.heap.size w w' := by
  have hV := Lib.hid (readX_two (nofive hl (by unfold five; rw [hc]; simp [hz])))
  have hz1 : (z == ([] : List UInt8)) = false := by rw [beq_eq_false_iff_ne]; exact hz
  have hpos : 0 < l.length := by rw [hl]; simp
  have hsz : 0 < (ByteArray.mk l.toArray).size := by rw [size_of]; exact hpos
  have hx : (ByteArray.mk l.toArray)[0]'hsz = c := by subst hl; rfl
  have hq : markN ((((ByteArray.mk l.toArray)[0]'hsz).toNat : Int)) = true := by rw [hx, mark_is]; exact hm
  have hl0 : (((l.length : Nat) : Int) == 0) = false := by rw [beq_eq_false_iff_ne]; omega
  have CC := Lib.hid (fun W => rcut_any c ((((ByteArray.mk l.toArray)[0]'hsz).toNat : Int)) (by rw [hx]) l ll W)
  clear hx
  clear hl hm ll hz
  go_enter Tryz.func23, Tryz.ntmps23
  go_wp2_with (first | (go_at_call 49; refine (rmark_any _ _).mono ?_; rintro e w2 ⟨rfl, rfl⟩) | (go_at_call 47; refine (CC.out _).mono ?_))
  rintro e w1 ⟨v, rfl, hown, b1⟩
  have B1 : Below w.heap.size w w1 := ((Below.refl _ _).alloc (Nat.le_refl _) _).trans (b1.mono (by simp))
  have Q1 : IsRow w1 w.heap.size 30 #[.int .u8 0, .int .u8 0, .int .u8 0, .int .u8 0, .int .i64 0] := (IsRow.made w _ _).call b1
  have hN1 := Q1.lt
  clear b1 CC
  rw [hc] at hown
  obtain ⟨g, cap, rfl, hg, hgl, x0, x1, x2, x3, x4⟩ := own_five hown
  clear hown hg hc
  have z0 : w1.cell? ⟨w.heap.size, 0, none⟩ = some (.int .u8 0) := Q1.cell 0
  have zf0 : w1.frozen? ⟨w.heap.size, 0, none⟩ = false := Q1.free 0
  have z1 : w1.cell? ⟨w.heap.size, 1, none⟩ = some (.int .u8 0) := Q1.cell 1
  have zf1 : w1.frozen? ⟨w.heap.size, 1, none⟩ = false := Q1.free 1
  have z2 : w1.cell? ⟨w.heap.size, 2, none⟩ = some (.int .u8 0) := Q1.cell 2
  have zf2 : w1.frozen? ⟨w.heap.size, 2, none⟩ = false := Q1.free 2
  have z3 : w1.cell? ⟨w.heap.size, 3, none⟩ = some (.int .u8 0) := Q1.cell 3
  have zf3 : w1.frozen? ⟨w.heap.size, 3, none⟩ = false := Q1.free 3
  have z4 : w1.cell? ⟨w.heap.size, 4, none⟩ = some (.int .i64 0) := Q1.cell 4
  have zf4 : w1.frozen? ⟨w.heap.size, 4, none⟩ = false := Q1.free 4
  go_wp2_with fail
  generalize hW : World.setCell _ _ _ = W9
  have FR : IsRow W9 w.heap.size 30 #[.int .u8 0, .int .u8 0, .int .u8 0, .int .u8 0, .int .i64 0] := by rw [← hW]; exact (((((Q1.set 0 _).set 1 _).set 2 _).set 3 _).set 4 _)
  have B9 : Below w.heap.size w W9 := by rw [← hW]; exact (((((B1.setCell (Nat.le_refl _) _).setCell (Nat.le_refl _) _).setCell (Nat.le_refl _) _).setCell (Nat.le_refl _) _).setCell (Nat.le_refl _) _)
  have g0 : W9.cell? ⟨w.heap.size, 0, none⟩ = some (.int .u8 0) := FR.cell 0
  have g1 : W9.cell? ⟨w.heap.size, 1, none⟩ = some (.int .u8 0) := FR.cell 1
  have g2 : W9.cell? ⟨w.heap.size, 2, none⟩ = some (.int .u8 0) := FR.cell 2
  have g3 : W9.cell? ⟨w.heap.size, 3, none⟩ = some (.int .u8 0) := FR.cell 3
  have g4 : W9.cell? ⟨w.heap.size, 4, none⟩ = some (.int .i64 0) := FR.cell 4
  exact bodyPost_ret (v := .tuple #[endV 0 0 0 0 0, .int .i64 2]) (by simp [results, Tryz.results23, go_sem, g0, g1, g2, g3, g4]) rfl ⟨by rw [hV.out], B9⟩

set_option maxHeartbeats 2000000 in
set_option maxRecDepth 100000 in
theorem rreadX_kind_no (l : List UInt8) (ll : l.length ≤ 1000000) (c : UInt8) (r : List UInt8) (hl : l = c :: r) (hm : markB c = true) {x k h q : List UInt8} (hc : cutL c l = [x, k, h, q, []]) (h2 : extC l = 2) (hk : kindB k = false) (w : World) :
    Calls Tryz.prog 23 #[str l] w fun e w' => e = .returned (readX l) ∧ Below w.heap.size w w' := by
  have hV := Lib.hid (readX_two h2)
  clear h2
  have hpos : 0 < l.length := by rw [hl]; simp
  have hsz : 0 < (ByteArray.mk l.toArray).size := by rw [size_of]; exact hpos
  have hx : (ByteArray.mk l.toArray)[0]'hsz = c := by subst hl; rfl
  have hq : markN ((((ByteArray.mk l.toArray)[0]'hsz).toNat : Int)) = true := by rw [hx, mark_is]; exact hm
  have hl0 : (((l.length : Nat) : Int) == 0) = false := by rw [beq_eq_false_iff_ne]; omega
  have CC := Lib.hid (fun W => rcut_any c ((((ByteArray.mk l.toArray)[0]'hsz).toNat : Int)) (by rw [hx]) l ll W)
  clear hx
  have lk : k.length ≤ 9223372036854775807 := by have := Quad.cutL_le c l k (by rw [hc]; simp); omega
  have CG := Lib.hid (fun W => rget_any k lk 9 W)
  unfold gotV at CG
  clear hl hm ll
  unfold kindB at hk
  cases hB : getB k 9 with
  | false =>
    rw [hB] at CG
    generalize getV k 9 = n at CG
    clear hk hB
    go_enter Tryz.func23, Tryz.ntmps23
    go_wp2_with (first | (go_at_call 49; refine (rmark_any _ _).mono ?_; rintro e w2 ⟨rfl, rfl⟩) | (go_at_call 47; refine (CC.out _).mono ?_))
    rintro e w1 ⟨v, rfl, hown, b1⟩
    have B1 : Below w.heap.size w w1 := ((Below.refl _ _).alloc (Nat.le_refl _) _).trans (b1.mono (by simp))
    have Q1 : IsRow w1 w.heap.size 30 #[.int .u8 0, .int .u8 0, .int .u8 0, .int .u8 0, .int .i64 0] := (IsRow.made w _ _).call b1
    have hN1 := Q1.lt
    clear b1 CC
    rw [hc] at hown
    obtain ⟨g, cap, rfl, hg, hgl, x0, x1, x2, x3, x4⟩ := own_five hown
    clear hown hg hc
    have z0 : w1.cell? ⟨w.heap.size, 0, none⟩ = some (.int .u8 0) := Q1.cell 0
    have zf0 : w1.frozen? ⟨w.heap.size, 0, none⟩ = false := Q1.free 0
    have z1 : w1.cell? ⟨w.heap.size, 1, none⟩ = some (.int .u8 0) := Q1.cell 1
    have zf1 : w1.frozen? ⟨w.heap.size, 1, none⟩ = false := Q1.free 1
    have z2 : w1.cell? ⟨w.heap.size, 2, none⟩ = some (.int .u8 0) := Q1.cell 2
    have zf2 : w1.frozen? ⟨w.heap.size, 2, none⟩ = false := Q1.free 2
    have z3 : w1.cell? ⟨w.heap.size, 3, none⟩ = some (.int .u8 0) := Q1.cell 3
    have zf3 : w1.frozen? ⟨w.heap.size, 3, none⟩ = false := Q1.free 3
    have z4 : w1.cell? ⟨w.heap.size, 4, none⟩ = some (.int .i64 0) := Q1.cell 4
    have zf4 : w1.frozen? ⟨w.heap.size, 4, none⟩ = false := Q1.free 4
    go_wp2_with (first | (go_at_call 48; refine (CG.out _).mono ?_; rintro e w2 ⟨rfl, rfl⟩))
    generalize hW : World.setCell _ _ _ = W9
    have FR : IsRow W9 w.heap.size 30 #[.int .u8 0, .int .u8 0, .int .u8 0, .int .u8 0, .int .i64 0] := by rw [← hW]; exact (((((Q1.set 0 _).set 1 _).set 2 _).set 3 _).set 4 _)
    have B9 : Below w.heap.size w W9 := by rw [← hW]; exact (((((B1.setCell (Nat.le_refl _) _).setCell (Nat.le_refl _) _).setCell (Nat.le_refl _) _).setCell (Nat.le_refl _) _).setCell (Nat.le_refl _) _)
    have g0 : W9.cell? ⟨w.heap.size, 0, none⟩ = some (.int .u8 0) := FR.cell 0
    have g1 : W9.cell? ⟨w.heap.size, 1, none⟩ = some (.int .u8 0) := FR.cell 1
    have g2 : W9.cell? ⟨w.heap.size, 2, none⟩ = some (.int .u8 0) := FR.cell 2
    have g3 : W9.cell? ⟨w.heap.size, 3, none⟩ = some (.int .u8 0) := FR.cell 3
    have g4 : W9.cell? ⟨w.heap.size, 4, none⟩ = some (.int .i64 0) := FR.cell 4
    exact bodyPost_ret (v := .tuple #[endV 0 0 0 0 0, .int .i64 2]) (by simp [results, Tryz.results23, go_sem, g0, g1, g2, g3, g4]) rfl ⟨by rw [hV.out], B9⟩
  | true =>
    have hn : getV k 9 < 1 := by rw [hB] at hk; simpa using hk
    rw [hB] at CG
    generalize getV k 9 = n at CG hn
    clear hk hB
    go_enter Tryz.func23, Tryz.ntmps23
    go_wp2_with (first | (go_at_call 49; refine (rmark_any _ _).mono ?_; rintro e w2 ⟨rfl, rfl⟩) | (go_at_call 47; refine (CC.out _).mono ?_))
    rintro e w1 ⟨v, rfl, hown, b1⟩
    have B1 : Below w.heap.size w w1 := ((Below.refl _ _).alloc (Nat.le_refl _) _).trans (b1.mono (by simp))
    have Q1 : IsRow w1 w.heap.size 30 #[.int .u8 0, .int .u8 0, .int .u8 0, .int .u8 0, .int .i64 0] := (IsRow.made w _ _).call b1
    have hN1 := Q1.lt
    clear b1 CC
    rw [hc] at hown
    obtain ⟨g, cap, rfl, hg, hgl, x0, x1, x2, x3, x4⟩ := own_five hown
    clear hown hg hc
    have z0 : w1.cell? ⟨w.heap.size, 0, none⟩ = some (.int .u8 0) := Q1.cell 0
    have zf0 : w1.frozen? ⟨w.heap.size, 0, none⟩ = false := Q1.free 0
    have z1 : w1.cell? ⟨w.heap.size, 1, none⟩ = some (.int .u8 0) := Q1.cell 1
    have zf1 : w1.frozen? ⟨w.heap.size, 1, none⟩ = false := Q1.free 1
    have z2 : w1.cell? ⟨w.heap.size, 2, none⟩ = some (.int .u8 0) := Q1.cell 2
    have zf2 : w1.frozen? ⟨w.heap.size, 2, none⟩ = false := Q1.free 2
    have z3 : w1.cell? ⟨w.heap.size, 3, none⟩ = some (.int .u8 0) := Q1.cell 3
    have zf3 : w1.frozen? ⟨w.heap.size, 3, none⟩ = false := Q1.free 3
    have z4 : w1.cell? ⟨w.heap.size, 4, none⟩ = some (.int .i64 0) := Q1.cell 4
    have zf4 : w1.frozen? ⟨w.heap.size, 4, none⟩ = false := Q1.free 4
    go_wp2_with (first | (go_at_call 48; refine (CG.out _).mono ?_; rintro e w2 ⟨rfl, rfl⟩))
    generalize hW : World.setCell _ _ _ = W9
    have FR : IsRow W9 w.heap.size 30 #[.int .u8 0, .int .u8 0, .int .u8 0, .int .u8 0, .int .i64 0] := by rw [← hW]; exact (((((Q1.set 0 _).set 1 _).set 2 _).set 3 _).set 4 _)
    have B9 : Below w.heap.size w W9 := by rw [← hW]; exact (((((B1.setCell (Nat.le_refl _) _).setCell (Nat.le_refl _) _).setCell (Nat.le_refl _) _).setCell (Nat.le_refl _) _).setCell (Nat.le_refl _) _)
    have g0 : W9.cell? ⟨w.heap.size, 0, none⟩ = some (.int .u8 0) := FR.cell 0
    have g1 : W9.cell? ⟨w.heap.size, 1, none⟩ = some (.int .u8 0) := FR.cell 1
    have g2 : W9.cell? ⟨w.heap.size, 2, none⟩ = some (.int .u8 0) := FR.cell 2
    have g3 : W9.cell? ⟨w.heap.size, 3, none⟩ = some (.int .u8 0) := FR.cell 3
    have g4 : W9.cell? ⟨w.heap.size, 4, none⟩ = some (.int .i64 0) := FR.cell 4
    exact bodyPost_ret (v := .tuple #[endV 0 0 0 0 0, .int .i64 2]) (by simp [results, Tryz.results23, go_sem, g0, g1, g2, g3, g4]) rfl ⟨by rw [hV.out], B9⟩

set_option maxHeartbeats 2000000 in
set_option maxRecDepth 100000 in
theorem rreadX_kind_other (l : List UInt8) (ll : l.length ≤ 1000000) (c : UInt8) (r : List UInt8) (hl : l = c :: r) (hm : markB c = true) {x k h q : List UInt8} (hc : cutL c l = [x, k, h, q, []]) (h8 : extC l = 8) (hk : kindB k = true) (h1 : getV k 9 ≠ 1) (w : World) :
    Calls Tryz.prog 23 #[str l] w fun e w' => e = .returned (readX l) ∧ Below w.heap.size w w' := by
  have hV := Lib.hid (readX_eight h8)
  clear h8
  have hpos : 0 < l.length := by rw [hl]; simp
  have hsz : 0 < (ByteArray.mk l.toArray).size := by rw [size_of]; exact hpos
  have hx : (ByteArray.mk l.toArray)[0]'hsz = c := by subst hl; rfl
  have hq : markN ((((ByteArray.mk l.toArray)[0]'hsz).toNat : Int)) = true := by rw [hx, mark_is]; exact hm
  have hl0 : (((l.length : Nat) : Int) == 0) = false := by rw [beq_eq_false_iff_ne]; omega
  have CC := Lib.hid (fun W => rcut_any c ((((ByteArray.mk l.toArray)[0]'hsz).toNat : Int)) (by rw [hx]) l ll W)
  clear hx
  have lk : k.length ≤ 9223372036854775807 := by have := Quad.cutL_le c l k (by rw [hc]; simp); omega
  unfold kindB at hk
  simp only [Bool.and_eq_true, decide_eq_true_eq] at hk
  obtain ⟨hB, hn⟩ := hk
  have CG := Lib.hid (fun W => rget_any k lk 9 W)
  unfold gotV at CG
  rw [hB] at CG
  have hn1 : ((getV k 9) != 1) = true := by rw [bne_iff_ne]; exact h1
  have hn0 : ¬ getV k 9 < 1 := by omega
  clear hl hm ll hB hn h1
  generalize getV k 9 = n at CG hn1 hn0
  go_enter Tryz.func23, Tryz.ntmps23
  go_wp2_with (first | (go_at_call 49; refine (rmark_any _ _).mono ?_; rintro e w2 ⟨rfl, rfl⟩) | (go_at_call 47; refine (CC.out _).mono ?_))
  rintro e w1 ⟨v, rfl, hown, b1⟩
  have B1 : Below w.heap.size w w1 := ((Below.refl _ _).alloc (Nat.le_refl _) _).trans (b1.mono (by simp))
  have Q1 : IsRow w1 w.heap.size 30 #[.int .u8 0, .int .u8 0, .int .u8 0, .int .u8 0, .int .i64 0] := (IsRow.made w _ _).call b1
  have hN1 := Q1.lt
  clear b1 CC
  rw [hc] at hown
  obtain ⟨g, cap, rfl, hg, hgl, x0, x1, x2, x3, x4⟩ := own_five hown
  clear hown hg hc
  have z0 : w1.cell? ⟨w.heap.size, 0, none⟩ = some (.int .u8 0) := Q1.cell 0
  have zf0 : w1.frozen? ⟨w.heap.size, 0, none⟩ = false := Q1.free 0
  have z1 : w1.cell? ⟨w.heap.size, 1, none⟩ = some (.int .u8 0) := Q1.cell 1
  have zf1 : w1.frozen? ⟨w.heap.size, 1, none⟩ = false := Q1.free 1
  have z2 : w1.cell? ⟨w.heap.size, 2, none⟩ = some (.int .u8 0) := Q1.cell 2
  have zf2 : w1.frozen? ⟨w.heap.size, 2, none⟩ = false := Q1.free 2
  have z3 : w1.cell? ⟨w.heap.size, 3, none⟩ = some (.int .u8 0) := Q1.cell 3
  have zf3 : w1.frozen? ⟨w.heap.size, 3, none⟩ = false := Q1.free 3
  have z4 : w1.cell? ⟨w.heap.size, 4, none⟩ = some (.int .i64 0) := Q1.cell 4
  have zf4 : w1.frozen? ⟨w.heap.size, 4, none⟩ = false := Q1.free 4
  go_wp2_with (first | (go_at_call 48; refine (CG.out _).mono ?_; rintro e w2 ⟨rfl, rfl⟩))
  generalize hW : World.setCell _ _ _ = W9
  have FR : IsRow W9 w.heap.size 30 #[.int .u8 0, .int .u8 0, .int .u8 0, .int .u8 0, .int .i64 0] := by rw [← hW]; exact (((((Q1.set 0 _).set 1 _).set 2 _).set 3 _).set 4 _)
  have B9 : Below w.heap.size w W9 := by rw [← hW]; exact (((((B1.setCell (Nat.le_refl _) _).setCell (Nat.le_refl _) _).setCell (Nat.le_refl _) _).setCell (Nat.le_refl _) _).setCell (Nat.le_refl _) _)
  have g0 : W9.cell? ⟨w.heap.size, 0, none⟩ = some (.int .u8 0) := FR.cell 0
  have g1 : W9.cell? ⟨w.heap.size, 1, none⟩ = some (.int .u8 0) := FR.cell 1
  have g2 : W9.cell? ⟨w.heap.size, 2, none⟩ = some (.int .u8 0) := FR.cell 2
  have g3 : W9.cell? ⟨w.heap.size, 3, none⟩ = some (.int .u8 0) := FR.cell 3
  have g4 : W9.cell? ⟨w.heap.size, 4, none⟩ = some (.int .i64 0) := FR.cell 4
  exact bodyPost_ret (v := .tuple #[endV 0 0 0 0 0, .int .i64 8]) (by simp [results, Tryz.results23, go_sem, g0, g1, g2, g3, g4]) rfl ⟨by rw [hV.out], B9⟩

set_option maxHeartbeats 2000000 in
set_option maxRecDepth 100000 in
theorem rreadX_host (l : List UInt8) (ll : l.length ≤ 1000000) (c : UInt8) (r : List UInt8) (hl : l = c :: r) (hm : markB c = true) {x k h q : List UInt8} (hc : cutL c l = [x, k, h, q, []]) (hk : kindB k = true) (h1 : getV k 9 = 1) (h2 : extC l = 2) (hh : readB h = false) (w : World) :
    Calls Tryz.prog 23 #[str l] w fun e w' => e = .returned (readX l) ∧ Below w.heap.size w w' := by
  have hpos : 0 < l.length := by rw [hl]; simp
  have hsz : 0 < (ByteArray.mk l.toArray).size := by rw [size_of]; exact hpos
  have hx : (ByteArray.mk l.toArray)[0]'hsz = c := by subst hl; rfl
  have hq : markN ((((ByteArray.mk l.toArray)[0]'hsz).toNat : Int)) = true := by rw [hx, mark_is]; exact hm
  have hl0 : (((l.length : Nat) : Int) == 0) = false := by rw [beq_eq_false_iff_ne]; omega
  have CC := Lib.hid (fun W => rcut_any c ((((ByteArray.mk l.toArray)[0]'hsz).toNat : Int)) (by rw [hx]) l ll W)
  clear hx
  have lk : k.length ≤ 9223372036854775807 := by have := Quad.cutL_le c l k (by rw [hc]; simp); omega
  have lh : h.length ≤ 1000000 := by have := Quad.cutL_le c l h (by rw [hc]; simp); omega
  have lq : q.length ≤ 9223372036854775807 := by have := Quad.cutL_le c l q (by rw [hc]; simp); omega
  unfold kindB at hk
  simp only [Bool.and_eq_true, decide_eq_true_eq] at hk
  obtain ⟨hB, hn⟩ := hk
  have CG := Lib.hid (fun W => rget_any k lk 9 W)
  unfold gotV at CG
  rw [hB] at CG
  rw [h1] at CG
  clear hn hB h1
  have CH := Lib.hid (fun W => Quad.rread_any h lh W)
  unfold Quad.readV at CH
  have CP := Lib.hid (fun W => rget_any q lq 65535 W)
  unfold gotV at CP
  have hV := Lib.hid (readX_two h2)
  clear h2
  rw [hh] at CH
  clear hh
  generalize getB q 65535 = bq at CP
  clear hl hm ll lh lq lk
  generalize readH h 0 = r0 at CH
  generalize readH h 1 = r1 at CH
  generalize readH h 2 = r2 at CH
  generalize readH h 3 = r3 at CH
  generalize getV q 65535 = r4 at CP
  go_enter Tryz.func23, Tryz.ntmps23
  go_wp2_with (first | (go_at_call 49; refine (rmark_any _ _).mono ?_; rintro e w2 ⟨rfl, rfl⟩) | (go_at_call 47; refine (CC.out _).mono ?_))
  rintro e w1 ⟨v, rfl, hown, b1⟩
  have B1 : Below w.heap.size w w1 := ((Below.refl _ _).alloc (Nat.le_refl _) _).trans (b1.mono (by simp))
  have Q1 : IsRow w1 w.heap.size 30 #[.int .u8 0, .int .u8 0, .int .u8 0, .int .u8 0, .int .i64 0] := (IsRow.made w _ _).call b1
  have hN1 := Q1.lt
  clear b1 CC
  rw [hc] at hown
  obtain ⟨g, cap, rfl, hg, hgl, x0, x1, x2, x3, x4⟩ := own_five hown
  clear hown hg hc
  go_wp2_with (first | (go_at_call 48; refine (CG.out _).mono ?_; rintro e w2 ⟨rfl, rfl⟩) | (go_at_call 50; refine (CH.out _).mono ?_))
  rintro e w2 ⟨rfl, b2⟩
  have B2 := below_trans B1 b2
  have Q2 := Q1.call b2
  have y3 := cell_below x3 b2
  have hgl2 := Nat.lt_of_lt_of_le hgl b2.size
  clear b2 x0 x1 x2 x3 x4 hgl B1 Q1 hN1
  go_wp2_with fail
  obtain ⟨w3, e3, B3, Q3, H3, y4⟩ : ∃ w3, w2.alloc (.cells #[.int .u8 r0, .int .u8 r1, .int .u8 r2, .int .u8 r3] 28) = w3 ∧ Below w.heap.size w w3 ∧ IsRow w3 w.heap.size 30 #[.int .u8 0, .int .u8 0, .int .u8 0, .int .u8 0, .int .i64 0] ∧ IsRow w3 w2.heap.size 28 #[.int .u8 r0, .int .u8 r1, .int .u8 r2, .int .u8 r3] ∧ w3.cell? ⟨g, 3, none⟩ = some (str q) := ⟨_, rfl, B2.alloc B2.size _, Q2.alloc _, IsRow.made _ _ _, by rw [World.cell?_alloc_lt _ _ ⟨g, 3, none⟩ hgl2]; exact y3⟩
  rw [e3]
  clear e3 B2 Q2 y3 hgl2
  have hN3 := Q3.lt
  have hM3 := H3.lt
  have z0 : w3.cell? ⟨w.heap.size, 0, none⟩ = some (.int .u8 0) := Q3.cell 0
  have zf0 : w3.frozen? ⟨w.heap.size, 0, none⟩ = false := Q3.free 0
  have z1 : w3.cell? ⟨w.heap.size, 1, none⟩ = some (.int .u8 0) := Q3.cell 1
  have zf1 : w3.frozen? ⟨w.heap.size, 1, none⟩ = false := Q3.free 1
  have z2 : w3.cell? ⟨w.heap.size, 2, none⟩ = some (.int .u8 0) := Q3.cell 2
  have zf2 : w3.frozen? ⟨w.heap.size, 2, none⟩ = false := Q3.free 2
  have z3 : w3.cell? ⟨w.heap.size, 3, none⟩ = some (.int .u8 0) := Q3.cell 3
  have zf3 : w3.frozen? ⟨w.heap.size, 3, none⟩ = false := Q3.free 3
  have z4 : w3.cell? ⟨w.heap.size, 4, none⟩ = some (.int .i64 0) := Q3.cell 4
  have zf4 : w3.frozen? ⟨w.heap.size, 4, none⟩ = false := Q3.free 4
  have h0 : w3.cell? ⟨w2.heap.size, 0, none⟩ = some (.int .u8 r0) := H3.cell 0
  have h1 : w3.cell? ⟨w2.heap.size, 1, none⟩ = some (.int .u8 r1) := H3.cell 1
  have h2 : w3.cell? ⟨w2.heap.size, 2, none⟩ = some (.int .u8 r2) := H3.cell 2
  have h3 : w3.cell? ⟨w2.heap.size, 3, none⟩ = some (.int .u8 r3) := H3.cell 3
  go_wp2_with (go_at_call 48; refine (CP.out _).mono ?_; rintro e w4 ⟨rfl, rfl⟩)
  generalize hW : World.setCell _ _ _ = W9
  have FR : IsRow W9 w.heap.size 30 #[.int .u8 0, .int .u8 0, .int .u8 0, .int .u8 0, .int .i64 0] := by rw [← hW]; exact (((((Q3.set 0 _).set 1 _).set 2 _).set 3 _).set 4 _)
  have B9 : Below w.heap.size w W9 := by rw [← hW]; exact (((((B3.setCell (Nat.le_refl _) _).setCell (Nat.le_refl _) _).setCell (Nat.le_refl _) _).setCell (Nat.le_refl _) _).setCell (Nat.le_refl _) _)
  have g0 : W9.cell? ⟨w.heap.size, 0, none⟩ = some (.int .u8 0) := FR.cell 0
  have g1 : W9.cell? ⟨w.heap.size, 1, none⟩ = some (.int .u8 0) := FR.cell 1
  have g2 : W9.cell? ⟨w.heap.size, 2, none⟩ = some (.int .u8 0) := FR.cell 2
  have g3 : W9.cell? ⟨w.heap.size, 3, none⟩ = some (.int .u8 0) := FR.cell 3
  have g4 : W9.cell? ⟨w.heap.size, 4, none⟩ = some (.int .i64 0) := FR.cell 4
  exact bodyPost_ret (v := .tuple #[endV 0 0 0 0 0, .int .i64 2]) (by simp [results, Tryz.results23, go_sem, g0, g1, g2, g3, g4]) rfl ⟨by rw [hV.out], B9⟩

set_option maxHeartbeats 2000000 in
set_option maxRecDepth 100000 in
theorem rreadX_port_no (l : List UInt8) (ll : l.length ≤ 1000000) (c : UInt8) (r : List UInt8) (hl : l = c :: r) (hm : markB c = true) {x k h q : List UInt8} (hc : cutL c l = [x, k, h, q, []]) (hk : kindB k = true) (h1 : getV k 9 = 1) (h2 : extC l = 2) (hh : readB h = true) (hq2 : getB q 65535 = false) (w : World) :
    Calls Tryz.prog 23 #[str l] w fun e w' => e = .returned (readX l) ∧ Below w.heap.size w w' := by
  have hpos : 0 < l.length := by rw [hl]; simp
  have hsz : 0 < (ByteArray.mk l.toArray).size := by rw [size_of]; exact hpos
  have hx : (ByteArray.mk l.toArray)[0]'hsz = c := by subst hl; rfl
  have hq : markN ((((ByteArray.mk l.toArray)[0]'hsz).toNat : Int)) = true := by rw [hx, mark_is]; exact hm
  have hl0 : (((l.length : Nat) : Int) == 0) = false := by rw [beq_eq_false_iff_ne]; omega
  have CC := Lib.hid (fun W => rcut_any c ((((ByteArray.mk l.toArray)[0]'hsz).toNat : Int)) (by rw [hx]) l ll W)
  clear hx
  have lk : k.length ≤ 9223372036854775807 := by have := Quad.cutL_le c l k (by rw [hc]; simp); omega
  have lh : h.length ≤ 1000000 := by have := Quad.cutL_le c l h (by rw [hc]; simp); omega
  have lq : q.length ≤ 9223372036854775807 := by have := Quad.cutL_le c l q (by rw [hc]; simp); omega
  unfold kindB at hk
  simp only [Bool.and_eq_true, decide_eq_true_eq] at hk
  obtain ⟨hB, hn⟩ := hk
  have CG := Lib.hid (fun W => rget_any k lk 9 W)
  unfold gotV at CG
  rw [hB] at CG
  rw [h1] at CG
  clear hn hB h1
  have CH := Lib.hid (fun W => Quad.rread_any h lh W)
  unfold Quad.readV at CH
  have CP := Lib.hid (fun W => rget_any q lq 65535 W)
  unfold gotV at CP
  have hV := Lib.hid (readX_two h2)
  clear h2
  rw [hh] at CH
  rw [hq2] at CP
  clear hh hq2
  clear hl hm ll lh lq lk
  generalize readH h 0 = r0 at CH
  generalize readH h 1 = r1 at CH
  generalize readH h 2 = r2 at CH
  generalize readH h 3 = r3 at CH
  generalize getV q 65535 = r4 at CP
  go_enter Tryz.func23, Tryz.ntmps23
  go_wp2_with (first | (go_at_call 49; refine (rmark_any _ _).mono ?_; rintro e w2 ⟨rfl, rfl⟩) | (go_at_call 47; refine (CC.out _).mono ?_))
  rintro e w1 ⟨v, rfl, hown, b1⟩
  have B1 : Below w.heap.size w w1 := ((Below.refl _ _).alloc (Nat.le_refl _) _).trans (b1.mono (by simp))
  have Q1 : IsRow w1 w.heap.size 30 #[.int .u8 0, .int .u8 0, .int .u8 0, .int .u8 0, .int .i64 0] := (IsRow.made w _ _).call b1
  have hN1 := Q1.lt
  clear b1 CC
  rw [hc] at hown
  obtain ⟨g, cap, rfl, hg, hgl, x0, x1, x2, x3, x4⟩ := own_five hown
  clear hown hg hc
  go_wp2_with (first | (go_at_call 48; refine (CG.out _).mono ?_; rintro e w2 ⟨rfl, rfl⟩) | (go_at_call 50; refine (CH.out _).mono ?_))
  rintro e w2 ⟨rfl, b2⟩
  have B2 := below_trans B1 b2
  have Q2 := Q1.call b2
  have y3 := cell_below x3 b2
  have hgl2 := Nat.lt_of_lt_of_le hgl b2.size
  clear b2 x0 x1 x2 x3 x4 hgl B1 Q1 hN1
  go_wp2_with fail
  obtain ⟨w3, e3, B3, Q3, H3, y4⟩ : ∃ w3, w2.alloc (.cells #[.int .u8 r0, .int .u8 r1, .int .u8 r2, .int .u8 r3] 28) = w3 ∧ Below w.heap.size w w3 ∧ IsRow w3 w.heap.size 30 #[.int .u8 0, .int .u8 0, .int .u8 0, .int .u8 0, .int .i64 0] ∧ IsRow w3 w2.heap.size 28 #[.int .u8 r0, .int .u8 r1, .int .u8 r2, .int .u8 r3] ∧ w3.cell? ⟨g, 3, none⟩ = some (str q) := ⟨_, rfl, B2.alloc B2.size _, Q2.alloc _, IsRow.made _ _ _, by rw [World.cell?_alloc_lt _ _ ⟨g, 3, none⟩ hgl2]; exact y3⟩
  rw [e3]
  clear e3 B2 Q2 y3 hgl2
  have hN3 := Q3.lt
  have hM3 := H3.lt
  have z0 : w3.cell? ⟨w.heap.size, 0, none⟩ = some (.int .u8 0) := Q3.cell 0
  have zf0 : w3.frozen? ⟨w.heap.size, 0, none⟩ = false := Q3.free 0
  have z1 : w3.cell? ⟨w.heap.size, 1, none⟩ = some (.int .u8 0) := Q3.cell 1
  have zf1 : w3.frozen? ⟨w.heap.size, 1, none⟩ = false := Q3.free 1
  have z2 : w3.cell? ⟨w.heap.size, 2, none⟩ = some (.int .u8 0) := Q3.cell 2
  have zf2 : w3.frozen? ⟨w.heap.size, 2, none⟩ = false := Q3.free 2
  have z3 : w3.cell? ⟨w.heap.size, 3, none⟩ = some (.int .u8 0) := Q3.cell 3
  have zf3 : w3.frozen? ⟨w.heap.size, 3, none⟩ = false := Q3.free 3
  have z4 : w3.cell? ⟨w.heap.size, 4, none⟩ = some (.int .i64 0) := Q3.cell 4
  have zf4 : w3.frozen? ⟨w.heap.size, 4, none⟩ = false := Q3.free 4
  have h0 : w3.cell? ⟨w2.heap.size, 0, none⟩ = some (.int .u8 r0) := H3.cell 0
  have h1 : w3.cell? ⟨w2.heap.size, 1, none⟩ = some (.int .u8 r1) := H3.cell 1
  have h2 : w3.cell? ⟨w2.heap.size, 2, none⟩ = some (.int .u8 r2) := H3.cell 2
  have h3 : w3.cell? ⟨w2.heap.size, 3, none⟩ = some (.int .u8 r3) := H3.cell 3
  go_wp2_with (go_at_call 48; refine (CP.out _).mono ?_; rintro e w4 ⟨rfl, rfl⟩)
  generalize hW : World.setCell _ _ _ = W9
  have FR : IsRow W9 w.heap.size 30 #[.int .u8 0, .int .u8 0, .int .u8 0, .int .u8 0, .int .i64 0] := by rw [← hW]; exact (((((Q3.set 0 _).set 1 _).set 2 _).set 3 _).set 4 _)
  have B9 : Below w.heap.size w W9 := by rw [← hW]; exact (((((B3.setCell (Nat.le_refl _) _).setCell (Nat.le_refl _) _).setCell (Nat.le_refl _) _).setCell (Nat.le_refl _) _).setCell (Nat.le_refl _) _)
  have g0 : W9.cell? ⟨w.heap.size, 0, none⟩ = some (.int .u8 0) := FR.cell 0
  have g1 : W9.cell? ⟨w.heap.size, 1, none⟩ = some (.int .u8 0) := FR.cell 1
  have g2 : W9.cell? ⟨w.heap.size, 2, none⟩ = some (.int .u8 0) := FR.cell 2
  have g3 : W9.cell? ⟨w.heap.size, 3, none⟩ = some (.int .u8 0) := FR.cell 3
  have g4 : W9.cell? ⟨w.heap.size, 4, none⟩ = some (.int .i64 0) := FR.cell 4
  exact bodyPost_ret (v := .tuple #[endV 0 0 0 0 0, .int .i64 2]) (by simp [results, Tryz.results23, go_sem, g0, g1, g2, g3, g4]) rfl ⟨by rw [hV.out], B9⟩

set_option maxHeartbeats 2000000 in
set_option maxRecDepth 100000 in
theorem rreadX_port_low (l : List UInt8) (ll : l.length ≤ 1000000) (c : UInt8) (r : List UInt8) (hl : l = c :: r) (hm : markB c = true) {x k h q : List UInt8} (hc : cutL c l = [x, k, h, q, []]) (hk : kindB k = true) (h1 : getV k 9 = 1) (h2 : extC l = 2) (hh : readB h = true) (hq2 : getB q 65535 = true) (hq3 : getV q 65535 < 1) (w : World) :
    Calls Tryz.prog 23 #[str l] w fun e w' => e = .returned (readX l) ∧ Below w.heap.size w w' := by
  have hpos : 0 < l.length := by rw [hl]; simp
  have hsz : 0 < (ByteArray.mk l.toArray).size := by rw [size_of]; exact hpos
  have hx : (ByteArray.mk l.toArray)[0]'hsz = c := by subst hl; rfl
  have hq : markN ((((ByteArray.mk l.toArray)[0]'hsz).toNat : Int)) = true := by rw [hx, mark_is]; exact hm
  have hl0 : (((l.length : Nat) : Int) == 0) = false := by rw [beq_eq_false_iff_ne]; omega
  have CC := Lib.hid (fun W => rcut_any c ((((ByteArray.mk l.toArray)[0]'hsz).toNat : Int)) (by rw [hx]) l ll W)
  clear hx
  have lk : k.length ≤ 9223372036854775807 := by have := Quad.cutL_le c l k (by rw [hc]; simp); omega
  have lh : h.length ≤ 1000000 := by have := Quad.cutL_le c l h (by rw [hc]; simp); omega
  have lq : q.length ≤ 9223372036854775807 := by have := Quad.cutL_le c l q (by rw [hc]; simp); omega
  unfold kindB at hk
  simp only [Bool.and_eq_true, decide_eq_true_eq] at hk
  obtain ⟨hB, hn⟩ := hk
  have CG := Lib.hid (fun W => rget_any k lk 9 W)
  unfold gotV at CG
  rw [hB] at CG
  rw [h1] at CG
  clear hn hB h1
  have CH := Lib.hid (fun W => Quad.rread_any h lh W)
  unfold Quad.readV at CH
  have CP := Lib.hid (fun W => rget_any q lq 65535 W)
  unfold gotV at CP
  have hV := Lib.hid (readX_two h2)
  clear h2
  rw [hh] at CH
  rw [hq2] at CP
  clear hh hq2
  clear hl hm ll lh lq lk
  generalize readH h 0 = r0 at CH
  generalize readH h 1 = r1 at CH
  generalize readH h 2 = r2 at CH
  generalize readH h 3 = r3 at CH
  generalize getV q 65535 = r4 at CP hq3
  go_enter Tryz.func23, Tryz.ntmps23
  go_wp2_with (first | (go_at_call 49; refine (rmark_any _ _).mono ?_; rintro e w2 ⟨rfl, rfl⟩) | (go_at_call 47; refine (CC.out _).mono ?_))
  rintro e w1 ⟨v, rfl, hown, b1⟩
  have B1 : Below w.heap.size w w1 := ((Below.refl _ _).alloc (Nat.le_refl _) _).trans (b1.mono (by simp))
  have Q1 : IsRow w1 w.heap.size 30 #[.int .u8 0, .int .u8 0, .int .u8 0, .int .u8 0, .int .i64 0] := (IsRow.made w _ _).call b1
  have hN1 := Q1.lt
  clear b1 CC
  rw [hc] at hown
  obtain ⟨g, cap, rfl, hg, hgl, x0, x1, x2, x3, x4⟩ := own_five hown
  clear hown hg hc
  go_wp2_with (first | (go_at_call 48; refine (CG.out _).mono ?_; rintro e w2 ⟨rfl, rfl⟩) | (go_at_call 50; refine (CH.out _).mono ?_))
  rintro e w2 ⟨rfl, b2⟩
  have B2 := below_trans B1 b2
  have Q2 := Q1.call b2
  have y3 := cell_below x3 b2
  have hgl2 := Nat.lt_of_lt_of_le hgl b2.size
  clear b2 x0 x1 x2 x3 x4 hgl B1 Q1 hN1
  go_wp2_with fail
  obtain ⟨w3, e3, B3, Q3, H3, y4⟩ : ∃ w3, w2.alloc (.cells #[.int .u8 r0, .int .u8 r1, .int .u8 r2, .int .u8 r3] 28) = w3 ∧ Below w.heap.size w w3 ∧ IsRow w3 w.heap.size 30 #[.int .u8 0, .int .u8 0, .int .u8 0, .int .u8 0, .int .i64 0] ∧ IsRow w3 w2.heap.size 28 #[.int .u8 r0, .int .u8 r1, .int .u8 r2, .int .u8 r3] ∧ w3.cell? ⟨g, 3, none⟩ = some (str q) := ⟨_, rfl, B2.alloc B2.size _, Q2.alloc _, IsRow.made _ _ _, by rw [World.cell?_alloc_lt _ _ ⟨g, 3, none⟩ hgl2]; exact y3⟩
  rw [e3]
  clear e3 B2 Q2 y3 hgl2
  have hN3 := Q3.lt
  have hM3 := H3.lt
  have z0 : w3.cell? ⟨w.heap.size, 0, none⟩ = some (.int .u8 0) := Q3.cell 0
  have zf0 : w3.frozen? ⟨w.heap.size, 0, none⟩ = false := Q3.free 0
  have z1 : w3.cell? ⟨w.heap.size, 1, none⟩ = some (.int .u8 0) := Q3.cell 1
  have zf1 : w3.frozen? ⟨w.heap.size, 1, none⟩ = false := Q3.free 1
  have z2 : w3.cell? ⟨w.heap.size, 2, none⟩ = some (.int .u8 0) := Q3.cell 2
  have zf2 : w3.frozen? ⟨w.heap.size, 2, none⟩ = false := Q3.free 2
  have z3 : w3.cell? ⟨w.heap.size, 3, none⟩ = some (.int .u8 0) := Q3.cell 3
  have zf3 : w3.frozen? ⟨w.heap.size, 3, none⟩ = false := Q3.free 3
  have z4 : w3.cell? ⟨w.heap.size, 4, none⟩ = some (.int .i64 0) := Q3.cell 4
  have zf4 : w3.frozen? ⟨w.heap.size, 4, none⟩ = false := Q3.free 4
  have h0 : w3.cell? ⟨w2.heap.size, 0, none⟩ = some (.int .u8 r0) := H3.cell 0
  have h1 : w3.cell? ⟨w2.heap.size, 1, none⟩ = some (.int .u8 r1) := H3.cell 1
  have h2 : w3.cell? ⟨w2.heap.size, 2, none⟩ = some (.int .u8 r2) := H3.cell 2
  have h3 : w3.cell? ⟨w2.heap.size, 3, none⟩ = some (.int .u8 r3) := H3.cell 3
  go_wp2_with (go_at_call 48; refine (CP.out _).mono ?_; rintro e w4 ⟨rfl, rfl⟩)
  generalize hW : World.setCell _ _ _ = W9
  have FR : IsRow W9 w.heap.size 30 #[.int .u8 0, .int .u8 0, .int .u8 0, .int .u8 0, .int .i64 0] := by rw [← hW]; exact (((((Q3.set 0 _).set 1 _).set 2 _).set 3 _).set 4 _)
  have B9 : Below w.heap.size w W9 := by rw [← hW]; exact (((((B3.setCell (Nat.le_refl _) _).setCell (Nat.le_refl _) _).setCell (Nat.le_refl _) _).setCell (Nat.le_refl _) _).setCell (Nat.le_refl _) _)
  have g0 : W9.cell? ⟨w.heap.size, 0, none⟩ = some (.int .u8 0) := FR.cell 0
  have g1 : W9.cell? ⟨w.heap.size, 1, none⟩ = some (.int .u8 0) := FR.cell 1
  have g2 : W9.cell? ⟨w.heap.size, 2, none⟩ = some (.int .u8 0) := FR.cell 2
  have g3 : W9.cell? ⟨w.heap.size, 3, none⟩ = some (.int .u8 0) := FR.cell 3
  have g4 : W9.cell? ⟨w.heap.size, 4, none⟩ = some (.int .i64 0) := FR.cell 4
  exact bodyPost_ret (v := .tuple #[endV 0 0 0 0 0, .int .i64 2]) (by simp [results, Tryz.results23, go_sem, g0, g1, g2, g3, g4]) rfl ⟨by rw [hV.out], B9⟩

set_option maxHeartbeats 2000000 in
set_option maxRecDepth 100000 in
theorem rreadX_yes (l : List UInt8) (ll : l.length ≤ 1000000) (c : UInt8) (r : List UInt8) (hl : l = c :: r) (hm : markB c = true) {x k h q : List UInt8} (hc : cutL c l = [x, k, h, q, []]) (hk : kindB k = true) (h1 : getV k 9 = 1) (h0 : extC l = 0) (hh : readB h = true) (hq2 : getB q 65535 = true) (hn0 : ¬ getV q 65535 < 1) (hE : Hid (extH l 0 = readH h 0 ∧ extH l 1 = readH h 1 ∧ extH l 2 = readH h 2 ∧ extH l 3 = readH h 3 ∧ extP l = getV q 65535)) (w : World) :
    Calls Tryz.prog 23 #[str l] w fun e w' => e = .returned (readX l) ∧ Below w.heap.size w w' := by
  have hpos : 0 < l.length := by rw [hl]; simp
  have hsz : 0 < (ByteArray.mk l.toArray).size := by rw [size_of]; exact hpos
  have hx : (ByteArray.mk l.toArray)[0]'hsz = c := by subst hl; rfl
  have hq : markN ((((ByteArray.mk l.toArray)[0]'hsz).toNat : Int)) = true := by rw [hx, mark_is]; exact hm
  have hl0 : (((l.length : Nat) : Int) == 0) = false := by rw [beq_eq_false_iff_ne]; omega
  have CC := Lib.hid (fun W => rcut_any c ((((ByteArray.mk l.toArray)[0]'hsz).toNat : Int)) (by rw [hx]) l ll W)
  clear hx
  have lk : k.length ≤ 9223372036854775807 := by have := Quad.cutL_le c l k (by rw [hc]; simp); omega
  have lh : h.length ≤ 1000000 := by have := Quad.cutL_le c l h (by rw [hc]; simp); omega
  have lq : q.length ≤ 9223372036854775807 := by have := Quad.cutL_le c l q (by rw [hc]; simp); omega
  unfold kindB at hk
  simp only [Bool.and_eq_true, decide_eq_true_eq] at hk
  obtain ⟨hB, hn⟩ := hk
  have CG := Lib.hid (fun W => rget_any k lk 9 W)
  unfold gotV at CG
  rw [hB] at CG
  rw [h1] at CG
  clear hn hB h1
  have CH := Lib.hid (fun W => Quad.rread_any h lh W)
  unfold Quad.readV at CH
  have CP := Lib.hid (fun W => rget_any q lq 65535 W)
  unfold gotV at CP
  have hV := Lib.hid (show readX l = .tuple #[endV (extH l 0) (extH l 1) (extH l 2) (extH l 3) (extP l), .int .i64 0] by unfold readX; rw [h0])
  clear h0
  rw [hh] at CH
  rw [hq2] at CP
  clear hh hq2
  clear hl hm ll lh lq lk
  generalize readH h 0 = r0 at CH hE
  generalize readH h 1 = r1 at CH hE
  generalize readH h 2 = r2 at CH hE
  generalize readH h 3 = r3 at CH hE
  generalize getV q 65535 = r4 at CP hE hn0
  go_enter Tryz.func23, Tryz.ntmps23
  go_wp2_with (first | (go_at_call 49; refine (rmark_any _ _).mono ?_; rintro e w2 ⟨rfl, rfl⟩) | (go_at_call 47; refine (CC.out _).mono ?_))
  rintro e w1 ⟨v, rfl, hown, b1⟩
  have B1 : Below w.heap.size w w1 := ((Below.refl _ _).alloc (Nat.le_refl _) _).trans (b1.mono (by simp))
  have Q1 : IsRow w1 w.heap.size 30 #[.int .u8 0, .int .u8 0, .int .u8 0, .int .u8 0, .int .i64 0] := (IsRow.made w _ _).call b1
  have hN1 := Q1.lt
  clear b1 CC
  rw [hc] at hown
  obtain ⟨g, cap, rfl, hg, hgl, x0, x1, x2, x3, x4⟩ := own_five hown
  clear hown hg hc
  go_wp2_with (first | (go_at_call 48; refine (CG.out _).mono ?_; rintro e w2 ⟨rfl, rfl⟩) | (go_at_call 50; refine (CH.out _).mono ?_))
  rintro e w2 ⟨rfl, b2⟩
  have B2 := below_trans B1 b2
  have Q2 := Q1.call b2
  have y3 := cell_below x3 b2
  have hgl2 := Nat.lt_of_lt_of_le hgl b2.size
  clear b2 x0 x1 x2 x3 x4 hgl B1 Q1 hN1
  go_wp2_with fail
  obtain ⟨w3, e3, B3, Q3, H3, y4⟩ : ∃ w3, w2.alloc (.cells #[.int .u8 r0, .int .u8 r1, .int .u8 r2, .int .u8 r3] 28) = w3 ∧ Below w.heap.size w w3 ∧ IsRow w3 w.heap.size 30 #[.int .u8 0, .int .u8 0, .int .u8 0, .int .u8 0, .int .i64 0] ∧ IsRow w3 w2.heap.size 28 #[.int .u8 r0, .int .u8 r1, .int .u8 r2, .int .u8 r3] ∧ w3.cell? ⟨g, 3, none⟩ = some (str q) := ⟨_, rfl, B2.alloc B2.size _, Q2.alloc _, IsRow.made _ _ _, by rw [World.cell?_alloc_lt _ _ ⟨g, 3, none⟩ hgl2]; exact y3⟩
  rw [e3]
  clear e3 B2 Q2 y3 hgl2
  have hN3 := Q3.lt
  have hM3 := H3.lt
  have z0 : w3.cell? ⟨w.heap.size, 0, none⟩ = some (.int .u8 0) := Q3.cell 0
  have zf0 : w3.frozen? ⟨w.heap.size, 0, none⟩ = false := Q3.free 0
  have z1 : w3.cell? ⟨w.heap.size, 1, none⟩ = some (.int .u8 0) := Q3.cell 1
  have zf1 : w3.frozen? ⟨w.heap.size, 1, none⟩ = false := Q3.free 1
  have z2 : w3.cell? ⟨w.heap.size, 2, none⟩ = some (.int .u8 0) := Q3.cell 2
  have zf2 : w3.frozen? ⟨w.heap.size, 2, none⟩ = false := Q3.free 2
  have z3 : w3.cell? ⟨w.heap.size, 3, none⟩ = some (.int .u8 0) := Q3.cell 3
  have zf3 : w3.frozen? ⟨w.heap.size, 3, none⟩ = false := Q3.free 3
  have z4 : w3.cell? ⟨w.heap.size, 4, none⟩ = some (.int .i64 0) := Q3.cell 4
  have zf4 : w3.frozen? ⟨w.heap.size, 4, none⟩ = false := Q3.free 4
  have h0 : w3.cell? ⟨w2.heap.size, 0, none⟩ = some (.int .u8 r0) := H3.cell 0
  have h1 : w3.cell? ⟨w2.heap.size, 1, none⟩ = some (.int .u8 r1) := H3.cell 1
  have h2 : w3.cell? ⟨w2.heap.size, 2, none⟩ = some (.int .u8 r2) := H3.cell 2
  have h3 : w3.cell? ⟨w2.heap.size, 3, none⟩ = some (.int .u8 r3) := H3.cell 3
  go_wp2_with (go_at_call 48; refine (CP.out _).mono ?_; rintro e w4 ⟨rfl, rfl⟩)
  generalize hW : World.setCell _ _ _ = W9
  have FR : IsRow W9 w.heap.size 30 #[.int .u8 r0, .int .u8 r1, .int .u8 r2, .int .u8 r3, .int .i64 r4] := by rw [← hW]; exact (((((Q3.set 0 _).set 1 _).set 2 _).set 3 _).set 4 _)
  have B9 : Below w.heap.size w W9 := by rw [← hW]; exact (((((B3.setCell (Nat.le_refl _) _).setCell (Nat.le_refl _) _).setCell (Nat.le_refl _) _).setCell (Nat.le_refl _) _).setCell (Nat.le_refl _) _)
  have g0 : W9.cell? ⟨w.heap.size, 0, none⟩ = some (.int .u8 r0) := FR.cell 0
  have g1 : W9.cell? ⟨w.heap.size, 1, none⟩ = some (.int .u8 r1) := FR.cell 1
  have g2 : W9.cell? ⟨w.heap.size, 2, none⟩ = some (.int .u8 r2) := FR.cell 2
  have g3 : W9.cell? ⟨w.heap.size, 3, none⟩ = some (.int .u8 r3) := FR.cell 3
  have g4 : W9.cell? ⟨w.heap.size, 4, none⟩ = some (.int .i64 r4) := FR.cell 4
  exact bodyPost_ret (v := .tuple #[endV r0 r1 r2 r3 r4, .int .i64 0]) (by simp [results, Tryz.results23, go_sem, g0, g1, g2, g3, g4]) rfl ⟨by rw [hV.out]; obtain ⟨e0, e1, e2, e3, e4⟩ := hE.out; rw [e0, e1, e2, e3, e4], B9⟩

set_option maxHeartbeats 2000000 in
set_option maxRecDepth 100000 in
theorem rreadX_any (l : List UInt8) (ll : l.length ≤ 1000000) (w : World) :
    Calls Tryz.prog 23 #[str l] w fun e w' => e = .returned (readX l) ∧ Below w.heap.size w w' := by
  cases hL : l with
  | nil => rw [← hL]; exact rreadX_nil l ll hL w
  | cons c r =>
    rw [← hL]
    cases hm : markB c with
    | false => exact rreadX_markless l ll c r hL hm w
    | true =>
      by_cases h5 : (cutL c l).length = 5
      · obtain ⟨x, k, h, q, z, hc⟩ : ∃ x k h q z, cutL c l = [x, k, h, q, z] := by
          match hcc : cutL c l, h5 with
          | [x, k, h, q, z], _ => exact ⟨x, k, h, q, z, rfl⟩
        by_cases hz : z = []
        · subst hz
          have hf : five c l = true := by unfold five; rw [hc, hm]; rfl
          obtain ⟨hC, h2, h3⟩ := extC_parts (c := c) (r := r) (by rw [← hL]; exact hf) (by rw [← hL]; exact hc)
          rw [← hL] at hC h2 h3
          cases hk : kindB k with
          | false => exact rreadX_kind_no l ll c r hL hm hc (by rw [hC, hk]; rfl) hk w
          | true =>
            rw [hk, if_pos rfl] at hC
            by_cases h1 : getV k 9 = 1
            · rw [if_pos h1] at hC
              cases hh : readB h with
              | false => exact rreadX_host l ll c r hL hm hc hk h1 (by rw [hC, hh]; rfl) hh w
              | true =>
                cases hq2 : getB q 65535 with
                | false => exact rreadX_port_no l ll c r hL hm hc hk h1 (by rw [hC, hh]; unfold portB; rw [hq2]; rfl) hh hq2 w
                | true =>
                  by_cases hq3 : getV q 65535 < 1
                  · exact rreadX_port_low l ll c r hL hm hc hk h1 (by rw [hC, hh]; unfold portB; rw [hq2, decide_eq_false (by omega)]; rfl) hh hq2 hq3 w
                  · have h0 : extC l = 0 := by rw [hC, hh]; unfold portB; rw [hq2, decide_eq_true (by omega)]; rfl
                    exact rreadX_yes l ll c r hL hm hc hk h1 h0 hh hq2 hq3 (Lib.hid (show extH l 0 = readH h 0 ∧ extH l 1 = readH h 1 ∧ extH l 2 = readH h 2 ∧ extH l 3 = readH h 3 ∧ extP l = getV q 65535 by unfold extH extP; simp only [if_pos h0, h2, h3]; exact ⟨trivial, trivial, trivial, trivial, trivial⟩)) w
            · rw [if_neg h1] at hC
              exact rreadX_kind_other l ll c r hL hm hc hC hk h1 w
        · exact rreadX_tail l ll c r hL hm hc hz w
      · exact rreadX_few l ll c r hL hm h5 w
#print axioms rreadX_any
end Go.Proofs.YtdimfppijcebjaaGreatDoor.Ext
