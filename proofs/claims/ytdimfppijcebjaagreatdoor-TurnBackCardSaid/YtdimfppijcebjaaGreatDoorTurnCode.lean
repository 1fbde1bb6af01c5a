/- The contracts of package turn: isOpen, found, check, number, own, readExtended, readCmd, Point, onlyLine, readReply, Listen (gen-turn-code.py). -/
import Derived.Test.YtdimfppijcebjaaGreatDoorTurnIs
import Derived.Test.YtdimfppijcebjaaGreatDoorSixRead
import Derived.Test.YtdimfppijcebjaaGreatDoorExtEnd
import Derived.Test.YtdimfppijcebjaaGreatDoorEndArg
import Derived.Test.YtdimfppijcebjaaGreatDoorCmdArg
import Derived.Test.YtdimfppijcebjaaGreatDoorReplyArg
import Derived.Test.YtdimfppijcebjaaGreatDoorTexts
import Derived.IntWalk
import Derived.BigQuiet
import Derived.RegionTactic
namespace Go.Proofs.YtdimfppijcebjaaGreatDoor.Tu
open Go.Proofs.YtdimfppijcebjaaGreatDoor
open Go.Proofs.YtdimfppijcebjaaGreatDoor.Six (sixB sixN sixP sixL insL insO)
open Go.Proofs.YtdimfppijcebjaaGreatDoor.Ext (extC extH extP extL portL holdB holdN)
open Go Go.ChangeShapes Go.WideShapes Go.ChangeAt Go.RowKit
set_option maxRecDepth 100000
set_option linter.unusedSimpArgs false
set_option linter.unusedVariables false

abbrev enV (x : En) : Value := .agg #[.int .u8 x.a, .int .u8 x.b, .int .u8 x.c, .int .u8 x.d, .int .i64 x.p]
abbrev hoV (h0 h1 h2 h3 : Int) : Value := .agg #[.int .u8 h0, .int .u8 h1, .int .u8 h2, .int .u8 h3]
/-- an error by its number -/
def errV (aV aF aK aD : Addr) (p : ByteArray) (no : Int) : Value := if no = 0 then .nilIface else faultV p (if no = 1 then aV else if no = 2 then aF else if no = 8 then aK else aD)

theorem isOpen_any (n : Int) (w : World) :
    Calls Tryz.prog 30 #[.int .i64 n] w fun e w' => e = .returned (.bool (openB n)) ∧ w' = w := by
  have hd : Hid (openB n = (decide (1024 ≤ n) && decide (n ≤ 65535))) := Lib.hid rfl
  by_cases h0 : 1024 ≤ n
  · by_cases h1 : n ≤ 65535
    · go_enter Tryz.func30, Tryz.ntmps30
      go_wp2_with fail
      go_ret
      rw [hd.out]; exact ⟨by simp [h0, h1], rfl⟩
    · go_enter Tryz.func30, Tryz.ntmps30
      go_wp2_with fail
      go_ret
      rw [hd.out]; exact ⟨by simp; omega, rfl⟩
  · go_enter Tryz.func30, Tryz.ntmps30
    go_wp2_with fail
    go_ret
    rw [hd.out]; exact ⟨by simp; omega, rfl⟩
theorem isOpen_of {n : Int} {b : Bool} (h : openB n = b) (w : World) :
    Calls Tryz.prog 30 #[.int .i64 n] w fun e w' => e = .returned (.bool b) ∧ w' = w := h ▸ isOpen_any n w

set_option maxHeartbeats 2000000 in
theorem found_yes (x : En) (w : World) : Calls Tryz.prog 42 #[enV x, .bool true] w fun e w' => e = .returned (.tuple #[enV x, .nilIface]) ∧ Below w.heap.size w w' := by
  obtain ⟨a, b, c, d, p⟩ := x
  go_enter Tryz.func42, Tryz.ntmps42
  go_wp2_with fail
  refine bodyPost_ret (v := .tuple #[.agg #[.int .u8 a, .int .u8 b, .int .u8 c, .int .u8 d, .int .i64 p], .nilIface]) (by simp [results, Tryz.results42, go_sem]; done) rfl ?_
  exact ⟨by first | rfl | (simp; done), (((((Below.refl w.heap.size w)).alloc (Below.refl w.heap.size w).size (.cells #[.int .u8 a, .int .u8 b, .int .u8 c, .int .u8 d, .int .i64 p] 30))).alloc (by have := (Below.refl w.heap.size w).size; simp <;> omega) (.cells #[.int .u8 a, .int .u8 b, .int .u8 c, .int .u8 d, .int .i64 p] 30))⟩

set_option maxHeartbeats 2000000 in
theorem found_no (x : En) (w : World) (E : Env w) (aV aF aK aD : Addr) (R0 : TErrs aV aF aK aD w) : Calls Tryz.prog 42 #[enV x, .bool false] w fun e w' => e = .returned (.tuple #[enV En.z, faultV ⟨#[101, 110, 100]⟩ aF]) ∧ Below w.heap.size w w' := by
  obtain ⟨a, b, c, d, p⟩ := x
  have R := Lib.hid R0
  clear R0
  go_enter Tryz.func42, Tryz.ntmps42
  go_wp2_with fail
  obtain ⟨w1, hv⟩ : ∃ V, ((w.alloc (.cells #[.int .u8 a, .int .u8 b, .int .u8 c, .int .u8 d, .int .i64 p] 30)).alloc (.cells #[.int .u8 0, .int .u8 0, .int .u8 0, .int .u8 0, .int .i64 0] 30)) = V := ⟨_, rfl⟩
  have B1 := Lib.hid (show Below w.heap.size w w1 by rw [← hv]; exact (((((Below.refl w.heap.size w)).alloc (Below.refl w.heap.size w).size (.cells #[.int .u8 a, .int .u8 b, .int .u8 c, .int .u8 d, .int .i64 p] 30))).alloc (by have := (Below.refl w.heap.size w).size; simp <;> omega) (.cells #[.int .u8 0, .int .u8 0, .int .u8 0, .int .u8 0, .int .i64 0] 30)))
  have X1 : Hid (IsRow w1 (w.heap.size) 30 #[.int .u8 a, .int .u8 b, .int .u8 c, .int .u8 d, .int .i64 p]) := Lib.hid (by rw [← hv]; first | exact ((IsRow.made w 30 #[.int .u8 a, .int .u8 b, .int .u8 c, .int .u8 d, .int .i64 p]).alloc (.cells #[.int .u8 0, .int .u8 0, .int .u8 0, .int .u8 0, .int .i64 0] 30)) | (have h := ((IsRow.made w 30 #[.int .u8 a, .int .u8 b, .int .u8 c, .int .u8 d, .int .i64 p]).alloc (.cells #[.int .u8 0, .int .u8 0, .int .u8 0, .int .u8 0, .int .i64 0] 30)); simp at h; exact h))
  have R1 : Hid (IsRow w1 (w.heap.size + 1) 30 #[.int .u8 0, .int .u8 0, .int .u8 0, .int .u8 0, .int .i64 0]) := Lib.hid (by rw [← hv]; first | exact (IsRow.made (w.alloc (.cells #[.int .u8 a, .int .u8 b, .int .u8 c, .int .u8 d, .int .i64 p] 30)) 30 #[.int .u8 0, .int .u8 0, .int .u8 0, .int .u8 0, .int .i64 0]) | (have h := (IsRow.made (w.alloc (.cells #[.int .u8 a, .int .u8 b, .int .u8 c, .int .u8 d, .int .i64 p] 30)) 30 #[.int .u8 0, .int .u8 0, .int .u8 0, .int .u8 0, .int .i64 0]); simp at h; exact h))
  rw [hv]
  clear hv
  have Rc0 : w1.cell? ⟨w.heap.size + 1, 0, none⟩ = some (.int .u8 0) := R1.out.cell 0
  have Rf0 : w1.frozen? ⟨w.heap.size + 1, 0, none⟩ = false := R1.out.free 0
  have Rc1 : w1.cell? ⟨w.heap.size + 1, 1, none⟩ = some (.int .u8 0) := R1.out.cell 1
  have Rf1 : w1.frozen? ⟨w.heap.size + 1, 1, none⟩ = false := R1.out.free 1
  have Rc2 : w1.cell? ⟨w.heap.size + 1, 2, none⟩ = some (.int .u8 0) := R1.out.cell 2
  have Rf2 : w1.frozen? ⟨w.heap.size + 1, 2, none⟩ = false := R1.out.free 2
  have Rc3 : w1.cell? ⟨w.heap.size + 1, 3, none⟩ = some (.int .u8 0) := R1.out.cell 3
  have Rf3 : w1.frozen? ⟨w.heap.size + 1, 3, none⟩ = false := R1.out.free 3
  have Rc4 : w1.cell? ⟨w.heap.size + 1, 4, none⟩ = some (.int .i64 0) := R1.out.cell 4
  have Rf4 : w1.frozen? ⟨w.heap.size + 1, 4, none⟩ = false := R1.out.free 4
  have Rlt : w.heap.size + 1 < w1.heap.size := R1.out.lt
  have kf : w1.cell? ⟨1, 0, none⟩ = some (newV aF) := (R.out.below B1.out).form
  have kg : (World.setCell (World.setCell (World.setCell (World.setCell (World.setCell w1 ⟨w.heap.size + 1, 0, none⟩ (.int .u8 0)) ⟨w.heap.size + 1, 1, none⟩ (.int .u8 0)) ⟨w.heap.size + 1, 2, none⟩ (.int .u8 0)) ⟨w.heap.size + 1, 3, none⟩ (.int .u8 0)) ⟨w.heap.size + 1, 4, none⟩ (.int .i64 0)).cell? ⟨1, 0, none⟩ = some (newV aF) := (R.out.below ((((((((((B1.out).setCell (p := ⟨w.heap.size + 1, 0, none⟩) (by show w.heap.size ≤ w.heap.size + 1; (try have hs1 := B1.out.size); omega) (.int .u8 0))).setCell (p := ⟨w.heap.size + 1, 1, none⟩) (by show w.heap.size ≤ w.heap.size + 1; (try have hs1 := B1.out.size); omega) (.int .u8 0))).setCell (p := ⟨w.heap.size + 1, 2, none⟩) (by show w.heap.size ≤ w.heap.size + 1; (try have hs1 := B1.out.size); omega) (.int .u8 0))).setCell (p := ⟨w.heap.size + 1, 3, none⟩) (by show w.heap.size ≤ w.heap.size + 1; (try have hs1 := B1.out.size); omega) (.int .u8 0))).setCell (p := ⟨w.heap.size + 1, 4, none⟩) (by show w.heap.size ≤ w.heap.size + 1; (try have hs1 := B1.out.size); omega) (.int .i64 0))).form
  go_region
  go_wp2_with fail
  obtain ⟨W9, hW⟩ : ∃ W9, (World.drew (World.setCell (World.setCell (World.setCell (World.setCell (World.setCell w1 ⟨w.heap.size + 1, 0, none⟩ (.int .u8 0)) ⟨w.heap.size + 1, 1, none⟩ (.int .u8 0)) ⟨w.heap.size + 1, 2, none⟩ (.int .u8 0)) ⟨w.heap.size + 1, 3, none⟩ (.int .u8 0)) ⟨w.heap.size + 1, 4, none⟩ (.int .i64 0))) = W9 := ⟨_, rfl⟩
  have R9 : IsRow W9 (w.heap.size + 1) 30 #[.int .u8 0, .int .u8 0, .int .u8 0, .int .u8 0, .int .i64 0] := by
    rw [← hW]
    exact ((((((R1.out.set 0 (.int .u8 0)).set 1 (.int .u8 0)).set 2 (.int .u8 0)).set 3 (.int .u8 0)).set 4 (.int .i64 0)).drew)
  have B9 : Below w.heap.size w W9 := by
    rw [← hW]
    exact (((((((((((B1.out).setCell (p := ⟨w.heap.size + 1, 0, none⟩) (by show w.heap.size ≤ w.heap.size + 1; (try have hs1 := B1.out.size); omega) (.int .u8 0))).setCell (p := ⟨w.heap.size + 1, 1, none⟩) (by show w.heap.size ≤ w.heap.size + 1; (try have hs1 := B1.out.size); omega) (.int .u8 0))).setCell (p := ⟨w.heap.size + 1, 2, none⟩) (by show w.heap.size ≤ w.heap.size + 1; (try have hs1 := B1.out.size); omega) (.int .u8 0))).setCell (p := ⟨w.heap.size + 1, 3, none⟩) (by show w.heap.size ≤ w.heap.size + 1; (try have hs1 := B1.out.size); omega) (.int .u8 0))).setCell (p := ⟨w.heap.size + 1, 4, none⟩) (by show w.heap.size ≤ w.heap.size + 1; (try have hs1 := B1.out.size); omega) (.int .i64 0))).drew
  rw [hW]
  clear Rc0 Rf0 Rc1 Rf1 Rc2 Rf2 Rc3 Rf3 Rc4 Rf4 Rlt
  have y0 : W9.cell? ⟨w.heap.size + 1, 0, none⟩ = some (.int .u8 0) := R9.cell 0
  have y1 : W9.cell? ⟨w.heap.size + 1, 1, none⟩ = some (.int .u8 0) := R9.cell 1
  have y2 : W9.cell? ⟨w.heap.size + 1, 2, none⟩ = some (.int .u8 0) := R9.cell 2
  have y3 : W9.cell? ⟨w.heap.size + 1, 3, none⟩ = some (.int .u8 0) := R9.cell 3
  have y4 : W9.cell? ⟨w.heap.size + 1, 4, none⟩ = some (.int .i64 0) := R9.cell 4
  refine bodyPost_ret (v := .tuple #[.agg #[.int .u8 0, .int .u8 0, .int .u8 0, .int .u8 0, .int .i64 0], faultV ⟨#[101, 110, 100]⟩ aF]) (by simp [results, Tryz.results42, go_sem, y0, y1, y2, y3, y4]; done) rfl ?_
  exact ⟨rfl, B9⟩

set_option maxHeartbeats 2000000 in
theorem check_yes (x : En) (h0 h1 h2 h3 : Int) (hat : atB x h0 h1 h2 h3 = true) (hop : openB x.p = true) (w : World) : Calls Tryz.prog 45 #[enV x, hoV h0 h1 h2 h3] w fun e w' => e = .returned (.nilIface) ∧ Below w.heap.size w w' := by
  obtain ⟨a, b, c, d, p⟩ := x
  have hq : ∀ W, (Op.equalIn 10000 28 (.agg #[.int .u8 a, .int .u8 b, .int .u8 c, .int .u8 d]) (.agg #[.int .u8 h0, .int .u8 h1, .int .u8 h2, .int .u8 h3])).run Tryz.prog W = .ok true W := fun W => by rw [equal_hosts, show (a == h0 && b == h1 && c == h2 && d == h3) = true from hat]
  have HO := Lib.hid (fun W => isOpen_of (n := p) hop W)
  go_enter Tryz.func45, Tryz.ntmps45
  go_wp2_with (go_at_call 30; refine (HO.out _).mono ?_; rintro e w9 ⟨rfl, h9⟩; obtain rfl := h9.symm)
  go_ret
  exact ⟨by first | rfl | (simp; done), (((((Below.refl w.heap.size w)).alloc (Below.refl w.heap.size w).size (.cells #[.int .u8 a, .int .u8 b, .int .u8 c, .int .u8 d, .int .i64 p] 30))).alloc (by have := (Below.refl w.heap.size w).size; simp <;> omega) (.cells #[.int .u8 h0, .int .u8 h1, .int .u8 h2, .int .u8 h3] 28))⟩

set_option maxHeartbeats 2000000 in
theorem check_port (x : En) (h0 h1 h2 h3 : Int) (hat : atB x h0 h1 h2 h3 = true) (hop : openB x.p = false) (w : World) (E : Env w) (aV aF aK aD : Addr) (R0 : TErrs aV aF aK aD w) : Calls Tryz.prog 45 #[enV x, hoV h0 h1 h2 h3] w fun e w' => e = .returned (faultV ⟨#[112, 111, 114, 116]⟩ aD) ∧ Below w.heap.size w w' := by
  obtain ⟨a, b, c, d, p⟩ := x
  have R := Lib.hid R0
  clear R0
  have hq : ∀ W, (Op.equalIn 10000 28 (.agg #[.int .u8 a, .int .u8 b, .int .u8 c, .int .u8 d]) (.agg #[.int .u8 h0, .int .u8 h1, .int .u8 h2, .int .u8 h3])).run Tryz.prog W = .ok true W := fun W => by rw [equal_hosts, show (a == h0 && b == h1 && c == h2 && d == h3) = true from hat]
  have HO := Lib.hid (fun W => isOpen_of (n := p) hop W)
  have kd : ((w.alloc (.cells #[.int .u8 a, .int .u8 b, .int .u8 c, .int .u8 d, .int .i64 p] 30)).alloc (.cells #[.int .u8 h0, .int .u8 h1, .int .u8 h2, .int .u8 h3] 28)).cell? ⟨3, 0, none⟩ = some (newV aD) := (R.out.below (((((Below.refl w.heap.size w)).alloc (Below.refl w.heap.size w).size (.cells #[.int .u8 a, .int .u8 b, .int .u8 c, .int .u8 d, .int .i64 p] 30))).alloc (by have := (Below.refl w.heap.size w).size; simp <;> omega) (.cells #[.int .u8 h0, .int .u8 h1, .int .u8 h2, .int .u8 h3] 28))).deny
  go_enter Tryz.func45, Tryz.ntmps45
  go_wp2_with (go_at_call 30; refine (HO.out _).mono ?_; rintro e w9 ⟨rfl, h9⟩; obtain rfl := h9.symm)
  go_ret
  exact ⟨by first | rfl | (simp; done), (((((Below.refl w.heap.size w)).alloc (Below.refl w.heap.size w).size (.cells #[.int .u8 a, .int .u8 b, .int .u8 c, .int .u8 d, .int .i64 p] 30))).alloc (by have := (Below.refl w.heap.size w).size; simp <;> omega) (.cells #[.int .u8 h0, .int .u8 h1, .int .u8 h2, .int .u8 h3] 28))⟩

set_option maxHeartbeats 2000000 in
theorem check_host (x : En) (h0 h1 h2 h3 : Int) (hat : atB x h0 h1 h2 h3 = false) (w : World) (E : Env w) (aV aF aK aD : Addr) (R0 : TErrs aV aF aK aD w) : Calls Tryz.prog 45 #[enV x, hoV h0 h1 h2 h3] w fun e w' => e = .returned (faultV ⟨#[104, 111, 115, 116]⟩ aD) ∧ Below w.heap.size w w' := by
  obtain ⟨a, b, c, d, p⟩ := x
  have R := Lib.hid R0
  clear R0
  have hq : ∀ W, (Op.equalIn 10000 28 (.agg #[.int .u8 a, .int .u8 b, .int .u8 c, .int .u8 d]) (.agg #[.int .u8 h0, .int .u8 h1, .int .u8 h2, .int .u8 h3])).run Tryz.prog W = .ok false W := fun W => by rw [equal_hosts, show (a == h0 && b == h1 && c == h2 && d == h3) = false from hat]
  have kd : ((w.alloc (.cells #[.int .u8 a, .int .u8 b, .int .u8 c, .int .u8 d, .int .i64 p] 30)).alloc (.cells #[.int .u8 h0, .int .u8 h1, .int .u8 h2, .int .u8 h3] 28)).cell? ⟨3, 0, none⟩ = some (newV aD) := (R.out.below (((((Below.refl w.heap.size w)).alloc (Below.refl w.heap.size w).size (.cells #[.int .u8 a, .int .u8 b, .int .u8 c, .int .u8 d, .int .i64 p] 30))).alloc (by have := (Below.refl w.heap.size w).size; simp <;> omega) (.cells #[.int .u8 h0, .int .u8 h1, .int .u8 h2, .int .u8 h3] 28))).deny
  go_enter Tryz.func45, Tryz.ntmps45
  go_wp2_with fail
  go_ret
  exact ⟨by first | rfl | (simp; done), (((((Below.refl w.heap.size w)).alloc (Below.refl w.heap.size w).size (.cells #[.int .u8 a, .int .u8 b, .int .u8 c, .int .u8 d, .int .i64 p] 30))).alloc (by have := (Below.refl w.heap.size w).size; simp <;> omega) (.cells #[.int .u8 h0, .int .u8 h1, .int .u8 h2, .int .u8 h3] 28))⟩

theorem check_no (x : En) (h0 h1 h2 h3 : Int) (h : (atB x h0 h1 h2 h3 && openB x.p) = false) (w : World) (E : Env w) (aV aF aK aD : Addr) (R0 : TErrs aV aF aK aD w) : Calls Tryz.prog 45 #[enV x, hoV h0 h1 h2 h3] w fun e w' => (∃ p, e = .returned (faultV p aD)) ∧ Below w.heap.size w w' := by
  cases ha : atB x h0 h1 h2 h3 with
  | false => exact (check_host x h0 h1 h2 h3 ha w E aV aF aK aD R0).mono fun e w' h => ⟨⟨_, h.1⟩, h.2⟩
  | true =>
    rw [ha, Bool.true_and] at h
    exact (check_port x h0 h1 h2 h3 ha h w E aV aF aK aD R0).mono fun e w' h => ⟨⟨_, h.1⟩, h.2⟩

theorem number_any (p : ByteArray) (no : Int) (hno : no = 0 ∨ no = 1 ∨ no = 2 ∨ no = 8) (w : World) (aV aF aK aD : Addr) (R0 : TErrs aV aF aK aD w) : Calls Tryz.prog 46 #[errV aV aF aK aD p no] w fun e w' => e = .returned (.int .i64 no) ∧ Below w.heap.size w w' := by
  rcases hno with rfl | rfl | rfl | rfl
  · exact number_nil w
  · exact number_verb p aV aF aK aD w R0
  · exact number_form p aV aF aK aD w R0
  · exact number_kind p aV aF aK aD w R0

set_option maxHeartbeats 4000000 in
theorem own_of (x y : En) (no k h0 h1 h2 h3 : Int) (q0 : ByteArray) (hno : no = 0 ∨ no = 1 ∨ no = 2 ∨ no = 8) (h : ownN x no h0 h1 h2 h3 = (y, k)) (w : World) (E : Env w) (aV aF aK aD : Addr) (R0 : TErrs aV aF aK aD w) : Calls Tryz.prog 21 #[enV x, errV aV aF aK aD q0 no, hoV h0 h1 h2 h3] w fun e w' => e = .returned (.tuple #[enV y, .int .i64 k]) ∧ Below w.heap.size w w' := by
  rcases Decidable.em (no = 0) with h00 | h00
  · subst h00
    cases hc : (atB x h0 h1 h2 h3 && openB x.p) with
    | true =>
      obtain ⟨hat, hop⟩ : atB x h0 h1 h2 h3 = true ∧ openB x.p = true := by rw [Bool.and_eq_true] at hc; exact hc
      have e : ownN x 0 h0 h1 h2 h3 = (x, 0) := by unfold ownN ownE; rw [if_pos rfl, hc]; rfl
      rw [e] at h
      injection h with i1 i2
      subst i1; subst i2
      have HC := Lib.hid (fun W => check_yes x h0 h1 h2 h3 hat hop W)
      have HN := Lib.hid (fun W => number_nil W)
      have hv : errV aV aF aK aD q0 0 = .nilIface := rfl
      rw [hv]
      clear e hc hat hop hno hv
      obtain ⟨a, b, c, d, p⟩ := x
      have R := Lib.hid R0
      clear R0
      go_enter Tryz.func21, Tryz.ntmps21
      go_wp2_with (first
        | (go_at_call 45; refine (HC.out _).mono ?_; rintro e w1 ⟨rfl, b1⟩; have B1 := Lib.hid (((((((((Below.refl w.heap.size w)).alloc (Below.refl w.heap.size w).size (.cells #[.int .u8 a, .int .u8 b, .int .u8 c, .int .u8 d, .int .i64 p] 30))).alloc (by have := (Below.refl w.heap.size w).size; simp <;> omega) (.cells #[.int .u8 h0, .int .u8 h1, .int .u8 h2, .int .u8 h3] 28))).alloc (by have := (Below.refl w.heap.size w).size; simp <;> omega) (.cells #[.int .u8 0, .int .u8 0, .int .u8 0, .int .u8 0, .int .i64 0] 30))).trans (b1.mono (by have := (((((((Below.refl w.heap.size w)).alloc (Below.refl w.heap.size w).size (.cells #[.int .u8 a, .int .u8 b, .int .u8 c, .int .u8 d, .int .i64 p] 30))).alloc (by have := (Below.refl w.heap.size w).size; simp <;> omega) (.cells #[.int .u8 h0, .int .u8 h1, .int .u8 h2, .int .u8 h3] 28))).alloc (by have := (Below.refl w.heap.size w).size; simp <;> omega) (.cells #[.int .u8 0, .int .u8 0, .int .u8 0, .int .u8 0, .int .i64 0] 30)).size; first | exact this | (simp <;> omega)))); have X1 : Hid (IsRow w1 (w.heap.size) 30 #[.int .u8 a, .int .u8 b, .int .u8 c, .int .u8 d, .int .i64 p]) := Lib.hid (by first | exact (((IsRow.made w 30 #[.int .u8 a, .int .u8 b, .int .u8 c, .int .u8 d, .int .i64 p]).alloc (.cells #[.int .u8 h0, .int .u8 h1, .int .u8 h2, .int .u8 h3] 28)).alloc (.cells #[.int .u8 0, .int .u8 0, .int .u8 0, .int .u8 0, .int .i64 0] 30)).call b1 | (have h := (((IsRow.made w 30 #[.int .u8 a, .int .u8 b, .int .u8 c, .int .u8 d, .int .i64 p]).alloc (.cells #[.int .u8 h0, .int .u8 h1, .int .u8 h2, .int .u8 h3] 28)).alloc (.cells #[.int .u8 0, .int .u8 0, .int .u8 0, .int .u8 0, .int .i64 0] 30)).call b1; simp at h; exact h)); have H1 : Hid (IsRow w1 (w.heap.size + 1) 28 #[.int .u8 h0, .int .u8 h1, .int .u8 h2, .int .u8 h3]) := Lib.hid (by first | exact ((IsRow.made (w.alloc (.cells #[.int .u8 a, .int .u8 b, .int .u8 c, .int .u8 d, .int .i64 p] 30)) 28 #[.int .u8 h0, .int .u8 h1, .int .u8 h2, .int .u8 h3]).alloc (.cells #[.int .u8 0, .int .u8 0, .int .u8 0, .int .u8 0, .int .i64 0] 30)).call b1 | (have h := ((IsRow.made (w.alloc (.cells #[.int .u8 a, .int .u8 b, .int .u8 c, .int .u8 d, .int .i64 p] 30)) 28 #[.int .u8 h0, .int .u8 h1, .int .u8 h2, .int .u8 h3]).alloc (.cells #[.int .u8 0, .int .u8 0, .int .u8 0, .int .u8 0, .int .i64 0] 30)).call b1; simp at h; exact h)); have R1 : Hid (IsRow w1 (w.heap.size + 2) 30 #[.int .u8 0, .int .u8 0, .int .u8 0, .int .u8 0, .int .i64 0]) := Lib.hid (by first | exact (IsRow.made ((w.alloc (.cells #[.int .u8 a, .int .u8 b, .int .u8 c, .int .u8 d, .int .i64 p] 30)).alloc (.cells #[.int .u8 h0, .int .u8 h1, .int .u8 h2, .int .u8 h3] 28)) 30 #[.int .u8 0, .int .u8 0, .int .u8 0, .int .u8 0, .int .i64 0]).call b1 | (have h := (IsRow.made ((w.alloc (.cells #[.int .u8 a, .int .u8 b, .int .u8 c, .int .u8 d, .int .i64 p] 30)).alloc (.cells #[.int .u8 h0, .int .u8 h1, .int .u8 h2, .int .u8 h3] 28)) 30 #[.int .u8 0, .int .u8 0, .int .u8 0, .int .u8 0, .int .i64 0]).call b1; simp at h; exact h)); have Xc0 : w1.cell? ⟨w.heap.size, 0, none⟩ = some (.int .u8 a) := X1.out.cell 0; have Xf0 : w1.frozen? ⟨w.heap.size, 0, none⟩ = false := X1.out.free 0; have Xc1 : w1.cell? ⟨w.heap.size, 1, none⟩ = some (.int .u8 b) := X1.out.cell 1; have Xf1 : w1.frozen? ⟨w.heap.size, 1, none⟩ = false := X1.out.free 1; have Xc2 : w1.cell? ⟨w.heap.size, 2, none⟩ = some (.int .u8 c) := X1.out.cell 2; have Xf2 : w1.frozen? ⟨w.heap.size, 2, none⟩ = false := X1.out.free 2; have Xc3 : w1.cell? ⟨w.heap.size, 3, none⟩ = some (.int .u8 d) := X1.out.cell 3; have Xf3 : w1.frozen? ⟨w.heap.size, 3, none⟩ = false := X1.out.free 3; have Xc4 : w1.cell? ⟨w.heap.size, 4, none⟩ = some (.int .i64 p) := X1.out.cell 4; have Xf4 : w1.frozen? ⟨w.heap.size, 4, none⟩ = false := X1.out.free 4; have Xlt : w.heap.size < w1.heap.size := X1.out.lt; have Rc0 : w1.cell? ⟨w.heap.size + 2, 0, none⟩ = some (.int .u8 0) := R1.out.cell 0; have Rf0 : w1.frozen? ⟨w.heap.size + 2, 0, none⟩ = false := R1.out.free 0; have Rc1 : w1.cell? ⟨w.heap.size + 2, 1, none⟩ = some (.int .u8 0) := R1.out.cell 1; have Rf1 : w1.frozen? ⟨w.heap.size + 2, 1, none⟩ = false := R1.out.free 1; have Rc2 : w1.cell? ⟨w.heap.size + 2, 2, none⟩ = some (.int .u8 0) := R1.out.cell 2; have Rf2 : w1.frozen? ⟨w.heap.size + 2, 2, none⟩ = false := R1.out.free 2; have Rc3 : w1.cell? ⟨w.heap.size + 2, 3, none⟩ = some (.int .u8 0) := R1.out.cell 3; have Rf3 : w1.frozen? ⟨w.heap.size + 2, 3, none⟩ = false := R1.out.free 3; have Rc4 : w1.cell? ⟨w.heap.size + 2, 4, none⟩ = some (.int .i64 0) := R1.out.cell 4; have Rf4 : w1.frozen? ⟨w.heap.size + 2, 4, none⟩ = false := R1.out.free 4; have Rlt : w.heap.size + 2 < w1.heap.size := R1.out.lt; clear HC)
        | (go_at_call 46; refine (HN.out _).mono ?_; rintro e w2 ⟨rfl, b2⟩; have B2 := Lib.hid ((B1.out).trans (b2.mono (by have := B1.out.size; first | exact this | (simp <;> omega)))); have X2 : Hid (IsRow w2 (w.heap.size) 30 #[.int .u8 a, .int .u8 b, .int .u8 c, .int .u8 d, .int .i64 p]) := Lib.hid (by first | exact X1.out.call b2 | (have h := X1.out.call b2; simp at h; exact h)); have H2 : Hid (IsRow w2 (w.heap.size + 1) 28 #[.int .u8 h0, .int .u8 h1, .int .u8 h2, .int .u8 h3]) := Lib.hid (by first | exact H1.out.call b2 | (have h := H1.out.call b2; simp at h; exact h)); have R2 : Hid (IsRow w2 (w.heap.size + 2) 30 #[.int .u8 0, .int .u8 0, .int .u8 0, .int .u8 0, .int .i64 0]) := Lib.hid (by first | exact R1.out.call b2 | (have h := R1.out.call b2; simp at h; exact h)); clear Xc0 Xf0 Xc1 Xf1 Xc2 Xf2 Xc3 Xf3 Xc4 Xf4 Xlt Rc0 Rf0 Rc1 Rf1 Rc2 Rf2 Rc3 Rf3 Rc4 Rf4 Rlt; have Xc0 : w2.cell? ⟨w.heap.size, 0, none⟩ = some (.int .u8 a) := X2.out.cell 0; have Xf0 : w2.frozen? ⟨w.heap.size, 0, none⟩ = false := X2.out.free 0; have Xc1 : w2.cell? ⟨w.heap.size, 1, none⟩ = some (.int .u8 b) := X2.out.cell 1; have Xf1 : w2.frozen? ⟨w.heap.size, 1, none⟩ = false := X2.out.free 1; have Xc2 : w2.cell? ⟨w.heap.size, 2, none⟩ = some (.int .u8 c) := X2.out.cell 2; have Xf2 : w2.frozen? ⟨w.heap.size, 2, none⟩ = false := X2.out.free 2; have Xc3 : w2.cell? ⟨w.heap.size, 3, none⟩ = some (.int .u8 d) := X2.out.cell 3; have Xf3 : w2.frozen? ⟨w.heap.size, 3, none⟩ = false := X2.out.free 3; have Xc4 : w2.cell? ⟨w.heap.size, 4, none⟩ = some (.int .i64 p) := X2.out.cell 4; have Xf4 : w2.frozen? ⟨w.heap.size, 4, none⟩ = false := X2.out.free 4; have Xlt : w.heap.size < w2.heap.size := X2.out.lt; have Rc0 : w2.cell? ⟨w.heap.size + 2, 0, none⟩ = some (.int .u8 0) := R2.out.cell 0; have Rf0 : w2.frozen? ⟨w.heap.size + 2, 0, none⟩ = false := R2.out.free 0; have Rc1 : w2.cell? ⟨w.heap.size + 2, 1, none⟩ = some (.int .u8 0) := R2.out.cell 1; have Rf1 : w2.frozen? ⟨w.heap.size + 2, 1, none⟩ = false := R2.out.free 1; have Rc2 : w2.cell? ⟨w.heap.size + 2, 2, none⟩ = some (.int .u8 0) := R2.out.cell 2; have Rf2 : w2.frozen? ⟨w.heap.size + 2, 2, none⟩ = false := R2.out.free 2; have Rc3 : w2.cell? ⟨w.heap.size + 2, 3, none⟩ = some (.int .u8 0) := R2.out.cell 3; have Rf3 : w2.frozen? ⟨w.heap.size + 2, 3, none⟩ = false := R2.out.free 3; have Rc4 : w2.cell? ⟨w.heap.size + 2, 4, none⟩ = some (.int .i64 0) := R2.out.cell 4; have Rf4 : w2.frozen? ⟨w.heap.size + 2, 4, none⟩ = false := R2.out.free 4; have Rlt : w.heap.size + 2 < w2.heap.size := R2.out.lt; clear HN))
      obtain ⟨W9, hW⟩ : ∃ W9, (World.setCell (World.setCell (World.setCell (World.setCell (World.setCell w2 ⟨w.heap.size + 2, 0, none⟩ (.int .u8 a)) ⟨w.heap.size + 2, 1, none⟩ (.int .u8 b)) ⟨w.heap.size + 2, 2, none⟩ (.int .u8 c)) ⟨w.heap.size + 2, 3, none⟩ (.int .u8 d)) ⟨w.heap.size + 2, 4, none⟩ (.int .i64 p)) = W9 := ⟨_, rfl⟩
      have R9 : IsRow W9 (w.heap.size + 2) 30 #[.int .u8 a, .int .u8 b, .int .u8 c, .int .u8 d, .int .i64 p] := by
        rw [← hW]
        exact (((((R2.out.set 0 (.int .u8 a)).set 1 (.int .u8 b)).set 2 (.int .u8 c)).set 3 (.int .u8 d)).set 4 (.int .i64 p))
      have B9 : Below w.heap.size w W9 := by
        rw [← hW]
        exact ((((((((((B2.out).setCell (p := ⟨w.heap.size + 2, 0, none⟩) (by show w.heap.size ≤ w.heap.size + 2; (try have hs1 := B1.out.size); (try have hs2 := B2.out.size); omega) (.int .u8 a))).setCell (p := ⟨w.heap.size + 2, 1, none⟩) (by show w.heap.size ≤ w.heap.size + 2; (try have hs1 := B1.out.size); (try have hs2 := B2.out.size); omega) (.int .u8 b))).setCell (p := ⟨w.heap.size + 2, 2, none⟩) (by show w.heap.size ≤ w.heap.size + 2; (try have hs1 := B1.out.size); (try have hs2 := B2.out.size); omega) (.int .u8 c))).setCell (p := ⟨w.heap.size + 2, 3, none⟩) (by show w.heap.size ≤ w.heap.size + 2; (try have hs1 := B1.out.size); (try have hs2 := B2.out.size); omega) (.int .u8 d))).setCell (p := ⟨w.heap.size + 2, 4, none⟩) (by show w.heap.size ≤ w.heap.size + 2; (try have hs1 := B1.out.size); (try have hs2 := B2.out.size); omega) (.int .i64 p))
      rw [hW]
      clear Xc0 Xf0 Xc1 Xf1 Xc2 Xf2 Xc3 Xf3 Xc4 Xf4 Xlt Rc0 Rf0 Rc1 Rf1 Rc2 Rf2 Rc3 Rf3 Rc4 Rf4 Rlt
      have y0 : W9.cell? ⟨w.heap.size + 2, 0, none⟩ = some (.int .u8 a) := R9.cell 0
      have y1 : W9.cell? ⟨w.heap.size + 2, 1, none⟩ = some (.int .u8 b) := R9.cell 1
      have y2 : W9.cell? ⟨w.heap.size + 2, 2, none⟩ = some (.int .u8 c) := R9.cell 2
      have y3 : W9.cell? ⟨w.heap.size + 2, 3, none⟩ = some (.int .u8 d) := R9.cell 3
      have y4 : W9.cell? ⟨w.heap.size + 2, 4, none⟩ = some (.int .i64 p) := R9.cell 4
      refine bodyPost_ret (v := .tuple #[.agg #[.int .u8 a, .int .u8 b, .int .u8 c, .int .u8 d, .int .i64 p], .int .i64 0]) (by simp [results, Tryz.results21, go_sem, y0, y1, y2, y3, y4]; done) rfl ?_
      exact ⟨by first | rfl | (simp; done), B9⟩
    | false =>
      have e : ownN x 0 h0 h1 h2 h3 = (En.z, 6) := by unfold ownN ownE; rw [if_pos rfl, hc]; rfl
      rw [e] at h
      injection h with i1 i2
      subst i1; subst i2
      have HC := Lib.hid (fun W => check_no x h0 h1 h2 h3 hc W)
      have HN := Lib.hid (fun q W => number_deny q aV aF aK aD W)
      have hv : errV aV aF aK aD q0 0 = .nilIface := rfl
      rw [hv]
      clear e hc hno hv
      obtain ⟨a, b, c, d, p⟩ := x
      have R := Lib.hid R0
      clear R0
      go_enter Tryz.func21, Tryz.ntmps21
      go_wp2_with (first
        | (go_at_call 45; refine (HC.out _ (E.below (((((((Below.refl w.heap.size w)).alloc (Below.refl w.heap.size w).size (.cells #[.int .u8 a, .int .u8 b, .int .u8 c, .int .u8 d, .int .i64 p] 30))).alloc (by have := (Below.refl w.heap.size w).size; simp <;> omega) (.cells #[.int .u8 h0, .int .u8 h1, .int .u8 h2, .int .u8 h3] 28))).alloc (by have := (Below.refl w.heap.size w).size; simp <;> omega) (.cells #[.int .u8 0, .int .u8 0, .int .u8 0, .int .u8 0, .int .i64 0] 30))) aV aF aK aD (R.out.below (((((((Below.refl w.heap.size w)).alloc (Below.refl w.heap.size w).size (.cells #[.int .u8 a, .int .u8 b, .int .u8 c, .int .u8 d, .int .i64 p] 30))).alloc (by have := (Below.refl w.heap.size w).size; simp <;> omega) (.cells #[.int .u8 h0, .int .u8 h1, .int .u8 h2, .int .u8 h3] 28))).alloc (by have := (Below.refl w.heap.size w).size; simp <;> omega) (.cells #[.int .u8 0, .int .u8 0, .int .u8 0, .int .u8 0, .int .i64 0] 30)))).mono ?_; rintro e w1 ⟨⟨q, rfl⟩, b1⟩; have B1 := Lib.hid (((((((((Below.refl w.heap.size w)).alloc (Below.refl w.heap.size w).size (.cells #[.int .u8 a, .int .u8 b, .int .u8 c, .int .u8 d, .int .i64 p] 30))).alloc (by have := (Below.refl w.heap.size w).size; simp <;> omega) (.cells #[.int .u8 h0, .int .u8 h1, .int .u8 h2, .int .u8 h3] 28))).alloc (by have := (Below.refl w.heap.size w).size; simp <;> omega) (.cells #[.int .u8 0, .int .u8 0, .int .u8 0, .int .u8 0, .int .i64 0] 30))).trans (b1.mono (by have := (((((((Below.refl w.heap.size w)).alloc (Below.refl w.heap.size w).size (.cells #[.int .u8 a, .int .u8 b, .int .u8 c, .int .u8 d, .int .i64 p] 30))).alloc (by have := (Below.refl w.heap.size w).size; simp <;> omega) (.cells #[.int .u8 h0, .int .u8 h1, .int .u8 h2, .int .u8 h3] 28))).alloc (by have := (Below.refl w.heap.size w).size; simp <;> omega) (.cells #[.int .u8 0, .int .u8 0, .int .u8 0, .int .u8 0, .int .i64 0] 30)).size; first | exact this | (simp <;> omega)))); have X1 : Hid (IsRow w1 (w.heap.size) 30 #[.int .u8 a, .int .u8 b, .int .u8 c, .int .u8 d, .int .i64 p]) := Lib.hid (by first | exact (((IsRow.made w 30 #[.int .u8 a, .int .u8 b, .int .u8 c, .int .u8 d, .int .i64 p]).alloc (.cells #[.int .u8 h0, .int .u8 h1, .int .u8 h2, .int .u8 h3] 28)).alloc (.cells #[.int .u8 0, .int .u8 0, .int .u8 0, .int .u8 0, .int .i64 0] 30)).call b1 | (have h := (((IsRow.made w 30 #[.int .u8 a, .int .u8 b, .int .u8 c, .int .u8 d, .int .i64 p]).alloc (.cells #[.int .u8 h0, .int .u8 h1, .int .u8 h2, .int .u8 h3] 28)).alloc (.cells #[.int .u8 0, .int .u8 0, .int .u8 0, .int .u8 0, .int .i64 0] 30)).call b1; simp at h; exact h)); have H1 : Hid (IsRow w1 (w.heap.size + 1) 28 #[.int .u8 h0, .int .u8 h1, .int .u8 h2, .int .u8 h3]) := Lib.hid (by first | exact ((IsRow.made (w.alloc (.cells #[.int .u8 a, .int .u8 b, .int .u8 c, .int .u8 d, .int .i64 p] 30)) 28 #[.int .u8 h0, .int .u8 h1, .int .u8 h2, .int .u8 h3]).alloc (.cells #[.int .u8 0, .int .u8 0, .int .u8 0, .int .u8 0, .int .i64 0] 30)).call b1 | (have h := ((IsRow.made (w.alloc (.cells #[.int .u8 a, .int .u8 b, .int .u8 c, .int .u8 d, .int .i64 p] 30)) 28 #[.int .u8 h0, .int .u8 h1, .int .u8 h2, .int .u8 h3]).alloc (.cells #[.int .u8 0, .int .u8 0, .int .u8 0, .int .u8 0, .int .i64 0] 30)).call b1; simp at h; exact h)); have R1 : Hid (IsRow w1 (w.heap.size + 2) 30 #[.int .u8 0, .int .u8 0, .int .u8 0, .int .u8 0, .int .i64 0]) := Lib.hid (by first | exact (IsRow.made ((w.alloc (.cells #[.int .u8 a, .int .u8 b, .int .u8 c, .int .u8 d, .int .i64 p] 30)).alloc (.cells #[.int .u8 h0, .int .u8 h1, .int .u8 h2, .int .u8 h3] 28)) 30 #[.int .u8 0, .int .u8 0, .int .u8 0, .int .u8 0, .int .i64 0]).call b1 | (have h := (IsRow.made ((w.alloc (.cells #[.int .u8 a, .int .u8 b, .int .u8 c, .int .u8 d, .int .i64 p] 30)).alloc (.cells #[.int .u8 h0, .int .u8 h1, .int .u8 h2, .int .u8 h3] 28)) 30 #[.int .u8 0, .int .u8 0, .int .u8 0, .int .u8 0, .int .i64 0]).call b1; simp at h; exact h)); have Xc0 : w1.cell? ⟨w.heap.size, 0, none⟩ = some (.int .u8 a) := X1.out.cell 0; have Xf0 : w1.frozen? ⟨w.heap.size, 0, none⟩ = false := X1.out.free 0; have Xc1 : w1.cell? ⟨w.heap.size, 1, none⟩ = some (.int .u8 b) := X1.out.cell 1; have Xf1 : w1.frozen? ⟨w.heap.size, 1, none⟩ = false := X1.out.free 1; have Xc2 : w1.cell? ⟨w.heap.size, 2, none⟩ = some (.int .u8 c) := X1.out.cell 2; have Xf2 : w1.frozen? ⟨w.heap.size, 2, none⟩ = false := X1.out.free 2; have Xc3 : w1.cell? ⟨w.heap.size, 3, none⟩ = some (.int .u8 d) := X1.out.cell 3; have Xf3 : w1.frozen? ⟨w.heap.size, 3, none⟩ = false := X1.out.free 3; have Xc4 : w1.cell? ⟨w.heap.size, 4, none⟩ = some (.int .i64 p) := X1.out.cell 4; have Xf4 : w1.frozen? ⟨w.heap.size, 4, none⟩ = false := X1.out.free 4; have Xlt : w.heap.size < w1.heap.size := X1.out.lt; have Rc0 : w1.cell? ⟨w.heap.size + 2, 0, none⟩ = some (.int .u8 0) := R1.out.cell 0; have Rf0 : w1.frozen? ⟨w.heap.size + 2, 0, none⟩ = false := R1.out.free 0; have Rc1 : w1.cell? ⟨w.heap.size + 2, 1, none⟩ = some (.int .u8 0) := R1.out.cell 1; have Rf1 : w1.frozen? ⟨w.heap.size + 2, 1, none⟩ = false := R1.out.free 1; have Rc2 : w1.cell? ⟨w.heap.size + 2, 2, none⟩ = some (.int .u8 0) := R1.out.cell 2; have Rf2 : w1.frozen? ⟨w.heap.size + 2, 2, none⟩ = false := R1.out.free 2; have Rc3 : w1.cell? ⟨w.heap.size + 2, 3, none⟩ = some (.int .u8 0) := R1.out.cell 3; have Rf3 : w1.frozen? ⟨w.heap.size + 2, 3, none⟩ = false := R1.out.free 3; have Rc4 : w1.cell? ⟨w.heap.size + 2, 4, none⟩ = some (.int .i64 0) := R1.out.cell 4; have Rf4 : w1.frozen? ⟨w.heap.size + 2, 4, none⟩ = false := R1.out.free 4; have Rlt : w.heap.size + 2 < w1.heap.size := R1.out.lt; clear HC)
        | (go_at_call 46; refine (HN.out q _ (R.out.below B1.out)).mono ?_; rintro e w2 ⟨rfl, b2⟩; have B2 := Lib.hid ((B1.out).trans (b2.mono (by have := B1.out.size; first | exact this | (simp <;> omega)))); have X2 : Hid (IsRow w2 (w.heap.size) 30 #[.int .u8 a, .int .u8 b, .int .u8 c, .int .u8 d, .int .i64 p]) := Lib.hid (by first | exact X1.out.call b2 | (have h := X1.out.call b2; simp at h; exact h)); have H2 : Hid (IsRow w2 (w.heap.size + 1) 28 #[.int .u8 h0, .int .u8 h1, .int .u8 h2, .int .u8 h3]) := Lib.hid (by first | exact H1.out.call b2 | (have h := H1.out.call b2; simp at h; exact h)); have R2 : Hid (IsRow w2 (w.heap.size + 2) 30 #[.int .u8 0, .int .u8 0, .int .u8 0, .int .u8 0, .int .i64 0]) := Lib.hid (by first | exact R1.out.call b2 | (have h := R1.out.call b2; simp at h; exact h)); clear Xc0 Xf0 Xc1 Xf1 Xc2 Xf2 Xc3 Xf3 Xc4 Xf4 Xlt Rc0 Rf0 Rc1 Rf1 Rc2 Rf2 Rc3 Rf3 Rc4 Rf4 Rlt; have Xc0 : w2.cell? ⟨w.heap.size, 0, none⟩ = some (.int .u8 a) := X2.out.cell 0; have Xf0 : w2.frozen? ⟨w.heap.size, 0, none⟩ = false := X2.out.free 0; have Xc1 : w2.cell? ⟨w.heap.size, 1, none⟩ = some (.int .u8 b) := X2.out.cell 1; have Xf1 : w2.frozen? ⟨w.heap.size, 1, none⟩ = false := X2.out.free 1; have Xc2 : w2.cell? ⟨w.heap.size, 2, none⟩ = some (.int .u8 c) := X2.out.cell 2; have Xf2 : w2.frozen? ⟨w.heap.size, 2, none⟩ = false := X2.out.free 2; have Xc3 : w2.cell? ⟨w.heap.size, 3, none⟩ = some (.int .u8 d) := X2.out.cell 3; have Xf3 : w2.frozen? ⟨w.heap.size, 3, none⟩ = false := X2.out.free 3; have Xc4 : w2.cell? ⟨w.heap.size, 4, none⟩ = some (.int .i64 p) := X2.out.cell 4; have Xf4 : w2.frozen? ⟨w.heap.size, 4, none⟩ = false := X2.out.free 4; have Xlt : w.heap.size < w2.heap.size := X2.out.lt; have Rc0 : w2.cell? ⟨w.heap.size + 2, 0, none⟩ = some (.int .u8 0) := R2.out.cell 0; have Rf0 : w2.frozen? ⟨w.heap.size + 2, 0, none⟩ = false := R2.out.free 0; have Rc1 : w2.cell? ⟨w.heap.size + 2, 1, none⟩ = some (.int .u8 0) := R2.out.cell 1; have Rf1 : w2.frozen? ⟨w.heap.size + 2, 1, none⟩ = false := R2.out.free 1; have Rc2 : w2.cell? ⟨w.heap.size + 2, 2, none⟩ = some (.int .u8 0) := R2.out.cell 2; have Rf2 : w2.frozen? ⟨w.heap.size + 2, 2, none⟩ = false := R2.out.free 2; have Rc3 : w2.cell? ⟨w.heap.size + 2, 3, none⟩ = some (.int .u8 0) := R2.out.cell 3; have Rf3 : w2.frozen? ⟨w.heap.size + 2, 3, none⟩ = false := R2.out.free 3; have Rc4 : w2.cell? ⟨w.heap.size + 2, 4, none⟩ = some (.int .i64 0) := R2.out.cell 4; have Rf4 : w2.frozen? ⟨w.heap.size + 2, 4, none⟩ = false := R2.out.free 4; have Rlt : w.heap.size + 2 < w2.heap.size := R2.out.lt; clear HN))
      obtain ⟨W9, hW⟩ : ∃ W9, (World.setCell (World.setCell (World.setCell (World.setCell (World.setCell w2 ⟨w.heap.size + 2, 0, none⟩ (.int .u8 0)) ⟨w.heap.size + 2, 1, none⟩ (.int .u8 0)) ⟨w.heap.size + 2, 2, none⟩ (.int .u8 0)) ⟨w.heap.size + 2, 3, none⟩ (.int .u8 0)) ⟨w.heap.size + 2, 4, none⟩ (.int .i64 0)) = W9 := ⟨_, rfl⟩
      have R9 : IsRow W9 (w.heap.size + 2) 30 #[.int .u8 0, .int .u8 0, .int .u8 0, .int .u8 0, .int .i64 0] := by
        rw [← hW]
        exact (((((R2.out.set 0 (.int .u8 0)).set 1 (.int .u8 0)).set 2 (.int .u8 0)).set 3 (.int .u8 0)).set 4 (.int .i64 0))
      have B9 : Below w.heap.size w W9 := by
        rw [← hW]
        exact ((((((((((B2.out).setCell (p := ⟨w.heap.size + 2, 0, none⟩) (by show w.heap.size ≤ w.heap.size + 2; (try have hs1 := B1.out.size); (try have hs2 := B2.out.size); omega) (.int .u8 0))).setCell (p := ⟨w.heap.size + 2, 1, none⟩) (by show w.heap.size ≤ w.heap.size + 2; (try have hs1 := B1.out.size); (try have hs2 := B2.out.size); omega) (.int .u8 0))).setCell (p := ⟨w.heap.size + 2, 2, none⟩) (by show w.heap.size ≤ w.heap.size + 2; (try have hs1 := B1.out.size); (try have hs2 := B2.out.size); omega) (.int .u8 0))).setCell (p := ⟨w.heap.size + 2, 3, none⟩) (by show w.heap.size ≤ w.heap.size + 2; (try have hs1 := B1.out.size); (try have hs2 := B2.out.size); omega) (.int .u8 0))).setCell (p := ⟨w.heap.size + 2, 4, none⟩) (by show w.heap.size ≤ w.heap.size + 2; (try have hs1 := B1.out.size); (try have hs2 := B2.out.size); omega) (.int .i64 0))
      rw [hW]
      clear Xc0 Xf0 Xc1 Xf1 Xc2 Xf2 Xc3 Xf3 Xc4 Xf4 Xlt Rc0 Rf0 Rc1 Rf1 Rc2 Rf2 Rc3 Rf3 Rc4 Rf4 Rlt
      have y0 : W9.cell? ⟨w.heap.size + 2, 0, none⟩ = some (.int .u8 0) := R9.cell 0
      have y1 : W9.cell? ⟨w.heap.size + 2, 1, none⟩ = some (.int .u8 0) := R9.cell 1
      have y2 : W9.cell? ⟨w.heap.size + 2, 2, none⟩ = some (.int .u8 0) := R9.cell 2
      have y3 : W9.cell? ⟨w.heap.size + 2, 3, none⟩ = some (.int .u8 0) := R9.cell 3
      have y4 : W9.cell? ⟨w.heap.size + 2, 4, none⟩ = some (.int .i64 0) := R9.cell 4
      refine bodyPost_ret (v := .tuple #[.agg #[.int .u8 0, .int .u8 0, .int .u8 0, .int .u8 0, .int .i64 0], .int .i64 6]) (by simp [results, Tryz.results21, go_sem, y0, y1, y2, y3, y4]; done) rfl ?_
      exact ⟨by first | rfl | (simp; done), B9⟩
  · have e : ownN x no h0 h1 h2 h3 = (En.z, no) := by unfold ownN; exact if_neg h00
    rw [e] at h
    injection h with i1 i2
    subst i1; subst i2
    have HN := Lib.hid (fun W => number_any q0 no hno W aV aF aK aD)
    have hz : (no != 0) = true := bne_iff_ne.2 h00
    obtain ⟨q2, hv⟩ : ∃ q2, errV aV aF aK aD q0 no = faultV q0 q2 := by unfold errV; rw [if_neg h00]; exact ⟨_, rfl⟩
    rw [hv] at HN ⊢
    clear e hno hv h00
    obtain ⟨a, b, c, d, p⟩ := x
    have R := Lib.hid R0
    clear R0
    go_enter Tryz.func21, Tryz.ntmps21
    go_wp2_with (go_at_call 46; refine (HN.out _ (R.out.below (((((((Below.refl w.heap.size w)).alloc (Below.refl w.heap.size w).size (.cells #[.int .u8 a, .int .u8 b, .int .u8 c, .int .u8 d, .int .i64 p] 30))).alloc (by have := (Below.refl w.heap.size w).size; simp <;> omega) (.cells #[.int .u8 h0, .int .u8 h1, .int .u8 h2, .int .u8 h3] 28))).alloc (by have := (Below.refl w.heap.size w).size; simp <;> omega) (.cells #[.int .u8 0, .int .u8 0, .int .u8 0, .int .u8 0, .int .i64 0] 30)))).mono ?_; rintro e w1 ⟨rfl, b1⟩; have B1 := Lib.hid (((((((((Below.refl w.heap.size w)).alloc (Below.refl w.heap.size w).size (.cells #[.int .u8 a, .int .u8 b, .int .u8 c, .int .u8 d, .int .i64 p] 30))).alloc (by have := (Below.refl w.heap.size w).size; simp <;> omega) (.cells #[.int .u8 h0, .int .u8 h1, .int .u8 h2, .int .u8 h3] 28))).alloc (by have := (Below.refl w.heap.size w).size; simp <;> omega) (.cells #[.int .u8 0, .int .u8 0, .int .u8 0, .int .u8 0, .int .i64 0] 30))).trans (b1.mono (by have := (((((((Below.refl w.heap.size w)).alloc (Below.refl w.heap.size w).size (.cells #[.int .u8 a, .int .u8 b, .int .u8 c, .int .u8 d, .int .i64 p] 30))).alloc (by have := (Below.refl w.heap.size w).size; simp <;> omega) (.cells #[.int .u8 h0, .int .u8 h1, .int .u8 h2, .int .u8 h3] 28))).alloc (by have := (Below.refl w.heap.size w).size; simp <;> omega) (.cells #[.int .u8 0, .int .u8 0, .int .u8 0, .int .u8 0, .int .i64 0] 30)).size; first | exact this | (simp <;> omega)))); have X1 : Hid (IsRow w1 (w.heap.size) 30 #[.int .u8 a, .int .u8 b, .int .u8 c, .int .u8 d, .int .i64 p]) := Lib.hid (by first | exact (((IsRow.made w 30 #[.int .u8 a, .int .u8 b, .int .u8 c, .int .u8 d, .int .i64 p]).alloc (.cells #[.int .u8 h0, .int .u8 h1, .int .u8 h2, .int .u8 h3] 28)).alloc (.cells #[.int .u8 0, .int .u8 0, .int .u8 0, .int .u8 0, .int .i64 0] 30)).call b1 | (have h := (((IsRow.made w 30 #[.int .u8 a, .int .u8 b, .int .u8 c, .int .u8 d, .int .i64 p]).alloc (.cells #[.int .u8 h0, .int .u8 h1, .int .u8 h2, .int .u8 h3] 28)).alloc (.cells #[.int .u8 0, .int .u8 0, .int .u8 0, .int .u8 0, .int .i64 0] 30)).call b1; simp at h; exact h)); have H1 : Hid (IsRow w1 (w.heap.size + 1) 28 #[.int .u8 h0, .int .u8 h1, .int .u8 h2, .int .u8 h3]) := Lib.hid (by first | exact ((IsRow.made (w.alloc (.cells #[.int .u8 a, .int .u8 b, .int .u8 c, .int .u8 d, .int .i64 p] 30)) 28 #[.int .u8 h0, .int .u8 h1, .int .u8 h2, .int .u8 h3]).alloc (.cells #[.int .u8 0, .int .u8 0, .int .u8 0, .int .u8 0, .int .i64 0] 30)).call b1 | (have h := ((IsRow.made (w.alloc (.cells #[.int .u8 a, .int .u8 b, .int .u8 c, .int .u8 d, .int .i64 p] 30)) 28 #[.int .u8 h0, .int .u8 h1, .int .u8 h2, .int .u8 h3]).alloc (.cells #[.int .u8 0, .int .u8 0, .int .u8 0, .int .u8 0, .int .i64 0] 30)).call b1; simp at h; exact h)); have R1 : Hid (IsRow w1 (w.heap.size + 2) 30 #[.int .u8 0, .int .u8 0, .int .u8 0, .int .u8 0, .int .i64 0]) := Lib.hid (by first | exact (IsRow.made ((w.alloc (.cells #[.int .u8 a, .int .u8 b, .int .u8 c, .int .u8 d, .int .i64 p] 30)).alloc (.cells #[.int .u8 h0, .int .u8 h1, .int .u8 h2, .int .u8 h3] 28)) 30 #[.int .u8 0, .int .u8 0, .int .u8 0, .int .u8 0, .int .i64 0]).call b1 | (have h := (IsRow.made ((w.alloc (.cells #[.int .u8 a, .int .u8 b, .int .u8 c, .int .u8 d, .int .i64 p] 30)).alloc (.cells #[.int .u8 h0, .int .u8 h1, .int .u8 h2, .int .u8 h3] 28)) 30 #[.int .u8 0, .int .u8 0, .int .u8 0, .int .u8 0, .int .i64 0]).call b1; simp at h; exact h)); have Xc0 : w1.cell? ⟨w.heap.size, 0, none⟩ = some (.int .u8 a) := X1.out.cell 0; have Xf0 : w1.frozen? ⟨w.heap.size, 0, none⟩ = false := X1.out.free 0; have Xc1 : w1.cell? ⟨w.heap.size, 1, none⟩ = some (.int .u8 b) := X1.out.cell 1; have Xf1 : w1.frozen? ⟨w.heap.size, 1, none⟩ = false := X1.out.free 1; have Xc2 : w1.cell? ⟨w.heap.size, 2, none⟩ = some (.int .u8 c) := X1.out.cell 2; have Xf2 : w1.frozen? ⟨w.heap.size, 2, none⟩ = false := X1.out.free 2; have Xc3 : w1.cell? ⟨w.heap.size, 3, none⟩ = some (.int .u8 d) := X1.out.cell 3; have Xf3 : w1.frozen? ⟨w.heap.size, 3, none⟩ = false := X1.out.free 3; have Xc4 : w1.cell? ⟨w.heap.size, 4, none⟩ = some (.int .i64 p) := X1.out.cell 4; have Xf4 : w1.frozen? ⟨w.heap.size, 4, none⟩ = false := X1.out.free 4; have Xlt : w.heap.size < w1.heap.size := X1.out.lt; have Rc0 : w1.cell? ⟨w.heap.size + 2, 0, none⟩ = some (.int .u8 0) := R1.out.cell 0; have Rf0 : w1.frozen? ⟨w.heap.size + 2, 0, none⟩ = false := R1.out.free 0; have Rc1 : w1.cell? ⟨w.heap.size + 2, 1, none⟩ = some (.int .u8 0) := R1.out.cell 1; have Rf1 : w1.frozen? ⟨w.heap.size + 2, 1, none⟩ = false := R1.out.free 1; have Rc2 : w1.cell? ⟨w.heap.size + 2, 2, none⟩ = some (.int .u8 0) := R1.out.cell 2; have Rf2 : w1.frozen? ⟨w.heap.size + 2, 2, none⟩ = false := R1.out.free 2; have Rc3 : w1.cell? ⟨w.heap.size + 2, 3, none⟩ = some (.int .u8 0) := R1.out.cell 3; have Rf3 : w1.frozen? ⟨w.heap.size + 2, 3, none⟩ = false := R1.out.free 3; have Rc4 : w1.cell? ⟨w.heap.size + 2, 4, none⟩ = some (.int .i64 0) := R1.out.cell 4; have Rf4 : w1.frozen? ⟨w.heap.size + 2, 4, none⟩ = false := R1.out.free 4; have Rlt : w.heap.size + 2 < w1.heap.size := R1.out.lt; clear HN)
    obtain ⟨W9, hW⟩ : ∃ W9, (World.setCell (World.setCell (World.setCell (World.setCell (World.setCell w1 ⟨w.heap.size + 2, 0, none⟩ (.int .u8 0)) ⟨w.heap.size + 2, 1, none⟩ (.int .u8 0)) ⟨w.heap.size + 2, 2, none⟩ (.int .u8 0)) ⟨w.heap.size + 2, 3, none⟩ (.int .u8 0)) ⟨w.heap.size + 2, 4, none⟩ (.int .i64 0)) = W9 := ⟨_, rfl⟩
    have R9 : IsRow W9 (w.heap.size + 2) 30 #[.int .u8 0, .int .u8 0, .int .u8 0, .int .u8 0, .int .i64 0] := by
      rw [← hW]
      exact (((((R1.out.set 0 (.int .u8 0)).set 1 (.int .u8 0)).set 2 (.int .u8 0)).set 3 (.int .u8 0)).set 4 (.int .i64 0))
    have B9 : Below w.heap.size w W9 := by
      rw [← hW]
      exact ((((((((((B1.out).setCell (p := ⟨w.heap.size + 2, 0, none⟩) (by show w.heap.size ≤ w.heap.size + 2; (try have hs1 := B1.out.size); omega) (.int .u8 0))).setCell (p := ⟨w.heap.size + 2, 1, none⟩) (by show w.heap.size ≤ w.heap.size + 2; (try have hs1 := B1.out.size); omega) (.int .u8 0))).setCell (p := ⟨w.heap.size + 2, 2, none⟩) (by show w.heap.size ≤ w.heap.size + 2; (try have hs1 := B1.out.size); omega) (.int .u8 0))).setCell (p := ⟨w.heap.size + 2, 3, none⟩) (by show w.heap.size ≤ w.heap.size + 2; (try have hs1 := B1.out.size); omega) (.int .u8 0))).setCell (p := ⟨w.heap.size + 2, 4, none⟩) (by show w.heap.size ≤ w.heap.size + 2; (try have hs1 := B1.out.size); omega) (.int .i64 0))
    rw [hW]
    clear Xc0 Xf0 Xc1 Xf1 Xc2 Xf2 Xc3 Xf3 Xc4 Xf4 Xlt Rc0 Rf0 Rc1 Rf1 Rc2 Rf2 Rc3 Rf3 Rc4 Rf4 Rlt
    have y0 : W9.cell? ⟨w.heap.size + 2, 0, none⟩ = some (.int .u8 0) := R9.cell 0
    have y1 : W9.cell? ⟨w.heap.size + 2, 1, none⟩ = some (.int .u8 0) := R9.cell 1
    have y2 : W9.cell? ⟨w.heap.size + 2, 2, none⟩ = some (.int .u8 0) := R9.cell 2
    have y3 : W9.cell? ⟨w.heap.size + 2, 3, none⟩ = some (.int .u8 0) := R9.cell 3
    have y4 : W9.cell? ⟨w.heap.size + 2, 4, none⟩ = some (.int .i64 0) := R9.cell 4
    refine bodyPost_ret (v := .tuple #[.agg #[.int .u8 0, .int .u8 0, .int .u8 0, .int .u8 0, .int .i64 0], .int .i64 no]) (by simp [results, Tryz.results21, go_sem, y0, y1, y2, y3, y4]; done) rfl ?_
    exact ⟨by first | rfl | (simp; done), B9⟩

set_option maxHeartbeats 4000000 in
theorem ext_of (s : List UInt8) (hs : s.length ≤ 1000000) (x : En) (k : Int) (h : readC eprtV s = (x, k)) (w : World) (E : Env w) (aV aF aK aD : Addr) (R0 : TErrs aV aF aK aD w) : Calls Tryz.prog 44 #[str s] w fun e w' => (∃ q, e = .returned (.tuple #[enV x, errV aV aF aK aD q k])) ∧ Below w.heap.size w w' := by
  have HX := Lib.hid (fun W (EW : Env W) => Ext.read_any s hs W EW)
  unfold Ext.readX at HX
  rcases Ext.extC_mem s with hc | hc | hc
  · obtain ⟨a, b, c, d, p, ha, hb, hd, he, hp⟩ : ∃ a b c d p, extH s 0 = a ∧ extH s 1 = b ∧ extH s 2 = c ∧ extH s 3 = d ∧ extP s = p := ⟨_, _, _, _, _, rfl, rfl, rfl, rfl, rfl⟩
    have e : readC eprtV s = (⟨a, b, c, d, p⟩, 0) := by unfold readC extE; rw [if_neg (by decide), if_pos rfl, if_pos hc, ha, hb, hd, he, hp]
    rw [e] at h
    injection h with i1 i2
    subst i1; subst i2
    rw [ha, hb, hd, he, hp, hc] at HX
    have HF := Lib.hid (fun W => found_yes ⟨a, b, c, d, p⟩ W)
    clear e ha hb hd he hp hc
    have R := Lib.hid R0
    clear R0
    go_enter Tryz.func44, Tryz.ntmps44
    go_wp2_with (first
      | (go_at_call 69; refine (HX.out _ (E.below (((Below.refl w.heap.size w)).alloc (Below.refl w.heap.size w).size (.cells #[.int .u8 0, .int .u8 0, .int .u8 0, .int .u8 0, .int .i64 0] 30)))).mono ?_; rintro e w1 ⟨rfl, b1⟩; have B1 := Lib.hid (((((Below.refl w.heap.size w)).alloc (Below.refl w.heap.size w).size (.cells #[.int .u8 0, .int .u8 0, .int .u8 0, .int .u8 0, .int .i64 0] 30))).trans (b1.mono (by have := (((Below.refl w.heap.size w)).alloc (Below.refl w.heap.size w).size (.cells #[.int .u8 0, .int .u8 0, .int .u8 0, .int .u8 0, .int .i64 0] 30)).size; first | exact this | (simp <;> omega)))); have R1 : Hid (IsRow w1 (w.heap.size) 30 #[.int .u8 0, .int .u8 0, .int .u8 0, .int .u8 0, .int .i64 0]) := Lib.hid (by first | exact (IsRow.made w 30 #[.int .u8 0, .int .u8 0, .int .u8 0, .int .u8 0, .int .i64 0]).call b1 | (have h := (IsRow.made w 30 #[.int .u8 0, .int .u8 0, .int .u8 0, .int .u8 0, .int .i64 0]).call b1; simp at h; exact h)); have Rc0 : w1.cell? ⟨w.heap.size, 0, none⟩ = some (.int .u8 0) := R1.out.cell 0; have Rf0 : w1.frozen? ⟨w.heap.size, 0, none⟩ = false := R1.out.free 0; have Rc1 : w1.cell? ⟨w.heap.size, 1, none⟩ = some (.int .u8 0) := R1.out.cell 1; have Rf1 : w1.frozen? ⟨w.heap.size, 1, none⟩ = false := R1.out.free 1; have Rc2 : w1.cell? ⟨w.heap.size, 2, none⟩ = some (.int .u8 0) := R1.out.cell 2; have Rf2 : w1.frozen? ⟨w.heap.size, 2, none⟩ = false := R1.out.free 2; have Rc3 : w1.cell? ⟨w.heap.size, 3, none⟩ = some (.int .u8 0) := R1.out.cell 3; have Rf3 : w1.frozen? ⟨w.heap.size, 3, none⟩ = false := R1.out.free 3; have Rc4 : w1.cell? ⟨w.heap.size, 4, none⟩ = some (.int .i64 0) := R1.out.cell 4; have Rf4 : w1.frozen? ⟨w.heap.size, 4, none⟩ = false := R1.out.free 4; have Rlt : w.heap.size < w1.heap.size := R1.out.lt; clear HX)
      | (go_at_call 42; refine (HF.out _).mono ?_; rintro e w2 ⟨rfl, b2⟩; have B2 := Lib.hid ((((B1.out).alloc B1.out.size (.cells #[.int .u8 a, .int .u8 b, .int .u8 c, .int .u8 d, .int .i64 p] 30))).trans (b2.mono (by have := ((B1.out).alloc B1.out.size (.cells #[.int .u8 a, .int .u8 b, .int .u8 c, .int .u8 d, .int .i64 p] 30)).size; first | exact this | (simp <;> omega)))); have R2 : Hid (IsRow w2 (w.heap.size) 30 #[.int .u8 0, .int .u8 0, .int .u8 0, .int .u8 0, .int .i64 0]) := Lib.hid (by first | exact (R1.out.alloc (.cells #[.int .u8 a, .int .u8 b, .int .u8 c, .int .u8 d, .int .i64 p] 30)).call b2 | (have h := (R1.out.alloc (.cells #[.int .u8 a, .int .u8 b, .int .u8 c, .int .u8 d, .int .i64 p] 30)).call b2; simp at h; exact h)); have X2 : Hid (IsRow w2 (w1.heap.size) 30 #[.int .u8 a, .int .u8 b, .int .u8 c, .int .u8 d, .int .i64 p]) := Lib.hid (by first | exact (IsRow.made w1 30 #[.int .u8 a, .int .u8 b, .int .u8 c, .int .u8 d, .int .i64 p]).call b2 | (have h := (IsRow.made w1 30 #[.int .u8 a, .int .u8 b, .int .u8 c, .int .u8 d, .int .i64 p]).call b2; simp at h; exact h)); clear Rc0 Rf0 Rc1 Rf1 Rc2 Rf2 Rc3 Rf3 Rc4 Rf4 Rlt; have Xc0 : w2.cell? ⟨w1.heap.size, 0, none⟩ = some (.int .u8 a) := X2.out.cell 0; have Xf0 : w2.frozen? ⟨w1.heap.size, 0, none⟩ = false := X2.out.free 0; have Xc1 : w2.cell? ⟨w1.heap.size, 1, none⟩ = some (.int .u8 b) := X2.out.cell 1; have Xf1 : w2.frozen? ⟨w1.heap.size, 1, none⟩ = false := X2.out.free 1; have Xc2 : w2.cell? ⟨w1.heap.size, 2, none⟩ = some (.int .u8 c) := X2.out.cell 2; have Xf2 : w2.frozen? ⟨w1.heap.size, 2, none⟩ = false := X2.out.free 2; have Xc3 : w2.cell? ⟨w1.heap.size, 3, none⟩ = some (.int .u8 d) := X2.out.cell 3; have Xf3 : w2.frozen? ⟨w1.heap.size, 3, none⟩ = false := X2.out.free 3; have Xc4 : w2.cell? ⟨w1.heap.size, 4, none⟩ = some (.int .i64 p) := X2.out.cell 4; have Xf4 : w2.frozen? ⟨w1.heap.size, 4, none⟩ = false := X2.out.free 4; have Xlt : w1.heap.size < w2.heap.size := X2.out.lt; have Rc0 : w2.cell? ⟨w.heap.size, 0, none⟩ = some (.int .u8 0) := R2.out.cell 0; have Rf0 : w2.frozen? ⟨w.heap.size, 0, none⟩ = false := R2.out.free 0; have Rc1 : w2.cell? ⟨w.heap.size, 1, none⟩ = some (.int .u8 0) := R2.out.cell 1; have Rf1 : w2.frozen? ⟨w.heap.size, 1, none⟩ = false := R2.out.free 1; have Rc2 : w2.cell? ⟨w.heap.size, 2, none⟩ = some (.int .u8 0) := R2.out.cell 2; have Rf2 : w2.frozen? ⟨w.heap.size, 2, none⟩ = false := R2.out.free 2; have Rc3 : w2.cell? ⟨w.heap.size, 3, none⟩ = some (.int .u8 0) := R2.out.cell 3; have Rf3 : w2.frozen? ⟨w.heap.size, 3, none⟩ = false := R2.out.free 3; have Rc4 : w2.cell? ⟨w.heap.size, 4, none⟩ = some (.int .i64 0) := R2.out.cell 4; have Rf4 : w2.frozen? ⟨w.heap.size, 4, none⟩ = false := R2.out.free 4; have Rlt : w.heap.size < w2.heap.size := R2.out.lt; clear HF))
    obtain ⟨W9, hW⟩ : ∃ W9, (World.setCell (World.setCell (World.setCell (World.setCell (World.setCell w2 ⟨w.heap.size, 0, none⟩ (.int .u8 a)) ⟨w.heap.size, 1, none⟩ (.int .u8 b)) ⟨w.heap.size, 2, none⟩ (.int .u8 c)) ⟨w.heap.size, 3, none⟩ (.int .u8 d)) ⟨w.heap.size, 4, none⟩ (.int .i64 p)) = W9 := ⟨_, rfl⟩
    have R9 : IsRow W9 (w.heap.size) 30 #[.int .u8 a, .int .u8 b, .int .u8 c, .int .u8 d, .int .i64 p] := by
      rw [← hW]
      exact (((((R2.out.set 0 (.int .u8 a)).set 1 (.int .u8 b)).set 2 (.int .u8 c)).set 3 (.int .u8 d)).set 4 (.int .i64 p))
    have B9 : Below w.heap.size w W9 := by
      rw [← hW]
      exact ((((((((((B2.out).setCell (p := ⟨w.heap.size, 0, none⟩) (by show w.heap.size ≤ w.heap.size; (try have hs1 := B1.out.size); (try have hs2 := B2.out.size); omega) (.int .u8 a))).setCell (p := ⟨w.heap.size, 1, none⟩) (by show w.heap.size ≤ w.heap.size; (try have hs1 := B1.out.size); (try have hs2 := B2.out.size); omega) (.int .u8 b))).setCell (p := ⟨w.heap.size, 2, none⟩) (by show w.heap.size ≤ w.heap.size; (try have hs1 := B1.out.size); (try have hs2 := B2.out.size); omega) (.int .u8 c))).setCell (p := ⟨w.heap.size, 3, none⟩) (by show w.heap.size ≤ w.heap.size; (try have hs1 := B1.out.size); (try have hs2 := B2.out.size); omega) (.int .u8 d))).setCell (p := ⟨w.heap.size, 4, none⟩) (by show w.heap.size ≤ w.heap.size; (try have hs1 := B1.out.size); (try have hs2 := B2.out.size); omega) (.int .i64 p))
    rw [hW]
    clear Xc0 Xf0 Xc1 Xf1 Xc2 Xf2 Xc3 Xf3 Xc4 Xf4 Xlt Rc0 Rf0 Rc1 Rf1 Rc2 Rf2 Rc3 Rf3 Rc4 Rf4 Rlt
    have y0 : W9.cell? ⟨w.heap.size, 0, none⟩ = some (.int .u8 a) := R9.cell 0
    have y1 : W9.cell? ⟨w.heap.size, 1, none⟩ = some (.int .u8 b) := R9.cell 1
    have y2 : W9.cell? ⟨w.heap.size, 2, none⟩ = some (.int .u8 c) := R9.cell 2
    have y3 : W9.cell? ⟨w.heap.size, 3, none⟩ = some (.int .u8 d) := R9.cell 3
    have y4 : W9.cell? ⟨w.heap.size, 4, none⟩ = some (.int .i64 p) := R9.cell 4
    refine bodyPost_ret (v := .tuple #[.agg #[.int .u8 a, .int .u8 b, .int .u8 c, .int .u8 d, .int .i64 p], .nilIface]) (by simp [results, Tryz.results44, go_sem, y0, y1, y2, y3, y4]; done) rfl ?_
    exact ⟨⟨⟨#[]⟩, rfl⟩, B9⟩
  · have e : readC eprtV s = (En.z, 2) := by unfold readC; rw [if_neg (by decide), if_pos rfl, if_neg (by rw [hc]; decide), hc]
    rw [e] at h
    injection h with i1 i2
    subst i1; subst i2
    rw [Ext.extH_no (by rw [hc]; decide), Ext.extH_no (by rw [hc]; decide), Ext.extH_no (by rw [hc]; decide), Ext.extH_no (by rw [hc]; decide), Ext.extP_no (by rw [hc]; decide), hc] at HX
    have HF := Lib.hid (fun W => found_no En.z W)
    clear e hc
    have R := Lib.hid R0
    clear R0
    go_enter Tryz.func44, Tryz.ntmps44
    go_wp2_with (first
      | (go_at_call 69; refine (HX.out _ (E.below (((Below.refl w.heap.size w)).alloc (Below.refl w.heap.size w).size (.cells #[.int .u8 0, .int .u8 0, .int .u8 0, .int .u8 0, .int .i64 0] 30)))).mono ?_; rintro e w1 ⟨rfl, b1⟩; have B1 := Lib.hid (((((Below.refl w.heap.size w)).alloc (Below.refl w.heap.size w).size (.cells #[.int .u8 0, .int .u8 0, .int .u8 0, .int .u8 0, .int .i64 0] 30))).trans (b1.mono (by have := (((Below.refl w.heap.size w)).alloc (Below.refl w.heap.size w).size (.cells #[.int .u8 0, .int .u8 0, .int .u8 0, .int .u8 0, .int .i64 0] 30)).size; first | exact this | (simp <;> omega)))); have R1 : Hid (IsRow w1 (w.heap.size) 30 #[.int .u8 0, .int .u8 0, .int .u8 0, .int .u8 0, .int .i64 0]) := Lib.hid (by first | exact (IsRow.made w 30 #[.int .u8 0, .int .u8 0, .int .u8 0, .int .u8 0, .int .i64 0]).call b1 | (have h := (IsRow.made w 30 #[.int .u8 0, .int .u8 0, .int .u8 0, .int .u8 0, .int .i64 0]).call b1; simp at h; exact h)); have Rc0 : w1.cell? ⟨w.heap.size, 0, none⟩ = some (.int .u8 0) := R1.out.cell 0; have Rf0 : w1.frozen? ⟨w.heap.size, 0, none⟩ = false := R1.out.free 0; have Rc1 : w1.cell? ⟨w.heap.size, 1, none⟩ = some (.int .u8 0) := R1.out.cell 1; have Rf1 : w1.frozen? ⟨w.heap.size, 1, none⟩ = false := R1.out.free 1; have Rc2 : w1.cell? ⟨w.heap.size, 2, none⟩ = some (.int .u8 0) := R1.out.cell 2; have Rf2 : w1.frozen? ⟨w.heap.size, 2, none⟩ = false := R1.out.free 2; have Rc3 : w1.cell? ⟨w.heap.size, 3, none⟩ = some (.int .u8 0) := R1.out.cell 3; have Rf3 : w1.frozen? ⟨w.heap.size, 3, none⟩ = false := R1.out.free 3; have Rc4 : w1.cell? ⟨w.heap.size, 4, none⟩ = some (.int .i64 0) := R1.out.cell 4; have Rf4 : w1.frozen? ⟨w.heap.size, 4, none⟩ = false := R1.out.free 4; have Rlt : w.heap.size < w1.heap.size := R1.out.lt; clear HX)
      | (go_at_call 42; refine (HF.out _ (E.below ((B1.out).alloc B1.out.size (.cells #[.int .u8 0, .int .u8 0, .int .u8 0, .int .u8 0, .int .i64 0] 30))) aV aF aK aD (R.out.below ((B1.out).alloc B1.out.size (.cells #[.int .u8 0, .int .u8 0, .int .u8 0, .int .u8 0, .int .i64 0] 30)))).mono ?_; rintro e w2 ⟨rfl, b2⟩; have B2 := Lib.hid ((((B1.out).alloc B1.out.size (.cells #[.int .u8 0, .int .u8 0, .int .u8 0, .int .u8 0, .int .i64 0] 30))).trans (b2.mono (by have := ((B1.out).alloc B1.out.size (.cells #[.int .u8 0, .int .u8 0, .int .u8 0, .int .u8 0, .int .i64 0] 30)).size; first | exact this | (simp <;> omega)))); have R2 : Hid (IsRow w2 (w.heap.size) 30 #[.int .u8 0, .int .u8 0, .int .u8 0, .int .u8 0, .int .i64 0]) := Lib.hid (by first | exact (R1.out.alloc (.cells #[.int .u8 0, .int .u8 0, .int .u8 0, .int .u8 0, .int .i64 0] 30)).call b2 | (have h := (R1.out.alloc (.cells #[.int .u8 0, .int .u8 0, .int .u8 0, .int .u8 0, .int .i64 0] 30)).call b2; simp at h; exact h)); have X2 : Hid (IsRow w2 (w1.heap.size) 30 #[.int .u8 0, .int .u8 0, .int .u8 0, .int .u8 0, .int .i64 0]) := Lib.hid (by first | exact (IsRow.made w1 30 #[.int .u8 0, .int .u8 0, .int .u8 0, .int .u8 0, .int .i64 0]).call b2 | (have h := (IsRow.made w1 30 #[.int .u8 0, .int .u8 0, .int .u8 0, .int .u8 0, .int .i64 0]).call b2; simp at h; exact h)); clear Rc0 Rf0 Rc1 Rf1 Rc2 Rf2 Rc3 Rf3 Rc4 Rf4 Rlt; have Xc0 : w2.cell? ⟨w1.heap.size, 0, none⟩ = some (.int .u8 0) := X2.out.cell 0; have Xf0 : w2.frozen? ⟨w1.heap.size, 0, none⟩ = false := X2.out.free 0; have Xc1 : w2.cell? ⟨w1.heap.size, 1, none⟩ = some (.int .u8 0) := X2.out.cell 1; have Xf1 : w2.frozen? ⟨w1.heap.size, 1, none⟩ = false := X2.out.free 1; have Xc2 : w2.cell? ⟨w1.heap.size, 2, none⟩ = some (.int .u8 0) := X2.out.cell 2; have Xf2 : w2.frozen? ⟨w1.heap.size, 2, none⟩ = false := X2.out.free 2; have Xc3 : w2.cell? ⟨w1.heap.size, 3, none⟩ = some (.int .u8 0) := X2.out.cell 3; have Xf3 : w2.frozen? ⟨w1.heap.size, 3, none⟩ = false := X2.out.free 3; have Xc4 : w2.cell? ⟨w1.heap.size, 4, none⟩ = some (.int .i64 0) := X2.out.cell 4; have Xf4 : w2.frozen? ⟨w1.heap.size, 4, none⟩ = false := X2.out.free 4; have Xlt : w1.heap.size < w2.heap.size := X2.out.lt; have Rc0 : w2.cell? ⟨w.heap.size, 0, none⟩ = some (.int .u8 0) := R2.out.cell 0; have Rf0 : w2.frozen? ⟨w.heap.size, 0, none⟩ = false := R2.out.free 0; have Rc1 : w2.cell? ⟨w.heap.size, 1, none⟩ = some (.int .u8 0) := R2.out.cell 1; have Rf1 : w2.frozen? ⟨w.heap.size, 1, none⟩ = false := R2.out.free 1; have Rc2 : w2.cell? ⟨w.heap.size, 2, none⟩ = some (.int .u8 0) := R2.out.cell 2; have Rf2 : w2.frozen? ⟨w.heap.size, 2, none⟩ = false := R2.out.free 2; have Rc3 : w2.cell? ⟨w.heap.size, 3, none⟩ = some (.int .u8 0) := R2.out.cell 3; have Rf3 : w2.frozen? ⟨w.heap.size, 3, none⟩ = false := R2.out.free 3; have Rc4 : w2.cell? ⟨w.heap.size, 4, none⟩ = some (.int .i64 0) := R2.out.cell 4; have Rf4 : w2.frozen? ⟨w.heap.size, 4, none⟩ = false := R2.out.free 4; have Rlt : w.heap.size < w2.heap.size := R2.out.lt; clear HF))
    obtain ⟨W9, hW⟩ : ∃ W9, (World.setCell (World.setCell (World.setCell (World.setCell (World.setCell w2 ⟨w.heap.size, 0, none⟩ (.int .u8 0)) ⟨w.heap.size, 1, none⟩ (.int .u8 0)) ⟨w.heap.size, 2, none⟩ (.int .u8 0)) ⟨w.heap.size, 3, none⟩ (.int .u8 0)) ⟨w.heap.size, 4, none⟩ (.int .i64 0)) = W9 := ⟨_, rfl⟩
    have R9 : IsRow W9 (w.heap.size) 30 #[.int .u8 0, .int .u8 0, .int .u8 0, .int .u8 0, .int .i64 0] := by
      rw [← hW]
      exact (((((R2.out.set 0 (.int .u8 0)).set 1 (.int .u8 0)).set 2 (.int .u8 0)).set 3 (.int .u8 0)).set 4 (.int .i64 0))
    have B9 : Below w.heap.size w W9 := by
      rw [← hW]
      exact ((((((((((B2.out).setCell (p := ⟨w.heap.size, 0, none⟩) (by show w.heap.size ≤ w.heap.size; (try have hs1 := B1.out.size); (try have hs2 := B2.out.size); omega) (.int .u8 0))).setCell (p := ⟨w.heap.size, 1, none⟩) (by show w.heap.size ≤ w.heap.size; (try have hs1 := B1.out.size); (try have hs2 := B2.out.size); omega) (.int .u8 0))).setCell (p := ⟨w.heap.size, 2, none⟩) (by show w.heap.size ≤ w.heap.size; (try have hs1 := B1.out.size); (try have hs2 := B2.out.size); omega) (.int .u8 0))).setCell (p := ⟨w.heap.size, 3, none⟩) (by show w.heap.size ≤ w.heap.size; (try have hs1 := B1.out.size); (try have hs2 := B2.out.size); omega) (.int .u8 0))).setCell (p := ⟨w.heap.size, 4, none⟩) (by show w.heap.size ≤ w.heap.size; (try have hs1 := B1.out.size); (try have hs2 := B2.out.size); omega) (.int .i64 0))
    rw [hW]
    clear Xc0 Xf0 Xc1 Xf1 Xc2 Xf2 Xc3 Xf3 Xc4 Xf4 Xlt Rc0 Rf0 Rc1 Rf1 Rc2 Rf2 Rc3 Rf3 Rc4 Rf4 Rlt
    have y0 : W9.cell? ⟨w.heap.size, 0, none⟩ = some (.int .u8 0) := R9.cell 0
    have y1 : W9.cell? ⟨w.heap.size, 1, none⟩ = some (.int .u8 0) := R9.cell 1
    have y2 : W9.cell? ⟨w.heap.size, 2, none⟩ = some (.int .u8 0) := R9.cell 2
    have y3 : W9.cell? ⟨w.heap.size, 3, none⟩ = some (.int .u8 0) := R9.cell 3
    have y4 : W9.cell? ⟨w.heap.size, 4, none⟩ = some (.int .i64 0) := R9.cell 4
    refine bodyPost_ret (v := .tuple #[.agg #[.int .u8 0, .int .u8 0, .int .u8 0, .int .u8 0, .int .i64 0], faultV ⟨#[101, 110, 100]⟩ aF]) (by simp [results, Tryz.results44, go_sem, y0, y1, y2, y3, y4]; done) rfl ?_
    exact ⟨⟨_, rfl⟩, B9⟩
  · have e : readC eprtV s = (En.z, 8) := by unfold readC; rw [if_neg (by decide), if_pos rfl, if_neg (by rw [hc]; decide), hc]
    rw [e] at h
    injection h with i1 i2
    subst i1; subst i2
    rw [Ext.extH_no (by rw [hc]; decide), Ext.extH_no (by rw [hc]; decide), Ext.extH_no (by rw [hc]; decide), Ext.extH_no (by rw [hc]; decide), Ext.extP_no (by rw [hc]; decide), hc] at HX
    clear e hc
    have R := Lib.hid R0
    clear R0
    go_enter Tryz.func44, Tryz.ntmps44
    go_wp2_with (go_at_call 69; refine (HX.out _ (E.below (((Below.refl w.heap.size w)).alloc (Below.refl w.heap.size w).size (.cells #[.int .u8 0, .int .u8 0, .int .u8 0, .int .u8 0, .int .i64 0] 30)))).mono ?_; rintro e w1 ⟨rfl, b1⟩; have B1 := Lib.hid (((((Below.refl w.heap.size w)).alloc (Below.refl w.heap.size w).size (.cells #[.int .u8 0, .int .u8 0, .int .u8 0, .int .u8 0, .int .i64 0] 30))).trans (b1.mono (by have := (((Below.refl w.heap.size w)).alloc (Below.refl w.heap.size w).size (.cells #[.int .u8 0, .int .u8 0, .int .u8 0, .int .u8 0, .int .i64 0] 30)).size; first | exact this | (simp <;> omega)))); have R1 : Hid (IsRow w1 (w.heap.size) 30 #[.int .u8 0, .int .u8 0, .int .u8 0, .int .u8 0, .int .i64 0]) := Lib.hid (by first | exact (IsRow.made w 30 #[.int .u8 0, .int .u8 0, .int .u8 0, .int .u8 0, .int .i64 0]).call b1 | (have h := (IsRow.made w 30 #[.int .u8 0, .int .u8 0, .int .u8 0, .int .u8 0, .int .i64 0]).call b1; simp at h; exact h)); have Rc0 : w1.cell? ⟨w.heap.size, 0, none⟩ = some (.int .u8 0) := R1.out.cell 0; have Rf0 : w1.frozen? ⟨w.heap.size, 0, none⟩ = false := R1.out.free 0; have Rc1 : w1.cell? ⟨w.heap.size, 1, none⟩ = some (.int .u8 0) := R1.out.cell 1; have Rf1 : w1.frozen? ⟨w.heap.size, 1, none⟩ = false := R1.out.free 1; have Rc2 : w1.cell? ⟨w.heap.size, 2, none⟩ = some (.int .u8 0) := R1.out.cell 2; have Rf2 : w1.frozen? ⟨w.heap.size, 2, none⟩ = false := R1.out.free 2; have Rc3 : w1.cell? ⟨w.heap.size, 3, none⟩ = some (.int .u8 0) := R1.out.cell 3; have Rf3 : w1.frozen? ⟨w.heap.size, 3, none⟩ = false := R1.out.free 3; have Rc4 : w1.cell? ⟨w.heap.size, 4, none⟩ = some (.int .i64 0) := R1.out.cell 4; have Rf4 : w1.frozen? ⟨w.heap.size, 4, none⟩ = false := R1.out.free 4; have Rlt : w.heap.size < w1.heap.size := R1.out.lt; clear HX)
    obtain ⟨w2, hv⟩ : ∃ V, (w1.alloc (.cells #[.int .u8 0, .int .u8 0, .int .u8 0, .int .u8 0, .int .i64 0] 30)) = V := ⟨_, rfl⟩
    have B2 := Lib.hid (show Below w.heap.size w w2 by rw [← hv]; exact ((B1.out).alloc B1.out.size (.cells #[.int .u8 0, .int .u8 0, .int .u8 0, .int .u8 0, .int .i64 0] 30)))
    have R2 : Hid (IsRow w2 (w.heap.size) 30 #[.int .u8 0, .int .u8 0, .int .u8 0, .int .u8 0, .int .i64 0]) := Lib.hid (by rw [← hv]; first | exact (R1.out.alloc (.cells #[.int .u8 0, .int .u8 0, .int .u8 0, .int .u8 0, .int .i64 0] 30)) | (have h := (R1.out.alloc (.cells #[.int .u8 0, .int .u8 0, .int .u8 0, .int .u8 0, .int .i64 0] 30)); simp at h; exact h))
    have X2 : Hid (IsRow w2 (w1.heap.size) 30 #[.int .u8 0, .int .u8 0, .int .u8 0, .int .u8 0, .int .i64 0]) := Lib.hid (by rw [← hv]; first | exact (IsRow.made w1 30 #[.int .u8 0, .int .u8 0, .int .u8 0, .int .u8 0, .int .i64 0]) | (have h := (IsRow.made w1 30 #[.int .u8 0, .int .u8 0, .int .u8 0, .int .u8 0, .int .i64 0]); simp at h; exact h))
    rw [hv]
    clear hv
    clear Rc0 Rf0 Rc1 Rf1 Rc2 Rf2 Rc3 Rf3 Rc4 Rf4 Rlt
    have Rc0 : w2.cell? ⟨w.heap.size, 0, none⟩ = some (.int .u8 0) := R2.out.cell 0
    have Rf0 : w2.frozen? ⟨w.heap.size, 0, none⟩ = false := R2.out.free 0
    have Rc1 : w2.cell? ⟨w.heap.size, 1, none⟩ = some (.int .u8 0) := R2.out.cell 1
    have Rf1 : w2.frozen? ⟨w.heap.size, 1, none⟩ = false := R2.out.free 1
    have Rc2 : w2.cell? ⟨w.heap.size, 2, none⟩ = some (.int .u8 0) := R2.out.cell 2
    have Rf2 : w2.frozen? ⟨w.heap.size, 2, none⟩ = false := R2.out.free 2
    have Rc3 : w2.cell? ⟨w.heap.size, 3, none⟩ = some (.int .u8 0) := R2.out.cell 3
    have Rf3 : w2.frozen? ⟨w.heap.size, 3, none⟩ = false := R2.out.free 3
    have Rc4 : w2.cell? ⟨w.heap.size, 4, none⟩ = some (.int .i64 0) := R2.out.cell 4
    have Rf4 : w2.frozen? ⟨w.heap.size, 4, none⟩ = false := R2.out.free 4
    have Rlt : w.heap.size < w2.heap.size := R2.out.lt
    have kf : w2.cell? ⟨2, 0, none⟩ = some (newV aK) := (R.out.below B2.out).kind
    have kg : (World.setCell (World.setCell (World.setCell (World.setCell (World.setCell w2 ⟨w.heap.size, 0, none⟩ (.int .u8 0)) ⟨w.heap.size, 1, none⟩ (.int .u8 0)) ⟨w.heap.size, 2, none⟩ (.int .u8 0)) ⟨w.heap.size, 3, none⟩ (.int .u8 0)) ⟨w.heap.size, 4, none⟩ (.int .i64 0)).cell? ⟨2, 0, none⟩ = some (newV aK) := (R.out.below ((((((((((B2.out).setCell (p := ⟨w.heap.size, 0, none⟩) (by show w.heap.size ≤ w.heap.size; (try have hs1 := B1.out.size); (try have hs2 := B2.out.size); omega) (.int .u8 0))).setCell (p := ⟨w.heap.size, 1, none⟩) (by show w.heap.size ≤ w.heap.size; (try have hs1 := B1.out.size); (try have hs2 := B2.out.size); omega) (.int .u8 0))).setCell (p := ⟨w.heap.size, 2, none⟩) (by show w.heap.size ≤ w.heap.size; (try have hs1 := B1.out.size); (try have hs2 := B2.out.size); omega) (.int .u8 0))).setCell (p := ⟨w.heap.size, 3, none⟩) (by show w.heap.size ≤ w.heap.size; (try have hs1 := B1.out.size); (try have hs2 := B2.out.size); omega) (.int .u8 0))).setCell (p := ⟨w.heap.size, 4, none⟩) (by show w.heap.size ≤ w.heap.size; (try have hs1 := B1.out.size); (try have hs2 := B2.out.size); omega) (.int .i64 0))).kind
    go_region
    go_wp2_with fail
    obtain ⟨W9, hW⟩ : ∃ W9, (World.drew (World.setCell (World.setCell (World.setCell (World.setCell (World.setCell w2 ⟨w.heap.size, 0, none⟩ (.int .u8 0)) ⟨w.heap.size, 1, none⟩ (.int .u8 0)) ⟨w.heap.size, 2, none⟩ (.int .u8 0)) ⟨w.heap.size, 3, none⟩ (.int .u8 0)) ⟨w.heap.size, 4, none⟩ (.int .i64 0))) = W9 := ⟨_, rfl⟩
    have R9 : IsRow W9 (w.heap.size) 30 #[.int .u8 0, .int .u8 0, .int .u8 0, .int .u8 0, .int .i64 0] := by
      rw [← hW]
      exact ((((((R2.out.set 0 (.int .u8 0)).set 1 (.int .u8 0)).set 2 (.int .u8 0)).set 3 (.int .u8 0)).set 4 (.int .i64 0)).drew)
    have B9 : Below w.heap.size w W9 := by
      rw [← hW]
      exact (((((((((((B2.out).setCell (p := ⟨w.heap.size, 0, none⟩) (by show w.heap.size ≤ w.heap.size; (try have hs1 := B1.out.size); (try have hs2 := B2.out.size); omega) (.int .u8 0))).setCell (p := ⟨w.heap.size, 1, none⟩) (by show w.heap.size ≤ w.heap.size; (try have hs1 := B1.out.size); (try have hs2 := B2.out.size); omega) (.int .u8 0))).setCell (p := ⟨w.heap.size, 2, none⟩) (by show w.heap.size ≤ w.heap.size; (try have hs1 := B1.out.size); (try have hs2 := B2.out.size); omega) (.int .u8 0))).setCell (p := ⟨w.heap.size, 3, none⟩) (by show w.heap.size ≤ w.heap.size; (try have hs1 := B1.out.size); (try have hs2 := B2.out.size); omega) (.int .u8 0))).setCell (p := ⟨w.heap.size, 4, none⟩) (by show w.heap.size ≤ w.heap.size; (try have hs1 := B1.out.size); (try have hs2 := B2.out.size); omega) (.int .i64 0))).drew
    rw [hW]
    clear Rc0 Rf0 Rc1 Rf1 Rc2 Rf2 Rc3 Rf3 Rc4 Rf4 Rlt
    have y0 : W9.cell? ⟨w.heap.size, 0, none⟩ = some (.int .u8 0) := R9.cell 0
    have y1 : W9.cell? ⟨w.heap.size, 1, none⟩ = some (.int .u8 0) := R9.cell 1
    have y2 : W9.cell? ⟨w.heap.size, 2, none⟩ = some (.int .u8 0) := R9.cell 2
    have y3 : W9.cell? ⟨w.heap.size, 3, none⟩ = some (.int .u8 0) := R9.cell 3
    have y4 : W9.cell? ⟨w.heap.size, 4, none⟩ = some (.int .i64 0) := R9.cell 4
    refine bodyPost_ret (v := .tuple #[.agg #[.int .u8 0, .int .u8 0, .int .u8 0, .int .u8 0, .int .i64 0], faultV ⟨#[101, 110, 100]⟩ aK]) (by simp [results, Tryz.results44, go_sem, y0, y1, y2, y3, y4]; done) rfl ?_
    exact ⟨by first | rfl | exact ⟨_, rfl⟩, B9⟩

set_option maxHeartbeats 4000000 in
theorem cmd_of (v s : List UInt8) (hs : s.length ≤ 1000000) (x : En) (k : Int) (h : readC v s = (x, k)) (w : World) (E : Env w) (aV aF aK aD : Addr) (R0 : TErrs aV aF aK aD w) : Calls Tryz.prog 20 #[cmdV v s] w fun e w' => (∃ q, e = .returned (.tuple #[enV x, errV aV aF aK aD q k])) ∧ Below w.heap.size w w' := by
  rcases Decidable.em (v = portV) with hv | hv
  · subst hv
    have HX := Lib.hid (fun W (EW : Env W) => Six.read_any s hs W EW)
    unfold Six.readV at HX
    cases hb : sixB s with
    | true =>
      obtain ⟨a, b, c, d, p, ha, hbb, hd, he, hp⟩ : ∃ a b c d p, sixN s 0 = a ∧ sixN s 1 = b ∧ sixN s 2 = c ∧ sixN s 3 = d ∧ sixP s = p := ⟨_, _, _, _, _, rfl, rfl, rfl, rfl, rfl⟩
      have e : readC portV s = (⟨a, b, c, d, p⟩, 0) := by unfold readC sixE; rw [if_pos rfl, if_pos hb, ha, hbb, hd, he, hp]
      rw [e] at h
      injection h with i1 i2
      subst i1; subst i2
      rw [ha, hbb, hd, he, hp, hb] at HX
      have HF := Lib.hid (fun W => found_yes ⟨a, b, c, d, p⟩ W)
      clear e ha hbb hd he hp hb
      have R := Lib.hid R0
      clear R0
      go_enter Tryz.func20, Tryz.ntmps20
      go_wp2_with (first
        | (go_at_call 43; refine (HX.out _ (E.below (((((Below.refl w.heap.size w)).alloc (Below.refl w.heap.size w).size (.cells #[.string ⟨#[80, 79, 82, 84]⟩, .string ⟨s.toArray⟩] 23))).alloc (by have := (Below.refl w.heap.size w).size; simp <;> omega) (.cells #[.int .u8 0, .int .u8 0, .int .u8 0, .int .u8 0, .int .i64 0] 30)))).mono ?_; rintro e w1 ⟨rfl, b1⟩; have B1 := Lib.hid (((((((Below.refl w.heap.size w)).alloc (Below.refl w.heap.size w).size (.cells #[.string ⟨#[80, 79, 82, 84]⟩, .string ⟨s.toArray⟩] 23))).alloc (by have := (Below.refl w.heap.size w).size; simp <;> omega) (.cells #[.int .u8 0, .int .u8 0, .int .u8 0, .int .u8 0, .int .i64 0] 30))).trans (b1.mono (by have := (((((Below.refl w.heap.size w)).alloc (Below.refl w.heap.size w).size (.cells #[.string ⟨#[80, 79, 82, 84]⟩, .string ⟨s.toArray⟩] 23))).alloc (by have := (Below.refl w.heap.size w).size; simp <;> omega) (.cells #[.int .u8 0, .int .u8 0, .int .u8 0, .int .u8 0, .int .i64 0] 30)).size; first | exact this | (simp <;> omega)))); have C1 : Hid (IsRow w1 (w.heap.size) 23 #[.string ⟨#[80, 79, 82, 84]⟩, .string ⟨s.toArray⟩]) := Lib.hid (by first | exact ((IsRow.made w 23 #[.string ⟨#[80, 79, 82, 84]⟩, .string ⟨s.toArray⟩]).alloc (.cells #[.int .u8 0, .int .u8 0, .int .u8 0, .int .u8 0, .int .i64 0] 30)).call b1 | (have h := ((IsRow.made w 23 #[.string ⟨#[80, 79, 82, 84]⟩, .string ⟨s.toArray⟩]).alloc (.cells #[.int .u8 0, .int .u8 0, .int .u8 0, .int .u8 0, .int .i64 0] 30)).call b1; simp at h; exact h)); have R1 : Hid (IsRow w1 (w.heap.size + 1) 30 #[.int .u8 0, .int .u8 0, .int .u8 0, .int .u8 0, .int .i64 0]) := Lib.hid (by first | exact (IsRow.made (w.alloc (.cells #[.string ⟨#[80, 79, 82, 84]⟩, .string ⟨s.toArray⟩] 23)) 30 #[.int .u8 0, .int .u8 0, .int .u8 0, .int .u8 0, .int .i64 0]).call b1 | (have h := (IsRow.made (w.alloc (.cells #[.string ⟨#[80, 79, 82, 84]⟩, .string ⟨s.toArray⟩] 23)) 30 #[.int .u8 0, .int .u8 0, .int .u8 0, .int .u8 0, .int .i64 0]).call b1; simp at h; exact h)); have Rc0 : w1.cell? ⟨w.heap.size + 1, 0, none⟩ = some (.int .u8 0) := R1.out.cell 0; have Rf0 : w1.frozen? ⟨w.heap.size + 1, 0, none⟩ = false := R1.out.free 0; have Rc1 : w1.cell? ⟨w.heap.size + 1, 1, none⟩ = some (.int .u8 0) := R1.out.cell 1; have Rf1 : w1.frozen? ⟨w.heap.size + 1, 1, none⟩ = false := R1.out.free 1; have Rc2 : w1.cell? ⟨w.heap.size + 1, 2, none⟩ = some (.int .u8 0) := R1.out.cell 2; have Rf2 : w1.frozen? ⟨w.heap.size + 1, 2, none⟩ = false := R1.out.free 2; have Rc3 : w1.cell? ⟨w.heap.size + 1, 3, none⟩ = some (.int .u8 0) := R1.out.cell 3; have Rf3 : w1.frozen? ⟨w.heap.size + 1, 3, none⟩ = false := R1.out.free 3; have Rc4 : w1.cell? ⟨w.heap.size + 1, 4, none⟩ = some (.int .i64 0) := R1.out.cell 4; have Rf4 : w1.frozen? ⟨w.heap.size + 1, 4, none⟩ = false := R1.out.free 4; have Rlt : w.heap.size + 1 < w1.heap.size := R1.out.lt; clear HX)
        | (go_at_call 42; refine (HF.out _).mono ?_; rintro e w2 ⟨rfl, b2⟩; have B2 := Lib.hid ((B1.out).trans (b2.mono (by have := B1.out.size; first | exact this | (simp <;> omega)))); have C2 : Hid (IsRow w2 (w.heap.size) 23 #[.string ⟨#[80, 79, 82, 84]⟩, .string ⟨s.toArray⟩]) := Lib.hid (by first | exact C1.out.call b2 | (have h := C1.out.call b2; simp at h; exact h)); have R2 : Hid (IsRow w2 (w.heap.size + 1) 30 #[.int .u8 0, .int .u8 0, .int .u8 0, .int .u8 0, .int .i64 0]) := Lib.hid (by first | exact R1.out.call b2 | (have h := R1.out.call b2; simp at h; exact h)); clear Rc0 Rf0 Rc1 Rf1 Rc2 Rf2 Rc3 Rf3 Rc4 Rf4 Rlt; have Rc0 : w2.cell? ⟨w.heap.size + 1, 0, none⟩ = some (.int .u8 0) := R2.out.cell 0; have Rf0 : w2.frozen? ⟨w.heap.size + 1, 0, none⟩ = false := R2.out.free 0; have Rc1 : w2.cell? ⟨w.heap.size + 1, 1, none⟩ = some (.int .u8 0) := R2.out.cell 1; have Rf1 : w2.frozen? ⟨w.heap.size + 1, 1, none⟩ = false := R2.out.free 1; have Rc2 : w2.cell? ⟨w.heap.size + 1, 2, none⟩ = some (.int .u8 0) := R2.out.cell 2; have Rf2 : w2.frozen? ⟨w.heap.size + 1, 2, none⟩ = false := R2.out.free 2; have Rc3 : w2.cell? ⟨w.heap.size + 1, 3, none⟩ = some (.int .u8 0) := R2.out.cell 3; have Rf3 : w2.frozen? ⟨w.heap.size + 1, 3, none⟩ = false := R2.out.free 3; have Rc4 : w2.cell? ⟨w.heap.size + 1, 4, none⟩ = some (.int .i64 0) := R2.out.cell 4; have Rf4 : w2.frozen? ⟨w.heap.size + 1, 4, none⟩ = false := R2.out.free 4; have Rlt : w.heap.size + 1 < w2.heap.size := R2.out.lt; clear HF))
      obtain ⟨W9, hW⟩ : ∃ W9, (World.setCell (World.setCell (World.setCell (World.setCell (World.setCell w2 ⟨w.heap.size + 1, 0, none⟩ (.int .u8 a)) ⟨w.heap.size + 1, 1, none⟩ (.int .u8 b)) ⟨w.heap.size + 1, 2, none⟩ (.int .u8 c)) ⟨w.heap.size + 1, 3, none⟩ (.int .u8 d)) ⟨w.heap.size + 1, 4, none⟩ (.int .i64 p)) = W9 := ⟨_, rfl⟩
      have R9 : IsRow W9 (w.heap.size + 1) 30 #[.int .u8 a, .int .u8 b, .int .u8 c, .int .u8 d, .int .i64 p] := by
        rw [← hW]
        exact (((((R2.out.set 0 (.int .u8 a)).set 1 (.int .u8 b)).set 2 (.int .u8 c)).set 3 (.int .u8 d)).set 4 (.int .i64 p))
      have B9 : Below w.heap.size w W9 := by
        rw [← hW]
        exact ((((((((((B2.out).setCell (p := ⟨w.heap.size + 1, 0, none⟩) (by show w.heap.size ≤ w.heap.size + 1; (try have hs1 := B1.out.size); (try have hs2 := B2.out.size); omega) (.int .u8 a))).setCell (p := ⟨w.heap.size + 1, 1, none⟩) (by show w.heap.size ≤ w.heap.size + 1; (try have hs1 := B1.out.size); (try have hs2 := B2.out.size); omega) (.int .u8 b))).setCell (p := ⟨w.heap.size + 1, 2, none⟩) (by show w.heap.size ≤ w.heap.size + 1; (try have hs1 := B1.out.size); (try have hs2 := B2.out.size); omega) (.int .u8 c))).setCell (p := ⟨w.heap.size + 1, 3, none⟩) (by show w.heap.size ≤ w.heap.size + 1; (try have hs1 := B1.out.size); (try have hs2 := B2.out.size); omega) (.int .u8 d))).setCell (p := ⟨w.heap.size + 1, 4, none⟩) (by show w.heap.size ≤ w.heap.size + 1; (try have hs1 := B1.out.size); (try have hs2 := B2.out.size); omega) (.int .i64 p))
      rw [hW]
      clear Rc0 Rf0 Rc1 Rf1 Rc2 Rf2 Rc3 Rf3 Rc4 Rf4 Rlt
      have y0 : W9.cell? ⟨w.heap.size + 1, 0, none⟩ = some (.int .u8 a) := R9.cell 0
      have y1 : W9.cell? ⟨w.heap.size + 1, 1, none⟩ = some (.int .u8 b) := R9.cell 1
      have y2 : W9.cell? ⟨w.heap.size + 1, 2, none⟩ = some (.int .u8 c) := R9.cell 2
      have y3 : W9.cell? ⟨w.heap.size + 1, 3, none⟩ = some (.int .u8 d) := R9.cell 3
      have y4 : W9.cell? ⟨w.heap.size + 1, 4, none⟩ = some (.int .i64 p) := R9.cell 4
      refine bodyPost_ret (v := .tuple #[.agg #[.int .u8 a, .int .u8 b, .int .u8 c, .int .u8 d, .int .i64 p], .nilIface]) (by simp [results, Tryz.results20, go_sem, y0, y1, y2, y3, y4]; done) rfl ?_
      exact ⟨⟨⟨#[]⟩, rfl⟩, B9⟩
    | false =>
      have e : readC portV s = (En.z, 2) := by unfold readC; rw [if_pos rfl, hb]; rfl
      rw [e] at h
      injection h with i1 i2
      subst i1; subst i2
      rw [Six.sixN_no hb, Six.sixN_no hb, Six.sixN_no hb, Six.sixN_no hb, Six.sixP_no hb, hb] at HX
      have HF := Lib.hid (fun W => found_no En.z W)
      clear e hb
      have R := Lib.hid R0
      clear R0
      go_enter Tryz.func20, Tryz.ntmps20
      go_wp2_with (first
        | (go_at_call 43; refine (HX.out _ (E.below (((((Below.refl w.heap.size w)).alloc (Below.refl w.heap.size w).size (.cells #[.string ⟨#[80, 79, 82, 84]⟩, .string ⟨s.toArray⟩] 23))).alloc (by have := (Below.refl w.heap.size w).size; simp <;> omega) (.cells #[.int .u8 0, .int .u8 0, .int .u8 0, .int .u8 0, .int .i64 0] 30)))).mono ?_; rintro e w1 ⟨rfl, b1⟩; have B1 := Lib.hid (((((((Below.refl w.heap.size w)).alloc (Below.refl w.heap.size w).size (.cells #[.string ⟨#[80, 79, 82, 84]⟩, .string ⟨s.toArray⟩] 23))).alloc (by have := (Below.refl w.heap.size w).size; simp <;> omega) (.cells #[.int .u8 0, .int .u8 0, .int .u8 0, .int .u8 0, .int .i64 0] 30))).trans (b1.mono (by have := (((((Below.refl w.heap.size w)).alloc (Below.refl w.heap.size w).size (.cells #[.string ⟨#[80, 79, 82, 84]⟩, .string ⟨s.toArray⟩] 23))).alloc (by have := (Below.refl w.heap.size w).size; simp <;> omega) (.cells #[.int .u8 0, .int .u8 0, .int .u8 0, .int .u8 0, .int .i64 0] 30)).size; first | exact this | (simp <;> omega)))); have C1 : Hid (IsRow w1 (w.heap.size) 23 #[.string ⟨#[80, 79, 82, 84]⟩, .string ⟨s.toArray⟩]) := Lib.hid (by first | exact ((IsRow.made w 23 #[.string ⟨#[80, 79, 82, 84]⟩, .string ⟨s.toArray⟩]).alloc (.cells #[.int .u8 0, .int .u8 0, .int .u8 0, .int .u8 0, .int .i64 0] 30)).call b1 | (have h := ((IsRow.made w 23 #[.string ⟨#[80, 79, 82, 84]⟩, .string ⟨s.toArray⟩]).alloc (.cells #[.int .u8 0, .int .u8 0, .int .u8 0, .int .u8 0, .int .i64 0] 30)).call b1; simp at h; exact h)); have R1 : Hid (IsRow w1 (w.heap.size + 1) 30 #[.int .u8 0, .int .u8 0, .int .u8 0, .int .u8 0, .int .i64 0]) := Lib.hid (by first | exact (IsRow.made (w.alloc (.cells #[.string ⟨#[80, 79, 82, 84]⟩, .string ⟨s.toArray⟩] 23)) 30 #[.int .u8 0, .int .u8 0, .int .u8 0, .int .u8 0, .int .i64 0]).call b1 | (have h := (IsRow.made (w.alloc (.cells #[.string ⟨#[80, 79, 82, 84]⟩, .string ⟨s.toArray⟩] 23)) 30 #[.int .u8 0, .int .u8 0, .int .u8 0, .int .u8 0, .int .i64 0]).call b1; simp at h; exact h)); have Rc0 : w1.cell? ⟨w.heap.size + 1, 0, none⟩ = some (.int .u8 0) := R1.out.cell 0; have Rf0 : w1.frozen? ⟨w.heap.size + 1, 0, none⟩ = false := R1.out.free 0; have Rc1 : w1.cell? ⟨w.heap.size + 1, 1, none⟩ = some (.int .u8 0) := R1.out.cell 1; have Rf1 : w1.frozen? ⟨w.heap.size + 1, 1, none⟩ = false := R1.out.free 1; have Rc2 : w1.cell? ⟨w.heap.size + 1, 2, none⟩ = some (.int .u8 0) := R1.out.cell 2; have Rf2 : w1.frozen? ⟨w.heap.size + 1, 2, none⟩ = false := R1.out.free 2; have Rc3 : w1.cell? ⟨w.heap.size + 1, 3, none⟩ = some (.int .u8 0) := R1.out.cell 3; have Rf3 : w1.frozen? ⟨w.heap.size + 1, 3, none⟩ = false := R1.out.free 3; have Rc4 : w1.cell? ⟨w.heap.size + 1, 4, none⟩ = some (.int .i64 0) := R1.out.cell 4; have Rf4 : w1.frozen? ⟨w.heap.size + 1, 4, none⟩ = false := R1.out.free 4; have Rlt : w.heap.size + 1 < w1.heap.size := R1.out.lt; clear HX)
        | (go_at_call 42; refine (HF.out _ (E.below B1.out) aV aF aK aD (R.out.below B1.out)).mono ?_; rintro e w2 ⟨rfl, b2⟩; have B2 := Lib.hid ((B1.out).trans (b2.mono (by have := B1.out.size; first | exact this | (simp <;> omega)))); have C2 : Hid (IsRow w2 (w.heap.size) 23 #[.string ⟨#[80, 79, 82, 84]⟩, .string ⟨s.toArray⟩]) := Lib.hid (by first | exact C1.out.call b2 | (have h := C1.out.call b2; simp at h; exact h)); have R2 : Hid (IsRow w2 (w.heap.size + 1) 30 #[.int .u8 0, .int .u8 0, .int .u8 0, .int .u8 0, .int .i64 0]) := Lib.hid (by first | exact R1.out.call b2 | (have h := R1.out.call b2; simp at h; exact h)); clear Rc0 Rf0 Rc1 Rf1 Rc2 Rf2 Rc3 Rf3 Rc4 Rf4 Rlt; have Rc0 : w2.cell? ⟨w.heap.size + 1, 0, none⟩ = some (.int .u8 0) := R2.out.cell 0; have Rf0 : w2.frozen? ⟨w.heap.size + 1, 0, none⟩ = false := R2.out.free 0; have Rc1 : w2.cell? ⟨w.heap.size + 1, 1, none⟩ = some (.int .u8 0) := R2.out.cell 1; have Rf1 : w2.frozen? ⟨w.heap.size + 1, 1, none⟩ = false := R2.out.free 1; have Rc2 : w2.cell? ⟨w.heap.size + 1, 2, none⟩ = some (.int .u8 0) := R2.out.cell 2; have Rf2 : w2.frozen? ⟨w.heap.size + 1, 2, none⟩ = false := R2.out.free 2; have Rc3 : w2.cell? ⟨w.heap.size + 1, 3, none⟩ = some (.int .u8 0) := R2.out.cell 3; have Rf3 : w2.frozen? ⟨w.heap.size + 1, 3, none⟩ = false := R2.out.free 3; have Rc4 : w2.cell? ⟨w.heap.size + 1, 4, none⟩ = some (.int .i64 0) := R2.out.cell 4; have Rf4 : w2.frozen? ⟨w.heap.size + 1, 4, none⟩ = false := R2.out.free 4; have Rlt : w.heap.size + 1 < w2.heap.size := R2.out.lt; clear HF))
      obtain ⟨W9, hW⟩ : ∃ W9, (World.setCell (World.setCell (World.setCell (World.setCell (World.setCell w2 ⟨w.heap.size + 1, 0, none⟩ (.int .u8 0)) ⟨w.heap.size + 1, 1, none⟩ (.int .u8 0)) ⟨w.heap.size + 1, 2, none⟩ (.int .u8 0)) ⟨w.heap.size + 1, 3, none⟩ (.int .u8 0)) ⟨w.heap.size + 1, 4, none⟩ (.int .i64 0)) = W9 := ⟨_, rfl⟩
      have R9 : IsRow W9 (w.heap.size + 1) 30 #[.int .u8 0, .int .u8 0, .int .u8 0, .int .u8 0, .int .i64 0] := by
        rw [← hW]
        exact (((((R2.out.set 0 (.int .u8 0)).set 1 (.int .u8 0)).set 2 (.int .u8 0)).set 3 (.int .u8 0)).set 4 (.int .i64 0))
      have B9 : Below w.heap.size w W9 := by
        rw [← hW]
        exact ((((((((((B2.out).setCell (p := ⟨w.heap.size + 1, 0, none⟩) (by show w.heap.size ≤ w.heap.size + 1; (try have hs1 := B1.out.size); (try have hs2 := B2.out.size); omega) (.int .u8 0))).setCell (p := ⟨w.heap.size + 1, 1, none⟩) (by show w.heap.size ≤ w.heap.size + 1; (try have hs1 := B1.out.size); (try have hs2 := B2.out.size); omega) (.int .u8 0))).setCell (p := ⟨w.heap.size + 1, 2, none⟩) (by show w.heap.size ≤ w.heap.size + 1; (try have hs1 := B1.out.size); (try have hs2 := B2.out.size); omega) (.int .u8 0))).setCell (p := ⟨w.heap.size + 1, 3, none⟩) (by show w.heap.size ≤ w.heap.size + 1; (try have hs1 := B1.out.size); (try have hs2 := B2.out.size); omega) (.int .u8 0))).setCell (p := ⟨w.heap.size + 1, 4, none⟩) (by show w.heap.size ≤ w.heap.size + 1; (try have hs1 := B1.out.size); (try have hs2 := B2.out.size); omega) (.int .i64 0))
      rw [hW]
      clear Rc0 Rf0 Rc1 Rf1 Rc2 Rf2 Rc3 Rf3 Rc4 Rf4 Rlt
      have y0 : W9.cell? ⟨w.heap.size + 1, 0, none⟩ = some (.int .u8 0) := R9.cell 0
      have y1 : W9.cell? ⟨w.heap.size + 1, 1, none⟩ = some (.int .u8 0) := R9.cell 1
      have y2 : W9.cell? ⟨w.heap.size + 1, 2, none⟩ = some (.int .u8 0) := R9.cell 2
      have y3 : W9.cell? ⟨w.heap.size + 1, 3, none⟩ = some (.int .u8 0) := R9.cell 3
      have y4 : W9.cell? ⟨w.heap.size + 1, 4, none⟩ = some (.int .i64 0) := R9.cell 4
      refine bodyPost_ret (v := .tuple #[.agg #[.int .u8 0, .int .u8 0, .int .u8 0, .int .u8 0, .int .i64 0], faultV ⟨#[101, 110, 100]⟩ aF]) (by simp [results, Tryz.results20, go_sem, y0, y1, y2, y3, y4]; done) rfl ?_
      exact ⟨⟨_, rfl⟩, B9⟩
  have b1 : (v == [80, 79, 82, 84]) = false := beq_eq_false_iff_ne.2 hv
  rcases Decidable.em (v = eprtV) with hw | hw
  · subst hw
    have HF := Lib.hid (fun W => ext_of s hs x k h W)
    clear h hs b1
    obtain ⟨a, b, c, d, p⟩ := x
    have R := Lib.hid R0
    clear R0
    go_enter Tryz.func20, Tryz.ntmps20
    go_wp2_with (go_at_call 44; refine (HF.out _ (E.below (((((Below.refl w.heap.size w)).alloc (Below.refl w.heap.size w).size (.cells #[.string ⟨#[69, 80, 82, 84]⟩, .string ⟨s.toArray⟩] 23))).alloc (by have := (Below.refl w.heap.size w).size; simp <;> omega) (.cells #[.int .u8 0, .int .u8 0, .int .u8 0, .int .u8 0, .int .i64 0] 30))) aV aF aK aD (R.out.below (((((Below.refl w.heap.size w)).alloc (Below.refl w.heap.size w).size (.cells #[.string ⟨#[69, 80, 82, 84]⟩, .string ⟨s.toArray⟩] 23))).alloc (by have := (Below.refl w.heap.size w).size; simp <;> omega) (.cells #[.int .u8 0, .int .u8 0, .int .u8 0, .int .u8 0, .int .i64 0] 30)))).mono ?_; rintro e w1 ⟨⟨q, rfl⟩, b1⟩; have B1 := Lib.hid (((((((Below.refl w.heap.size w)).alloc (Below.refl w.heap.size w).size (.cells #[.string ⟨#[69, 80, 82, 84]⟩, .string ⟨s.toArray⟩] 23))).alloc (by have := (Below.refl w.heap.size w).size; simp <;> omega) (.cells #[.int .u8 0, .int .u8 0, .int .u8 0, .int .u8 0, .int .i64 0] 30))).trans (b1.mono (by have := (((((Below.refl w.heap.size w)).alloc (Below.refl w.heap.size w).size (.cells #[.string ⟨#[69, 80, 82, 84]⟩, .string ⟨s.toArray⟩] 23))).alloc (by have := (Below.refl w.heap.size w).size; simp <;> omega) (.cells #[.int .u8 0, .int .u8 0, .int .u8 0, .int .u8 0, .int .i64 0] 30)).size; first | exact this | (simp <;> omega)))); have C1 : Hid (IsRow w1 (w.heap.size) 23 #[.string ⟨#[69, 80, 82, 84]⟩, .string ⟨s.toArray⟩]) := Lib.hid (by first | exact ((IsRow.made w 23 #[.string ⟨#[69, 80, 82, 84]⟩, .string ⟨s.toArray⟩]).alloc (.cells #[.int .u8 0, .int .u8 0, .int .u8 0, .int .u8 0, .int .i64 0] 30)).call b1 | (have h := ((IsRow.made w 23 #[.string ⟨#[69, 80, 82, 84]⟩, .string ⟨s.toArray⟩]).alloc (.cells #[.int .u8 0, .int .u8 0, .int .u8 0, .int .u8 0, .int .i64 0] 30)).call b1; simp at h; exact h)); have R1 : Hid (IsRow w1 (w.heap.size + 1) 30 #[.int .u8 0, .int .u8 0, .int .u8 0, .int .u8 0, .int .i64 0]) := Lib.hid (by first | exact (IsRow.made (w.alloc (.cells #[.string ⟨#[69, 80, 82, 84]⟩, .string ⟨s.toArray⟩] 23)) 30 #[.int .u8 0, .int .u8 0, .int .u8 0, .int .u8 0, .int .i64 0]).call b1 | (have h := (IsRow.made (w.alloc (.cells #[.string ⟨#[69, 80, 82, 84]⟩, .string ⟨s.toArray⟩] 23)) 30 #[.int .u8 0, .int .u8 0, .int .u8 0, .int .u8 0, .int .i64 0]).call b1; simp at h; exact h)); have Rc0 : w1.cell? ⟨w.heap.size + 1, 0, none⟩ = some (.int .u8 0) := R1.out.cell 0; have Rf0 : w1.frozen? ⟨w.heap.size + 1, 0, none⟩ = false := R1.out.free 0; have Rc1 : w1.cell? ⟨w.heap.size + 1, 1, none⟩ = some (.int .u8 0) := R1.out.cell 1; have Rf1 : w1.frozen? ⟨w.heap.size + 1, 1, none⟩ = false := R1.out.free 1; have Rc2 : w1.cell? ⟨w.heap.size + 1, 2, none⟩ = some (.int .u8 0) := R1.out.cell 2; have Rf2 : w1.frozen? ⟨w.heap.size + 1, 2, none⟩ = false := R1.out.free 2; have Rc3 : w1.cell? ⟨w.heap.size + 1, 3, none⟩ = some (.int .u8 0) := R1.out.cell 3; have Rf3 : w1.frozen? ⟨w.heap.size + 1, 3, none⟩ = false := R1.out.free 3; have Rc4 : w1.cell? ⟨w.heap.size + 1, 4, none⟩ = some (.int .i64 0) := R1.out.cell 4; have Rf4 : w1.frozen? ⟨w.heap.size + 1, 4, none⟩ = false := R1.out.free 4; have Rlt : w.heap.size + 1 < w1.heap.size := R1.out.lt; clear HF)
    obtain ⟨W9, hW⟩ : ∃ W9, (World.setCell (World.setCell (World.setCell (World.setCell (World.setCell w1 ⟨w.heap.size + 1, 0, none⟩ (.int .u8 a)) ⟨w.heap.size + 1, 1, none⟩ (.int .u8 b)) ⟨w.heap.size + 1, 2, none⟩ (.int .u8 c)) ⟨w.heap.size + 1, 3, none⟩ (.int .u8 d)) ⟨w.heap.size + 1, 4, none⟩ (.int .i64 p)) = W9 := ⟨_, rfl⟩
    have R9 : IsRow W9 (w.heap.size + 1) 30 #[.int .u8 a, .int .u8 b, .int .u8 c, .int .u8 d, .int .i64 p] := by
      rw [← hW]
      exact (((((R1.out.set 0 (.int .u8 a)).set 1 (.int .u8 b)).set 2 (.int .u8 c)).set 3 (.int .u8 d)).set 4 (.int .i64 p))
    have B9 : Below w.heap.size w W9 := by
      rw [← hW]
      exact ((((((((((B1.out).setCell (p := ⟨w.heap.size + 1, 0, none⟩) (by show w.heap.size ≤ w.heap.size + 1; (try have hs1 := B1.out.size); omega) (.int .u8 a))).setCell (p := ⟨w.heap.size + 1, 1, none⟩) (by show w.heap.size ≤ w.heap.size + 1; (try have hs1 := B1.out.size); omega) (.int .u8 b))).setCell (p := ⟨w.heap.size + 1, 2, none⟩) (by show w.heap.size ≤ w.heap.size + 1; (try have hs1 := B1.out.size); omega) (.int .u8 c))).setCell (p := ⟨w.heap.size + 1, 3, none⟩) (by show w.heap.size ≤ w.heap.size + 1; (try have hs1 := B1.out.size); omega) (.int .u8 d))).setCell (p := ⟨w.heap.size + 1, 4, none⟩) (by show w.heap.size ≤ w.heap.size + 1; (try have hs1 := B1.out.size); omega) (.int .i64 p))
    rw [hW]
    clear Rc0 Rf0 Rc1 Rf1 Rc2 Rf2 Rc3 Rf3 Rc4 Rf4 Rlt
    have y0 : W9.cell? ⟨w.heap.size + 1, 0, none⟩ = some (.int .u8 a) := R9.cell 0
    have y1 : W9.cell? ⟨w.heap.size + 1, 1, none⟩ = some (.int .u8 b) := R9.cell 1
    have y2 : W9.cell? ⟨w.heap.size + 1, 2, none⟩ = some (.int .u8 c) := R9.cell 2
    have y3 : W9.cell? ⟨w.heap.size + 1, 3, none⟩ = some (.int .u8 d) := R9.cell 3
    have y4 : W9.cell? ⟨w.heap.size + 1, 4, none⟩ = some (.int .i64 p) := R9.cell 4
    refine bodyPost_ret (v := .tuple #[.agg #[.int .u8 a, .int .u8 b, .int .u8 c, .int .u8 d, .int .i64 p], errV aV aF aK aD q k]) (by simp [results, Tryz.results20, go_sem, y0, y1, y2, y3, y4]; done) rfl ?_
    exact ⟨⟨_, rfl⟩, B9⟩
  have b2 : (v == [69, 80, 82, 84]) = false := beq_eq_false_iff_ne.2 hw
  have e : readC v s = (En.z, 1) := by unfold readC; rw [if_neg hv, if_neg hw]
  rw [e] at h
  injection h with i1 i2
  subst i1; subst i2
  clear e hv hw
  have R := Lib.hid R0
  clear R0
  go_enter Tryz.func20, Tryz.ntmps20
  go_wp2_with fail
  obtain ⟨w1, hv⟩ : ∃ V, ((w.alloc (.cells #[.string ⟨v.toArray⟩, .string ⟨s.toArray⟩] 23)).alloc (.cells #[.int .u8 0, .int .u8 0, .int .u8 0, .int .u8 0, .int .i64 0] 30)) = V := ⟨_, rfl⟩
  have B1 := Lib.hid (show Below w.heap.size w w1 by rw [← hv]; exact (((((Below.refl w.heap.size w)).alloc (Below.refl w.heap.size w).size (.cells #[.string ⟨v.toArray⟩, .string ⟨s.toArray⟩] 23))).alloc (by have := (Below.refl w.heap.size w).size; simp <;> omega) (.cells #[.int .u8 0, .int .u8 0, .int .u8 0, .int .u8 0, .int .i64 0] 30)))
  have C1 : Hid (IsRow w1 (w.heap.size) 23 #[.string ⟨v.toArray⟩, .string ⟨s.toArray⟩]) := Lib.hid (by rw [← hv]; first | exact ((IsRow.made w 23 #[.string ⟨v.toArray⟩, .string ⟨s.toArray⟩]).alloc (.cells #[.int .u8 0, .int .u8 0, .int .u8 0, .int .u8 0, .int .i64 0] 30)) | (have h := ((IsRow.made w 23 #[.string ⟨v.toArray⟩, .string ⟨s.toArray⟩]).alloc (.cells #[.int .u8 0, .int .u8 0, .int .u8 0, .int .u8 0, .int .i64 0] 30)); simp at h; exact h))
  have R1 : Hid (IsRow w1 (w.heap.size + 1) 30 #[.int .u8 0, .int .u8 0, .int .u8 0, .int .u8 0, .int .i64 0]) := Lib.hid (by rw [← hv]; first | exact (IsRow.made (w.alloc (.cells #[.string ⟨v.toArray⟩, .string ⟨s.toArray⟩] 23)) 30 #[.int .u8 0, .int .u8 0, .int .u8 0, .int .u8 0, .int .i64 0]) | (have h := (IsRow.made (w.alloc (.cells #[.string ⟨v.toArray⟩, .string ⟨s.toArray⟩] 23)) 30 #[.int .u8 0, .int .u8 0, .int .u8 0, .int .u8 0, .int .i64 0]); simp at h; exact h))
  rw [hv]
  clear hv
  have Rc0 : w1.cell? ⟨w.heap.size + 1, 0, none⟩ = some (.int .u8 0) := R1.out.cell 0
  have Rf0 : w1.frozen? ⟨w.heap.size + 1, 0, none⟩ = false := R1.out.free 0
  have Rc1 : w1.cell? ⟨w.heap.size + 1, 1, none⟩ = some (.int .u8 0) := R1.out.cell 1
  have Rf1 : w1.frozen? ⟨w.heap.size + 1, 1, none⟩ = false := R1.out.free 1
  have Rc2 : w1.cell? ⟨w.heap.size + 1, 2, none⟩ = some (.int .u8 0) := R1.out.cell 2
  have Rf2 : w1.frozen? ⟨w.heap.size + 1, 2, none⟩ = false := R1.out.free 2
  have Rc3 : w1.cell? ⟨w.heap.size + 1, 3, none⟩ = some (.int .u8 0) := R1.out.cell 3
  have Rf3 : w1.frozen? ⟨w.heap.size + 1, 3, none⟩ = false := R1.out.free 3
  have Rc4 : w1.cell? ⟨w.heap.size + 1, 4, none⟩ = some (.int .i64 0) := R1.out.cell 4
  have Rf4 : w1.frozen? ⟨w.heap.size + 1, 4, none⟩ = false := R1.out.free 4
  have Rlt : w.heap.size + 1 < w1.heap.size := R1.out.lt
  have kf : w1.cell? ⟨0, 0, none⟩ = some (newV aV) := (R.out.below B1.out).verb
  have kg : (World.setCell (World.setCell (World.setCell (World.setCell (World.setCell w1 ⟨w.heap.size + 1, 0, none⟩ (.int .u8 0)) ⟨w.heap.size + 1, 1, none⟩ (.int .u8 0)) ⟨w.heap.size + 1, 2, none⟩ (.int .u8 0)) ⟨w.heap.size + 1, 3, none⟩ (.int .u8 0)) ⟨w.heap.size + 1, 4, none⟩ (.int .i64 0)).cell? ⟨0, 0, none⟩ = some (newV aV) := (R.out.below ((((((((((B1.out).setCell (p := ⟨w.heap.size + 1, 0, none⟩) (by show w.heap.size ≤ w.heap.size + 1; (try have hs1 := B1.out.size); omega) (.int .u8 0))).setCell (p := ⟨w.heap.size + 1, 1, none⟩) (by show w.heap.size ≤ w.heap.size + 1; (try have hs1 := B1.out.size); omega) (.int .u8 0))).setCell (p := ⟨w.heap.size + 1, 2, none⟩) (by show w.heap.size ≤ w.heap.size + 1; (try have hs1 := B1.out.size); omega) (.int .u8 0))).setCell (p := ⟨w.heap.size + 1, 3, none⟩) (by show w.heap.size ≤ w.heap.size + 1; (try have hs1 := B1.out.size); omega) (.int .u8 0))).setCell (p := ⟨w.heap.size + 1, 4, none⟩) (by show w.heap.size ≤ w.heap.size + 1; (try have hs1 := B1.out.size); omega) (.int .i64 0))).verb
  go_region
  go_wp2_with fail
  obtain ⟨W9, hW⟩ : ∃ W9, (World.drew (World.setCell (World.setCell (World.setCell (World.setCell (World.setCell w1 ⟨w.heap.size + 1, 0, none⟩ (.int .u8 0)) ⟨w.heap.size + 1, 1, none⟩ (.int .u8 0)) ⟨w.heap.size + 1, 2, none⟩ (.int .u8 0)) ⟨w.heap.size + 1, 3, none⟩ (.int .u8 0)) ⟨w.heap.size + 1, 4, none⟩ (.int .i64 0))) = W9 := ⟨_, rfl⟩
  have R9 : IsRow W9 (w.heap.size + 1) 30 #[.int .u8 0, .int .u8 0, .int .u8 0, .int .u8 0, .int .i64 0] := by
    rw [← hW]
    exact ((((((R1.out.set 0 (.int .u8 0)).set 1 (.int .u8 0)).set 2 (.int .u8 0)).set 3 (.int .u8 0)).set 4 (.int .i64 0)).drew)
  have B9 : Below w.heap.size w W9 := by
    rw [← hW]
    exact (((((((((((B1.out).setCell (p := ⟨w.heap.size + 1, 0, none⟩) (by show w.heap.size ≤ w.heap.size + 1; (try have hs1 := B1.out.size); omega) (.int .u8 0))).setCell (p := ⟨w.heap.size + 1, 1, none⟩) (by show w.heap.size ≤ w.heap.size + 1; (try have hs1 := B1.out.size); omega) (.int .u8 0))).setCell (p := ⟨w.heap.size + 1, 2, none⟩) (by show w.heap.size ≤ w.heap.size + 1; (try have hs1 := B1.out.size); omega) (.int .u8 0))).setCell (p := ⟨w.heap.size + 1, 3, none⟩) (by show w.heap.size ≤ w.heap.size + 1; (try have hs1 := B1.out.size); omega) (.int .u8 0))).setCell (p := ⟨w.heap.size + 1, 4, none⟩) (by show w.heap.size ≤ w.heap.size + 1; (try have hs1 := B1.out.size); omega) (.int .i64 0))).drew
  rw [hW]
  clear Rc0 Rf0 Rc1 Rf1 Rc2 Rf2 Rc3 Rf3 Rc4 Rf4 Rlt
  have y0 : W9.cell? ⟨w.heap.size + 1, 0, none⟩ = some (.int .u8 0) := R9.cell 0
  have y1 : W9.cell? ⟨w.heap.size + 1, 1, none⟩ = some (.int .u8 0) := R9.cell 1
  have y2 : W9.cell? ⟨w.heap.size + 1, 2, none⟩ = some (.int .u8 0) := R9.cell 2
  have y3 : W9.cell? ⟨w.heap.size + 1, 3, none⟩ = some (.int .u8 0) := R9.cell 3
  have y4 : W9.cell? ⟨w.heap.size + 1, 4, none⟩ = some (.int .i64 0) := R9.cell 4
  refine bodyPost_ret (v := .tuple #[.agg #[.int .u8 0, .int .u8 0, .int .u8 0, .int .u8 0, .int .i64 0], faultV ⟨#[118, 101, 114, 98]⟩ aV]) (by simp [results, Tryz.results20, go_sem, y0, y1, y2, y3, y4]; done) rfl ?_
  exact ⟨by first | rfl | exact ⟨_, rfl⟩, B9⟩

set_option maxHeartbeats 4000000 in
theorem point_of (v s : List UInt8) (hs : s.length ≤ 1000000) (h0 h1 h2 h3 : Int) (y : En) (k : Int) (h : pointE v s h0 h1 h2 h3 = (y, k)) (w : World) (E : Env w) : Calls Tryz.prog 9 #[cmdV v s, hoV h0 h1 h2 h3] w fun e w' => e = .returned (.tuple #[enV y, .int .i64 k]) ∧ Below w.heap.size w w' := by
  obtain ⟨x, no, hr⟩ : ∃ x no, readC v s = (x, no) := ⟨_, _, rfl⟩
  have hno := readC_no v s
  have e : ownN x no h0 h1 h2 h3 = (y, k) := by rw [← h, point_read, hr]
  rw [hr] at hno
  have HC := Lib.hid (fun W => cmd_of v s hs x no hr W)
  have HO := Lib.hid (fun q W EW aV aF aK aD RW => own_of x y no k h0 h1 h2 h3 q hno e W EW aV aF aK aD RW)
  clear h e hr hno
  obtain ⟨a, b, c, d, p⟩ := x
  obtain ⟨A, B, C, D, P⟩ := y
  obtain ⟨aV, aF, aK, aD, R0⟩ := E.terrs
  have R := Lib.hid R0
  clear R0
  go_enter Tryz.func9, Tryz.ntmps9
  go_wp2_with (first
    | (go_at_call 20; refine (HC.out _ (E.below (((((((Below.refl w.heap.size w)).alloc (Below.refl w.heap.size w).size (.cells #[.string ⟨v.toArray⟩, .string ⟨s.toArray⟩] 23))).alloc (by have := (Below.refl w.heap.size w).size; simp <;> omega) (.cells #[.int .u8 h0, .int .u8 h1, .int .u8 h2, .int .u8 h3] 28))).alloc (by have := (Below.refl w.heap.size w).size; simp <;> omega) (.cells #[.int .u8 0, .int .u8 0, .int .u8 0, .int .u8 0, .int .i64 0] 30))) aV aF aK aD (R.out.below (((((((Below.refl w.heap.size w)).alloc (Below.refl w.heap.size w).size (.cells #[.string ⟨v.toArray⟩, .string ⟨s.toArray⟩] 23))).alloc (by have := (Below.refl w.heap.size w).size; simp <;> omega) (.cells #[.int .u8 h0, .int .u8 h1, .int .u8 h2, .int .u8 h3] 28))).alloc (by have := (Below.refl w.heap.size w).size; simp <;> omega) (.cells #[.int .u8 0, .int .u8 0, .int .u8 0, .int .u8 0, .int .i64 0] 30)))).mono ?_; rintro e w1 ⟨⟨q, rfl⟩, b1⟩; have B1 := Lib.hid (((((((((Below.refl w.heap.size w)).alloc (Below.refl w.heap.size w).size (.cells #[.string ⟨v.toArray⟩, .string ⟨s.toArray⟩] 23))).alloc (by have := (Below.refl w.heap.size w).size; simp <;> omega) (.cells #[.int .u8 h0, .int .u8 h1, .int .u8 h2, .int .u8 h3] 28))).alloc (by have := (Below.refl w.heap.size w).size; simp <;> omega) (.cells #[.int .u8 0, .int .u8 0, .int .u8 0, .int .u8 0, .int .i64 0] 30))).trans (b1.mono (by have := (((((((Below.refl w.heap.size w)).alloc (Below.refl w.heap.size w).size (.cells #[.string ⟨v.toArray⟩, .string ⟨s.toArray⟩] 23))).alloc (by have := (Below.refl w.heap.size w).size; simp <;> omega) (.cells #[.int .u8 h0, .int .u8 h1, .int .u8 h2, .int .u8 h3] 28))).alloc (by have := (Below.refl w.heap.size w).size; simp <;> omega) (.cells #[.int .u8 0, .int .u8 0, .int .u8 0, .int .u8 0, .int .i64 0] 30)).size; first | exact this | (simp <;> omega)))); have C1 : Hid (IsRow w1 (w.heap.size) 23 #[.string ⟨v.toArray⟩, .string ⟨s.toArray⟩]) := Lib.hid (by first | exact (((IsRow.made w 23 #[.string ⟨v.toArray⟩, .string ⟨s.toArray⟩]).alloc (.cells #[.int .u8 h0, .int .u8 h1, .int .u8 h2, .int .u8 h3] 28)).alloc (.cells #[.int .u8 0, .int .u8 0, .int .u8 0, .int .u8 0, .int .i64 0] 30)).call b1 | (have h := (((IsRow.made w 23 #[.string ⟨v.toArray⟩, .string ⟨s.toArray⟩]).alloc (.cells #[.int .u8 h0, .int .u8 h1, .int .u8 h2, .int .u8 h3] 28)).alloc (.cells #[.int .u8 0, .int .u8 0, .int .u8 0, .int .u8 0, .int .i64 0] 30)).call b1; simp at h; exact h)); have H1 : Hid (IsRow w1 (w.heap.size + 1) 28 #[.int .u8 h0, .int .u8 h1, .int .u8 h2, .int .u8 h3]) := Lib.hid (by first | exact ((IsRow.made (w.alloc (.cells #[.string ⟨v.toArray⟩, .string ⟨s.toArray⟩] 23)) 28 #[.int .u8 h0, .int .u8 h1, .int .u8 h2, .int .u8 h3]).alloc (.cells #[.int .u8 0, .int .u8 0, .int .u8 0, .int .u8 0, .int .i64 0] 30)).call b1 | (have h := ((IsRow.made (w.alloc (.cells #[.string ⟨v.toArray⟩, .string ⟨s.toArray⟩] 23)) 28 #[.int .u8 h0, .int .u8 h1, .int .u8 h2, .int .u8 h3]).alloc (.cells #[.int .u8 0, .int .u8 0, .int .u8 0, .int .u8 0, .int .i64 0] 30)).call b1; simp at h; exact h)); have R1 : Hid (IsRow w1 (w.heap.size + 2) 30 #[.int .u8 0, .int .u8 0, .int .u8 0, .int .u8 0, .int .i64 0]) := Lib.hid (by first | exact (IsRow.made ((w.alloc (.cells #[.string ⟨v.toArray⟩, .string ⟨s.toArray⟩] 23)).alloc (.cells #[.int .u8 h0, .int .u8 h1, .int .u8 h2, .int .u8 h3] 28)) 30 #[.int .u8 0, .int .u8 0, .int .u8 0, .int .u8 0, .int .i64 0]).call b1 | (have h := (IsRow.made ((w.alloc (.cells #[.string ⟨v.toArray⟩, .string ⟨s.toArray⟩] 23)).alloc (.cells #[.int .u8 h0, .int .u8 h1, .int .u8 h2, .int .u8 h3] 28)) 30 #[.int .u8 0, .int .u8 0, .int .u8 0, .int .u8 0, .int .i64 0]).call b1; simp at h; exact h)); have Hc0 : w1.cell? ⟨w.heap.size + 1, 0, none⟩ = some (.int .u8 h0) := H1.out.cell 0; have Hf0 : w1.frozen? ⟨w.heap.size + 1, 0, none⟩ = false := H1.out.free 0; have Hc1 : w1.cell? ⟨w.heap.size + 1, 1, none⟩ = some (.int .u8 h1) := H1.out.cell 1; have Hf1 : w1.frozen? ⟨w.heap.size + 1, 1, none⟩ = false := H1.out.free 1; have Hc2 : w1.cell? ⟨w.heap.size + 1, 2, none⟩ = some (.int .u8 h2) := H1.out.cell 2; have Hf2 : w1.frozen? ⟨w.heap.size + 1, 2, none⟩ = false := H1.out.free 2; have Hc3 : w1.cell? ⟨w.heap.size + 1, 3, none⟩ = some (.int .u8 h3) := H1.out.cell 3; have Hf3 : w1.frozen? ⟨w.heap.size + 1, 3, none⟩ = false := H1.out.free 3; have Hlt : w.heap.size + 1 < w1.heap.size := H1.out.lt; have Rc0 : w1.cell? ⟨w.heap.size + 2, 0, none⟩ = some (.int .u8 0) := R1.out.cell 0; have Rf0 : w1.frozen? ⟨w.heap.size + 2, 0, none⟩ = false := R1.out.free 0; have Rc1 : w1.cell? ⟨w.heap.size + 2, 1, none⟩ = some (.int .u8 0) := R1.out.cell 1; have Rf1 : w1.frozen? ⟨w.heap.size + 2, 1, none⟩ = false := R1.out.free 1; have Rc2 : w1.cell? ⟨w.heap.size + 2, 2, none⟩ = some (.int .u8 0) := R1.out.cell 2; have Rf2 : w1.frozen? ⟨w.heap.size + 2, 2, none⟩ = false := R1.out.free 2; have Rc3 : w1.cell? ⟨w.heap.size + 2, 3, none⟩ = some (.int .u8 0) := R1.out.cell 3; have Rf3 : w1.frozen? ⟨w.heap.size + 2, 3, none⟩ = false := R1.out.free 3; have Rc4 : w1.cell? ⟨w.heap.size + 2, 4, none⟩ = some (.int .i64 0) := R1.out.cell 4; have Rf4 : w1.frozen? ⟨w.heap.size + 2, 4, none⟩ = false := R1.out.free 4; have Rlt : w.heap.size + 2 < w1.heap.size := R1.out.lt; clear HC)
    | (go_at_call 21; refine (HO.out q _ (E.below ((B1.out).alloc B1.out.size (.cells #[.int .u8 a, .int .u8 b, .int .u8 c, .int .u8 d, .int .i64 p] 30))) aV aF aK aD (R.out.below ((B1.out).alloc B1.out.size (.cells #[.int .u8 a, .int .u8 b, .int .u8 c, .int .u8 d, .int .i64 p] 30)))).mono ?_; rintro e w2 ⟨rfl, b2⟩; have B2 := Lib.hid ((((B1.out).alloc B1.out.size (.cells #[.int .u8 a, .int .u8 b, .int .u8 c, .int .u8 d, .int .i64 p] 30))).trans (b2.mono (by have := ((B1.out).alloc B1.out.size (.cells #[.int .u8 a, .int .u8 b, .int .u8 c, .int .u8 d, .int .i64 p] 30)).size; first | exact this | (simp <;> omega)))); have C2 : Hid (IsRow w2 (w.heap.size) 23 #[.string ⟨v.toArray⟩, .string ⟨s.toArray⟩]) := Lib.hid (by first | exact (C1.out.alloc (.cells #[.int .u8 a, .int .u8 b, .int .u8 c, .int .u8 d, .int .i64 p] 30)).call b2 | (have h := (C1.out.alloc (.cells #[.int .u8 a, .int .u8 b, .int .u8 c, .int .u8 d, .int .i64 p] 30)).call b2; simp at h; exact h)); have H2 : Hid (IsRow w2 (w.heap.size + 1) 28 #[.int .u8 h0, .int .u8 h1, .int .u8 h2, .int .u8 h3]) := Lib.hid (by first | exact (H1.out.alloc (.cells #[.int .u8 a, .int .u8 b, .int .u8 c, .int .u8 d, .int .i64 p] 30)).call b2 | (have h := (H1.out.alloc (.cells #[.int .u8 a, .int .u8 b, .int .u8 c, .int .u8 d, .int .i64 p] 30)).call b2; simp at h; exact h)); have R2 : Hid (IsRow w2 (w.heap.size + 2) 30 #[.int .u8 0, .int .u8 0, .int .u8 0, .int .u8 0, .int .i64 0]) := Lib.hid (by first | exact (R1.out.alloc (.cells #[.int .u8 a, .int .u8 b, .int .u8 c, .int .u8 d, .int .i64 p] 30)).call b2 | (have h := (R1.out.alloc (.cells #[.int .u8 a, .int .u8 b, .int .u8 c, .int .u8 d, .int .i64 p] 30)).call b2; simp at h; exact h)); have X2 : Hid (IsRow w2 (w1.heap.size) 30 #[.int .u8 a, .int .u8 b, .int .u8 c, .int .u8 d, .int .i64 p]) := Lib.hid (by first | exact (IsRow.made w1 30 #[.int .u8 a, .int .u8 b, .int .u8 c, .int .u8 d, .int .i64 p]).call b2 | (have h := (IsRow.made w1 30 #[.int .u8 a, .int .u8 b, .int .u8 c, .int .u8 d, .int .i64 p]).call b2; simp at h; exact h)); clear Hc0 Hf0 Hc1 Hf1 Hc2 Hf2 Hc3 Hf3 Hlt Rc0 Rf0 Rc1 Rf1 Rc2 Rf2 Rc3 Rf3 Rc4 Rf4 Rlt; have Rc0 : w2.cell? ⟨w.heap.size + 2, 0, none⟩ = some (.int .u8 0) := R2.out.cell 0; have Rf0 : w2.frozen? ⟨w.heap.size + 2, 0, none⟩ = false := R2.out.free 0; have Rc1 : w2.cell? ⟨w.heap.size + 2, 1, none⟩ = some (.int .u8 0) := R2.out.cell 1; have Rf1 : w2.frozen? ⟨w.heap.size + 2, 1, none⟩ = false := R2.out.free 1; have Rc2 : w2.cell? ⟨w.heap.size + 2, 2, none⟩ = some (.int .u8 0) := R2.out.cell 2; have Rf2 : w2.frozen? ⟨w.heap.size + 2, 2, none⟩ = false := R2.out.free 2; have Rc3 : w2.cell? ⟨w.heap.size + 2, 3, none⟩ = some (.int .u8 0) := R2.out.cell 3; have Rf3 : w2.frozen? ⟨w.heap.size + 2, 3, none⟩ = false := R2.out.free 3; have Rc4 : w2.cell? ⟨w.heap.size + 2, 4, none⟩ = some (.int .i64 0) := R2.out.cell 4; have Rf4 : w2.frozen? ⟨w.heap.size + 2, 4, none⟩ = false := R2.out.free 4; have Rlt : w.heap.size + 2 < w2.heap.size := R2.out.lt; clear HO))
  obtain ⟨W9, hW⟩ : ∃ W9, (World.setCell (World.setCell (World.setCell (World.setCell (World.setCell w2 ⟨w.heap.size + 2, 0, none⟩ (.int .u8 A)) ⟨w.heap.size + 2, 1, none⟩ (.int .u8 B)) ⟨w.heap.size + 2, 2, none⟩ (.int .u8 C)) ⟨w.heap.size + 2, 3, none⟩ (.int .u8 D)) ⟨w.heap.size + 2, 4, none⟩ (.int .i64 P)) = W9 := ⟨_, rfl⟩
  have R9 : IsRow W9 (w.heap.size + 2) 30 #[.int .u8 A, .int .u8 B, .int .u8 C, .int .u8 D, .int .i64 P] := by
    rw [← hW]
    exact (((((R2.out.set 0 (.int .u8 A)).set 1 (.int .u8 B)).set 2 (.int .u8 C)).set 3 (.int .u8 D)).set 4 (.int .i64 P))
  have B9 : Below w.heap.size w W9 := by
    rw [← hW]
    exact ((((((((((B2.out).setCell (p := ⟨w.heap.size + 2, 0, none⟩) (by show w.heap.size ≤ w.heap.size + 2; (try have hs1 := B1.out.size); (try have hs2 := B2.out.size); omega) (.int .u8 A))).setCell (p := ⟨w.heap.size + 2, 1, none⟩) (by show w.heap.size ≤ w.heap.size + 2; (try have hs1 := B1.out.size); (try have hs2 := B2.out.size); omega) (.int .u8 B))).setCell (p := ⟨w.heap.size + 2, 2, none⟩) (by show w.heap.size ≤ w.heap.size + 2; (try have hs1 := B1.out.size); (try have hs2 := B2.out.size); omega) (.int .u8 C))).setCell (p := ⟨w.heap.size + 2, 3, none⟩) (by show w.heap.size ≤ w.heap.size + 2; (try have hs1 := B1.out.size); (try have hs2 := B2.out.size); omega) (.int .u8 D))).setCell (p := ⟨w.heap.size + 2, 4, none⟩) (by show w.heap.size ≤ w.heap.size + 2; (try have hs1 := B1.out.size); (try have hs2 := B2.out.size); omega) (.int .i64 P))
  rw [hW]
  clear Rc0 Rf0 Rc1 Rf1 Rc2 Rf2 Rc3 Rf3 Rc4 Rf4 Rlt
  have y0 : W9.cell? ⟨w.heap.size + 2, 0, none⟩ = some (.int .u8 A) := R9.cell 0
  have y1 : W9.cell? ⟨w.heap.size + 2, 1, none⟩ = some (.int .u8 B) := R9.cell 1
  have y2 : W9.cell? ⟨w.heap.size + 2, 2, none⟩ = some (.int .u8 C) := R9.cell 2
  have y3 : W9.cell? ⟨w.heap.size + 2, 3, none⟩ = some (.int .u8 D) := R9.cell 3
  have y4 : W9.cell? ⟨w.heap.size + 2, 4, none⟩ = some (.int .i64 P) := R9.cell 4
  refine bodyPost_ret (v := .tuple #[.agg #[.int .u8 A, .int .u8 B, .int .u8 C, .int .u8 D, .int .i64 P], .int .i64 k]) (by simp [results, Tryz.results9, go_sem, y0, y1, y2, y3, y4]; done) rfl ?_
  exact ⟨by first | rfl | (simp; done), B9⟩


#print axioms own_of
#print axioms cmd_of
#print axioms point_of
end Go.Proofs.YtdimfppijcebjaaGreatDoor.Tu
