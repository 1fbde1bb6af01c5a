/- The chapter's example of layer 5: the law's own test that the program is awake. -/
import Derived.Test.YtkbekabpbgdhfaaDoorTelRepl
namespace Go.Proofs.YtkbekabpbgdhfaaDoor.Tel
open Go.Proofs.YtkbekabpbgdhfaaDoor
open Go.ChangeShapes Go.WideShapes Go.ChangeAt Go.RowKit Go.Sort

theorem app_list (a b : List UInt8) : (ByteArray.mk a.toArray ++ ByteArray.mk b.toArray).toList = a ++ b := by
  have e : (ByteArray.mk a.toArray ++ ByteArray.mk b.toArray) = ⟨(a ++ b).toArray⟩ := by
    apply ByteArray.ext
    simp
  rw [e, Lib.toList_data]
theorem run_example : run (norm 0) [97, 255, 253, 1, 98] = (0, [97, 98], 0) := by decide
theorem esc_example : esc [255] = [255, 255] := by decide

set_option maxHeartbeats 2000000 in
set_option maxRecDepth 100000 in
theorem awake_any (w : World) : Calls Tryd.prog 8 #[] w fun e w' => e = .returned (.bool true) ∧ Below w.heap.size w w' := by
  have S := Lib.hid (fun W (v : Value) (h : BytesIs W v [97, 255, 253, 1, 98]) => strip_any 0 v [97, 255, 253, 1, 98] (by decide) W h)
  unfold StripPost at S
  rw [run_example] at S
  have X := Lib.hid (fun W (v : Value) (h : BytesIs W v [255]) => escape_any v [255] (by decide) W h)
  unfold EscPost at X
  rw [esc_example] at X
  have b0 : Below w.heap.size w (w.alloc (.cells ([97, 255, 253, 1, 98].map byteV).toArray 5)) := (Below.refl _ _).alloc (Nat.le_refl _) _
  have B0 := Lib.hid b0
  clear b0
  go_enter Tryd.func8, Tryd.ntmps8
  go_wp2_with (first
    | (go_at_call 9; refine (S.out _ _ (bytes_new w [97, 255, 253, 1, 98] (by decide))).mono ?_; rintro e w1 ⟨x, rfl, hx, b1⟩; obtain ⟨p1, c1, rfl⟩ := hx.form; have q1 : (convert 22 9 (.slice p1 2 c1)).run Tryd.prog w1 = .ok (.string ⟨#[97, 98]⟩) w1 := str_of_bytes hx)
    | (go_at_call 11; refine (X.out _ _ (bytes_new w1 [255] (by decide))).mono ?_; rintro e w2 ⟨x2, rfl, hx2, b2⟩; obtain ⟨p2, c2, rfl⟩ := hx2.form))
  go_ret
  exact ⟨rfl, below_trans (below_trans B0.out b1) (((Below.refl _ _).alloc (Nat.le_refl _) _).trans (b2.mono (by simp)))⟩

#print axioms awake_any
end Go.Proofs.YtkbekabpbgdhfaaDoor.Tel
