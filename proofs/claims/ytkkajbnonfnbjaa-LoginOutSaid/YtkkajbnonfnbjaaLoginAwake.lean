/- What the laws of layer 17 lean on: awake, and a tenant in a new block (gen-stage17.py). -/
import Derived.Test.YtkkajbnonfnbjaaLoginHeard
import Derived.Test.YtkkajbnonfnbjaaLoginRef
import Derived.BigQuiet
namespace Go.Proofs.Ytkkajbnonfnbjaa.Lo
open Go.Proofs.Ytkkajbnonfnbjaa Go.Proofs.Ytkkajbnonfnbjaa.Ro
open Go Go.ChangeShapes Go.WideShapes Go.ChangeAt Go.RowKit
set_option maxRecDepth 100000
set_option linter.unusedSimpArgs false
set_option linter.unusedVariables false

abbrev str (l : List UInt8) : Value := .string ⟨l.toArray⟩
theorem size_mk (l : List UInt8) : (ByteArray.mk l.toArray).size = l.length := by show l.toArray.size = l.length; simp
theorem one_host (w : World) (t : TypeId) (cs : Array Value) (a : List UInt8) (x : Value) (h0 : cs[0]? = some x) (h1 : cs[1]? = some (.string ⟨a.toArray⟩)) :
    HostsIs (w.alloc (.cells cs t)) (.slice (some ⟨w.heap.size, 0, none⟩) 1 1) [a] := by
  refine Or.inr ⟨⟨w.heap.size, 0, none⟩, 1, rfl, by unfold maxLen; show 1 ≤ _; omega, fun i hi => ?_⟩
  have R := IsRow.made w t cs
  match i, hi with
  | 0, _ => exact ⟨⟨x, (R.cell 0).trans h0⟩, (R.cell 1).trans h1⟩
theorem user_all (s : List UInt8) (hl : s.length ≤ 9223372036854775807) (b : Bool) (h : userB s = b) (w : World) : Calls Try.prog 23 #[.string ⟨s.toArray⟩] w fun e w' => e = .returned (.bool b) ∧ Below w.heap.size w w' :=
  (user_same s hl w).mono fun _ _ h' => ⟨by rw [h'.1, h], h'.2 ▸ Below.refl _ _⟩
theorem name_all (s : List UInt8) (hl : s.length ≤ 9223372036854775807) (b : Bool) (h : nameB s = b) (w : World) : Calls Try.prog 24 #[.string ⟨s.toArray⟩] w fun e w' => e = .returned (.bool b) ∧ Below w.heap.size w w' :=
  (name_same s hl w).mono fun _ _ h' => ⟨by rw [h'.1, h], h'.2 ▸ Below.refl _ _⟩

set_option maxHeartbeats 4000000 in
theorem awake_any (w : World) (E : Env w) : Calls Try.prog 10 #[] w fun e w' => e = .returned (.bool true) ∧ Below w.heap.size w w' := by
  have B0 := Lib.hid (Below.refl w.heap.size w)
  have HU := Lib.hid (fun u W HR => user_of newL ⟨1, 0, [109, 101]⟩ u [[102, 116, 112, 46, 97]] [109, 101, 64, 102, 116, 112, 46, 97] (by decide) 0 (by decide +kernel) W HR)
  have HA0 := Lib.hid (fun W => dial_of ⟨1, 0, [109, 101]⟩ ⟨2, 0, [109, 101]⟩ true 0 (by decide +kernel) W)
  have HA1 := Lib.hid (fun W => heard_of ⟨2, 0, [109, 101]⟩ ⟨3, 0, [109, 101]⟩ 220 1 (by decide) (by decide) (by decide +kernel) W)
  have HA2 := Lib.hid (fun W => heard_of ⟨3, 0, [109, 101]⟩ ⟨4, 0, [109, 101]⟩ 331 2 (by decide) (by decide) (by decide +kernel) W)
  have HA3 := Lib.hid (fun W => pass_of ⟨4, 0, [109, 101]⟩ ⟨5, 0, [109, 101]⟩ 0 (by decide +kernel) W)
  have HA4 := Lib.hid (fun W => heard_of ⟨5, 0, [109, 101]⟩ ⟨6, 0, [109, 101]⟩ 230 4 (by decide) (by decide) (by decide +kernel) W)
  have HM := Lib.hid (fun W => may_of ⟨6, 0, [109, 101]⟩ (by decide) true (by decide +kernel) W)
  go_enter Try.func10, Try.ntmps10
  go_wp2_with (first
      | (go_at_call 21; refine (new_any _).mono ?_; rintro e w1 ⟨rfl, b1⟩; have B1 := Lib.hid (B0.out.trans (b1.mono B0.out.size)))
      | (go_at_call 11; refine (HU.out _ _ (one_host w1 48 #[Value.string ⟨#[]⟩, Value.string ⟨#[102, 116, 112, 46, 97]⟩, Value.int .u8 0, Value.int .u8 0, Value.int .u8 0, Value.int .u8 0, Value.int .i64 0, Value.int .i64 0, Value.int .i64 0, Value.slice none 0 0, Value.int .i64 0, Value.int .i64 0, Value.int .i64 0, Value.int .i64 0] _ _ rfl rfl)).mono ?_; rintro e w2 ⟨rfl, b2⟩; have B2 := Lib.hid (((B1.out).alloc B1.out.size (.cells #[Value.string ⟨#[]⟩, Value.string ⟨#[102, 116, 112, 46, 97]⟩, Value.int .u8 0, Value.int .u8 0, Value.int .u8 0, Value.int .u8 0, Value.int .i64 0, Value.int .i64 0, Value.int .i64 0, Value.slice none 0 0, Value.int .i64 0, Value.int .i64 0, Value.int .i64 0, Value.int .i64 0] 48)).trans (b2.mono (by have := B1.out.size; simp <;> omega))); clear HU))
  obtain ⟨v0, hv0⟩ : ∃ W, w2.alloc (.cells #[.int .i64 1, .int .i64 0, .string ⟨#[109, 101]⟩] 23) = W := ⟨_, rfl⟩
  have R0 : IsRow v0 w2.heap.size 23 #[.int .i64 1, .int .i64 0, .string ⟨#[109, 101]⟩] := by rw [← hv0]; exact IsRow.made _ _ _
  have BB0 : Below w.heap.size w v0 := by rw [← hv0]; exact B2.out.alloc B2.out.size _
  have hge : w.heap.size ≤ w2.heap.size := B2.out.size
  rw [hv0]
  clear hv0
  have z0 := R0.cell 0
  have z1 := R0.cell 1
  have z2 := R0.cell 2
  have f0 := R0.free 0
  have f1 := R0.free 1
  have f2 := R0.free 2
  have zl := R0.lt
  go_wp2_with (go_at_call 15; refine (HA0.out _).mono ?_; rintro e u0 ⟨rfl, b⟩; have S0 := R0.call b; have CB0 := BB0.trans (b.mono BB0.size); clear z0 z1 z2 f0 f1 f2 zl; have z0 := S0.cell 0; have z1 := S0.cell 1; have z2 := S0.cell 2; have f0 := S0.free 0; have f1 := S0.free 1; have f2 := S0.free 2; have zl := S0.lt; clear HA0 b)
  obtain ⟨v1, hv⟩ : ∃ W, (World.setCell (World.setCell (World.setCell u0 ⟨w2.heap.size, 0, none⟩ (.int .i64 2)) ⟨w2.heap.size, 1, none⟩ (.int .i64 0)) ⟨w2.heap.size, 2, none⟩ (.string ⟨#[109, 101]⟩)) = W := ⟨_, rfl⟩
  have R1 : IsRow v1 w2.heap.size 23 #[.int .i64 2, .int .i64 0, .string ⟨#[109, 101]⟩] := by rw [← hv]; exact (((S0.set 0 (.int .i64 2)).set 1 (.int .i64 0)).set 2 (.string ⟨#[109, 101]⟩))
  have BB1 : Below w.heap.size w v1 := by rw [← hv]; exact (((CB0.setCell (p := ⟨w2.heap.size, 0, none⟩) hge (.int .i64 2)).setCell (p := ⟨w2.heap.size, 1, none⟩) hge (.int .i64 0)).setCell (p := ⟨w2.heap.size, 2, none⟩) hge (.string ⟨#[109, 101]⟩))
  rw [hv]
  clear z0 z1 z2 f0 f1 f2 zl
  clear hv R0 BB0 S0 CB0
  have z0 := R1.cell 0
  have z1 := R1.cell 1
  have z2 := R1.cell 2
  have f0 := R1.free 0
  have f1 := R1.free 1
  have f2 := R1.free 2
  have zl := R1.lt
  go_wp2_with (go_at_call 17; refine (HA1.out _).mono ?_; rintro e u1 ⟨rfl, b⟩; have S1 := R1.call b; have CB1 := BB1.trans (b.mono BB1.size); clear z0 z1 z2 f0 f1 f2 zl; have z0 := S1.cell 0; have z1 := S1.cell 1; have z2 := S1.cell 2; have f0 := S1.free 0; have f1 := S1.free 1; have f2 := S1.free 2; have zl := S1.lt; clear HA1 b)
  obtain ⟨v2, hv⟩ : ∃ W, (World.setCell (World.setCell (World.setCell u1 ⟨w2.heap.size, 0, none⟩ (.int .i64 3)) ⟨w2.heap.size, 1, none⟩ (.int .i64 0)) ⟨w2.heap.size, 2, none⟩ (.string ⟨#[109, 101]⟩)) = W := ⟨_, rfl⟩
  have R2 : IsRow v2 w2.heap.size 23 #[.int .i64 3, .int .i64 0, .string ⟨#[109, 101]⟩] := by rw [← hv]; exact (((S1.set 0 (.int .i64 3)).set 1 (.int .i64 0)).set 2 (.string ⟨#[109, 101]⟩))
  have BB2 : Below w.heap.size w v2 := by rw [← hv]; exact (((CB1.setCell (p := ⟨w2.heap.size, 0, none⟩) hge (.int .i64 3)).setCell (p := ⟨w2.heap.size, 1, none⟩) hge (.int .i64 0)).setCell (p := ⟨w2.heap.size, 2, none⟩) hge (.string ⟨#[109, 101]⟩))
  rw [hv]
  clear z0 z1 z2 f0 f1 f2 zl
  clear hv R1 BB1 S1 CB1
  have z0 := R2.cell 0
  have z1 := R2.cell 1
  have z2 := R2.cell 2
  have f0 := R2.free 0
  have f1 := R2.free 1
  have f2 := R2.free 2
  have zl := R2.lt
  go_wp2_with (go_at_call 17; refine (HA2.out _).mono ?_; rintro e u2 ⟨rfl, b⟩; have S2 := R2.call b; have CB2 := BB2.trans (b.mono BB2.size); clear z0 z1 z2 f0 f1 f2 zl; have z0 := S2.cell 0; have z1 := S2.cell 1; have z2 := S2.cell 2; have f0 := S2.free 0; have f1 := S2.free 1; have f2 := S2.free 2; have zl := S2.lt; clear HA2 b)
  obtain ⟨v3, hv⟩ : ∃ W, (World.setCell (World.setCell (World.setCell u2 ⟨w2.heap.size, 0, none⟩ (.int .i64 4)) ⟨w2.heap.size, 1, none⟩ (.int .i64 0)) ⟨w2.heap.size, 2, none⟩ (.string ⟨#[109, 101]⟩)) = W := ⟨_, rfl⟩
  have R3 : IsRow v3 w2.heap.size 23 #[.int .i64 4, .int .i64 0, .string ⟨#[109, 101]⟩] := by rw [← hv]; exact (((S2.set 0 (.int .i64 4)).set 1 (.int .i64 0)).set 2 (.string ⟨#[109, 101]⟩))
  have BB3 : Below w.heap.size w v3 := by rw [← hv]; exact (((CB2.setCell (p := ⟨w2.heap.size, 0, none⟩) hge (.int .i64 4)).setCell (p := ⟨w2.heap.size, 1, none⟩) hge (.int .i64 0)).setCell (p := ⟨w2.heap.size, 2, none⟩) hge (.string ⟨#[109, 101]⟩))
  rw [hv]
  clear z0 z1 z2 f0 f1 f2 zl
  clear hv R2 BB2 S2 CB2
  have z0 := R3.cell 0
  have z1 := R3.cell 1
  have z2 := R3.cell 2
  have f0 := R3.free 0
  have f1 := R3.free 1
  have f2 := R3.free 2
  have zl := R3.lt
  go_wp2_with (go_at_call 13; refine (HA3.out _).mono ?_; rintro e u3 ⟨rfl, b⟩; have S3 := R3.call b; have CB3 := BB3.trans (b.mono BB3.size); clear z0 z1 z2 f0 f1 f2 zl; have z0 := S3.cell 0; have z1 := S3.cell 1; have z2 := S3.cell 2; have f0 := S3.free 0; have f1 := S3.free 1; have f2 := S3.free 2; have zl := S3.lt; clear HA3 b)
  obtain ⟨v4, hv⟩ : ∃ W, (World.setCell (World.setCell (World.setCell u3 ⟨w2.heap.size, 0, none⟩ (.int .i64 5)) ⟨w2.heap.size, 1, none⟩ (.int .i64 0)) ⟨w2.heap.size, 2, none⟩ (.string ⟨#[109, 101]⟩)) = W := ⟨_, rfl⟩
  have R4 : IsRow v4 w2.heap.size 23 #[.int .i64 5, .int .i64 0, .string ⟨#[109, 101]⟩] := by rw [← hv]; exact (((S3.set 0 (.int .i64 5)).set 1 (.int .i64 0)).set 2 (.string ⟨#[109, 101]⟩))
  have BB4 : Below w.heap.size w v4 := by rw [← hv]; exact (((CB3.setCell (p := ⟨w2.heap.size, 0, none⟩) hge (.int .i64 5)).setCell (p := ⟨w2.heap.size, 1, none⟩) hge (.int .i64 0)).setCell (p := ⟨w2.heap.size, 2, none⟩) hge (.string ⟨#[109, 101]⟩))
  rw [hv]
  clear z0 z1 z2 f0 f1 f2 zl
  clear hv R3 BB3 S3 CB3
  have z0 := R4.cell 0
  have z1 := R4.cell 1
  have z2 := R4.cell 2
  have f0 := R4.free 0
  have f1 := R4.free 1
  have f2 := R4.free 2
  have zl := R4.lt
  go_wp2_with (go_at_call 17; refine (HA4.out _).mono ?_; rintro e u4 ⟨rfl, b⟩; have S4 := R4.call b; have CB4 := BB4.trans (b.mono BB4.size); clear z0 z1 z2 f0 f1 f2 zl; have z0 := S4.cell 0; have z1 := S4.cell 1; have z2 := S4.cell 2; have f0 := S4.free 0; have f1 := S4.free 1; have f2 := S4.free 2; have zl := S4.lt; clear HA4 b)
  obtain ⟨v5, hv⟩ : ∃ W, (World.setCell (World.setCell (World.setCell u4 ⟨w2.heap.size, 0, none⟩ (.int .i64 6)) ⟨w2.heap.size, 1, none⟩ (.int .i64 0)) ⟨w2.heap.size, 2, none⟩ (.string ⟨#[109, 101]⟩)) = W := ⟨_, rfl⟩
  have R5 : IsRow v5 w2.heap.size 23 #[.int .i64 6, .int .i64 0, .string ⟨#[109, 101]⟩] := by rw [← hv]; exact (((S4.set 0 (.int .i64 6)).set 1 (.int .i64 0)).set 2 (.string ⟨#[109, 101]⟩))
  have BB5 : Below w.heap.size w v5 := by rw [← hv]; exact (((CB4.setCell (p := ⟨w2.heap.size, 0, none⟩) hge (.int .i64 6)).setCell (p := ⟨w2.heap.size, 1, none⟩) hge (.int .i64 0)).setCell (p := ⟨w2.heap.size, 2, none⟩) hge (.string ⟨#[109, 101]⟩))
  rw [hv]
  clear z0 z1 z2 f0 f1 f2 zl
  clear hv R4 BB4 S4 CB4
  have z0 := R5.cell 0
  have z1 := R5.cell 1
  have z2 := R5.cell 2
  have f0 := R5.free 0
  have f1 := R5.free 1
  have f2 := R5.free 2
  have zl := R5.lt
  go_wp2_with (go_at_call 20; refine (HM.out _).mono ?_; rintro e w9 ⟨rfl, b⟩; have BB9 := BB5.trans (b.mono BB5.size); clear HM b)
  go_ret
  exact ⟨by first | rfl | (simp; done), BB9⟩

#print axioms awake_any
end Go.Proofs.Ytkkajbnonfnbjaa.Lo
