/- The contract of ext.Text. -/
import Derived.Test.YtdimfppijcebjaaGreatDoorExtRead
import Derived.Lib.QuietBelow
namespace Go.Proofs.YtdimfppijcebjaaGreatDoor.Ext
open Go.Proofs.YtdimfppijcebjaaGreatDoor.Quad Go.Proofs.YtdimfppijcebjaaGreatDoor.Six Go.Proofs.YtdimfppijcebjaaGreatDoor
open Go.ChangeShapes Go.WideShapes Go.ChangeAt Go.RowKit Go.Sort

set_option maxHeartbeats 1000000 in
set_option maxRecDepth 100000 in
theorem text_yes (a b c d p : Int) (ha : 0 ≤ a) (ha' : a ≤ 255) (hb : 0 ≤ b) (hb' : b ≤ 255) (hc : 0 ≤ c) (hc' : c ≤ 255) (hd : 0 ≤ d) (hd' : d ≤ 255) (h0 : 1 ≤ p) (h1 : p ≤ 65535) (w : World) (E : Env w) :
    Calls Tryz.prog 29 #[endV a b c d p] w fun e w' => e = .returned (.tuple #[str (extL a b c d p), .bool true]) ∧ Below w.heap.size w w' := by
  have hp : portN p = true := by unfold portN; simp [h0, h1]
  have la := itoa_short ha ha'; have lb := itoa_short hb hb'; have lc := itoa_short hc hc'; have ld := itoa_short hd hd'
  have lt : (textL a b c d).length ≤ 1000 := by unfold textL; simp; omega
  have lp := port_long (n := p) (by omega) h1
  have wp : IntKind.i64.wrap p = p := IntWalk.i64_in _ (by omega)
  have l1 : (Lib.itoa 1).length ≤ 5 := port_long (by omega) (by omega)
  have hT : Hid (extL a b c d p = [124] ++ Lib.itoa 1 ++ [124] ++ textL a b c d ++ [124] ++ Lib.itoa p ++ [124]) := by
    show extL a b c d p = _
    unfold extL; rw [itoa1']; rfl
  have C1 := Lib.hid (fun W (EW : Env W) => num_any 1 (by omega) (by omega) W EW)
  have CP := Lib.hid (fun W (EW : Env W) => num_any p (by omega) (by omega) W EW)
  have CT := Lib.hid (fun W (EW : Env W) => text_any a b c d ha ha' hb hb' hc hc' hd hd' W EW)
  generalize textL a b c d = tl at hT CT lt
  generalize Lib.itoa p = tp at hT CP lp
  generalize Lib.itoa 1 = o1 at hT C1 l1
  generalize extL a b c d p = u at hT ⊢
  clear la lb lc ld ha' hb' hc' hd'
  have n0 : ¬ 9223372036854775807 < 1 + o1.length := by omega
  have n1 : ¬ 9223372036854775807 < 1 + o1.length + 1 := by omega
  have n2 : ¬ 9223372036854775807 < 1 + o1.length + 1 + tl.length := by omega
  have n3 : ¬ 9223372036854775807 < 1 + o1.length + 1 + tl.length + 1 := by omega
  have n4 : ¬ 9223372036854775807 < 1 + o1.length + 1 + tl.length + 1 + tp.length := by omega
  have n5 : ¬ 9223372036854775807 < 1 + o1.length + 1 + tl.length + 1 + tp.length + 1 := by omega
  clear lt lp l1
  go_enter Tryz.func29, Tryz.ntmps29
  go_wp2_with (go_at_call 59; refine (isPort_any _ _).mono ?_; rintro e w2 ⟨rfl, rfl⟩)
  obtain ⟨w1, e1, R1, B1⟩ : ∃ w1, w.alloc (.cells #[.int .u8 a, .int .u8 b, .int .u8 c, .int .u8 d, .int .i64 p] 30) = w1 ∧ IsRow w1 w.heap.size 30 #[.int .u8 a, .int .u8 b, .int .u8 c, .int .u8 d, .int .i64 p] ∧ Below w.heap.size w w1 :=
    ⟨_, rfl, IsRow.made _ _ _, (Below.refl _ _).alloc (Nat.le_refl _) _⟩
  rw [e1]
  clear e1
  have k0 := cell_regrown (show w1.cell? ⟨w.heap.size, 0, none⟩ = some (.int .u8 a) from R1.cell 0)
  have k1 := cell_regrown (show w1.cell? ⟨w.heap.size, 1, none⟩ = some (.int .u8 b) from R1.cell 1)
  have k2 := cell_regrown (show w1.cell? ⟨w.heap.size, 2, none⟩ = some (.int .u8 c) from R1.cell 2)
  have k3 := cell_regrown (show w1.cell? ⟨w.heap.size, 3, none⟩ = some (.int .u8 d) from R1.cell 3)
  have k4 := cell_regrown (show w1.cell? ⟨w.heap.size, 4, none⟩ = some (.int .i64 p) from R1.cell 4)
  have E1 := E.below B1
  have K1 := Lib.hid (fun dd os => show Calls Tryz.prog 57 #[.int .i64 1] (grow (redrawn w1 dd) os) fun e w'' => e = .returned (str o1) ∧ ∃ p : Regrown, w'' = grow (redrawn w1 p.d) p.os from Calls.regrown_of (C1.out (grow (redrawn w1 dd) os) (E1.below (below_regrown w1 dd os))))
  have KT := Lib.hid (fun dd os => show Calls Tryz.prog 60 #[(.agg #[.int .u8 a, .int .u8 b, .int .u8 c, .int .u8 d])] (grow (redrawn w1 dd) os) fun e w'' => e = .returned (str tl) ∧ ∃ p : Regrown, w'' = grow (redrawn w1 p.d) p.os from Calls.regrown_of (CT.out (grow (redrawn w1 dd) os) (E1.below (below_regrown w1 dd os))))
  have KP := Lib.hid (fun dd os => show Calls Tryz.prog 57 #[.int .i64 p] (grow (redrawn w1 dd) os) fun e w'' => e = .returned (str tp) ∧ ∃ p : Regrown, w'' = grow (redrawn w1 p.d) p.os from Calls.regrown_of (CP.out (grow (redrawn w1 dd) os) (E1.below (below_regrown w1 dd os))))
  clear C1 E1 CT CP
  refine wp_region_quiet_below (by kernel_rfl) (by kernel_rfl) ?_
  repeat (quiet_step (first | with_reducible exact K1.out _ _ | with_reducible exact KT.out _ _ | with_reducible exact KP.out _ _))
  refine wpQuiet_nil ?_
  intro _ hw'
  obtain ⟨⟨dq, osq⟩, hw''⟩ := hw'
  subst hw''
  go_wp2_with fail
  go_ret2
  refine ⟨?_, below_trans B1 (below_regrown w1 dq osq)⟩
  rw [hT.out]
  refine congrArg (fun x => Ending.returned (.tuple #[.string x, .bool true])) ?_
  have e124 : (ByteArray.mk #[124]) = ⟨([124] : List UInt8).toArray⟩ := rfl
  rw [e124, app_str, app_str, app_str, app_str, app_str, app_str]

theorem text_no (a b c d p : Int) (h : p < 1 ∨ 65535 < p) (w : World) :
    Calls Tryz.prog 29 #[endV a b c d p] w fun e w' => e = .returned (.tuple #[str [], .bool false]) ∧ Below w.heap.size w w' := by
  have hp : portN p = false := by unfold portN; simp; omega
  clear h
  go_enter Tryz.func29, Tryz.ntmps29
  go_wp2_with (go_at_call 59; refine (isPort_any _ _).mono ?_; rintro e w2 ⟨rfl, rfl⟩)
  go_ret2
  exact ⟨rfl, (Below.refl _ _).alloc (Nat.le_refl _) _⟩

end Go.Proofs.YtdimfppijcebjaaGreatDoor.Ext
