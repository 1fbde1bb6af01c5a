/- The contracts of the document's answer of layer 4: wharfingerref04.Text, Port, Mark. -/
import Derived.Test.YtdimfppijcebjaaGreatDoorExtRead
import Derived.Test.YtdimfppijcebjaaGreatDoorQuadRefText
import Derived.Lib.QuietBelow
namespace Go.Proofs.YtdimfppijcebjaaGreatDoor.Ext
open Go.Proofs.YtdimfppijcebjaaGreatDoor.Quad Go.Proofs.YtdimfppijcebjaaGreatDoor.Six Go.Proofs.YtdimfppijcebjaaGreatDoor
open Go.ChangeShapes Go.WideShapes Go.ChangeAt Go.RowKit Go.Sort


set_option maxHeartbeats 1000000 in
set_option maxRecDepth 100000 in
theorem rtext_yes (a b c d p : Int) (ha : 0 ≤ a) (ha' : a ≤ 255) (hb : 0 ≤ b) (hb' : b ≤ 255) (hc : 0 ≤ c) (hc' : c ≤ 255) (hd : 0 ≤ d) (hd' : d ≤ 255) (h0 : 1 ≤ p) (h1 : p ≤ 65535) (w : World) :
    Calls Tryz.prog 33 #[endV a b c d p] w fun e w' => e = .returned (.tuple #[str (extL a b c d p), .bool true]) ∧ Below w.heap.size w w' := by
  have hp : portN p = true := by unfold portN; simp [h0, h1]
  have la := itoa_short ha ha'; have lb := itoa_short hb hb'; have lc := itoa_short hc hc'; have ld := itoa_short hd hd'
  have lt : (textL a b c d).length ≤ 1000 := by unfold textL; simp; omega
  have lp := port_long (n := p) (by omega) h1
  have wp : IntKind.i64.wrap p = p := IntWalk.i64_in _ (by omega)
  have hT : Hid (extL a b c d p = [124, 49, 124] ++ textL a b c d ++ [124] ++ Lib.itoa p ++ [124]) := Lib.hid rfl
  have CP := Lib.hid (fun W => rnum_any p (by omega) (by omega) W)
  have CT := Lib.hid (fun W  => Quad.rtext_any a b c d ha ha' hb hb' hc hc' hd hd' W)
  generalize textL a b c d = tl at hT CT lt
  generalize Lib.itoa p = tp at hT CP lp
  
  generalize extL a b c d p = u at hT ⊢
  clear la lb lc ld ha' hb' hc' hd'
  have n0 : ¬ 9223372036854775807 < 3 + tl.length := by omega
  have n1 : ¬ 9223372036854775807 < 3 + tl.length + 1 := by omega
  have n2 : ¬ 9223372036854775807 < 3 + tl.length + 1 + tp.length := by omega
  have n3 : ¬ 9223372036854775807 < 3 + tl.length + 1 + tp.length + 1 := by omega
  clear lt lp
  go_enter Tryz.func33, Tryz.ntmps33
  go_wp2_with fail
  obtain ⟨w1, e1, R1, B1⟩ : ∃ w1, w.alloc (.cells #[.int .u8 a, .int .u8 b, .int .u8 c, .int .u8 d, .int .i64 p] 30) = w1 ∧ IsRow w1 w.heap.size 30 #[.int .u8 a, .int .u8 b, .int .u8 c, .int .u8 d, .int .i64 p] ∧ Below w.heap.size w w1 :=
    ⟨_, rfl, IsRow.made _ _ _, (Below.refl _ _).alloc (Nat.le_refl _) _⟩
  rw [e1]
  clear e1
  have k0 := cell_regrown (show w1.cell? ⟨w.heap.size, 0, none⟩ = some (.int .u8 a) from R1.cell 0)
  have k1 := cell_regrown (show w1.cell? ⟨w.heap.size, 1, none⟩ = some (.int .u8 b) from R1.cell 1)
  have k2 := cell_regrown (show w1.cell? ⟨w.heap.size, 2, none⟩ = some (.int .u8 c) from R1.cell 2)
  have k3 := cell_regrown (show w1.cell? ⟨w.heap.size, 3, none⟩ = some (.int .u8 d) from R1.cell 3)
  have k4 := cell_regrown (show w1.cell? ⟨w.heap.size, 4, none⟩ = some (.int .i64 p) from R1.cell 4)
  have KT := Lib.hid (fun dd os => show Calls Tryz.prog 62 #[(.agg #[.int .u8 a, .int .u8 b, .int .u8 c, .int .u8 d])] (grow (redrawn w1 dd) os) fun e w'' => e = .returned (str tl) ∧ ∃ p : Regrown, w'' = grow (redrawn w1 p.d) p.os from Calls.regrown_of (CT.out (grow (redrawn w1 dd) os)))
  have KP := Lib.hid (fun dd os => show Calls Tryz.prog 61 #[.int .i64 p] (grow (redrawn w1 dd) os) fun e w'' => e = .returned (str tp) ∧ ∃ p : Regrown, w'' = grow (redrawn w1 p.d) p.os from ((CP.out (grow (redrawn w1 dd) os)).mono fun _ _ ⟨he, hw⟩ => ⟨he, ⟨dd, os⟩, hw.symm⟩))
  clear CT CP
  refine wp_region_quiet_below (by kernel_rfl) (by kernel_rfl) ?_
  repeat (quiet_step (first | with_reducible exact KT.out _ _ | with_reducible exact KP.out _ _))
  refine wpQuiet_nil ?_
  intro _ hw'
  obtain ⟨⟨dq, osq⟩, hw''⟩ := hw'
  subst hw''
  go_wp2_with fail
  go_ret2
  refine ⟨?_, below_trans B1 (below_regrown w1 dq osq)⟩
  rw [hT.out]
  refine congrArg (fun x => Ending.returned (.tuple #[.string x, .bool true])) ?_
  have e124 : (ByteArray.mk #[124]) = ⟨([124] : List UInt8).toArray⟩ := rfl
  have e3 : (ByteArray.mk #[124, 49, 124]) = ⟨([124, 49, 124] : List UInt8).toArray⟩ := rfl
  rw [e124, e3, app_str, app_str, app_str, app_str]

theorem rtext_no (a b c d p : Int) (h : p < 1 ∨ 65535 < p) (w : World) :
    Calls Tryz.prog 33 #[endV a b c d p] w fun e w' => e = .returned (.tuple #[str [], .bool false]) ∧ Below w.heap.size w w' := by
  rcases h with h | h
  · go_enter Tryz.func33, Tryz.ntmps33
    go_wp2_with fail
    go_ret2
    exact ⟨rfl, (Below.refl _ _).alloc (Nat.le_refl _) _⟩
  · have h' : ¬ p < 1 := by omega
    go_enter Tryz.func33, Tryz.ntmps33
    go_wp2_with fail
    go_ret2
    exact ⟨rfl, (Below.refl _ _).alloc (Nat.le_refl _) _⟩

set_option maxHeartbeats 1000000 in
theorem rport_yes (n : Int) (h0 : 1 ≤ n) (h1 : n ≤ 65535) (w : World) :
    Calls Tryz.prog 35 #[.int .i64 n] w fun e w' => e = .returned (.tuple #[str (portL n), .bool true]) ∧ w = w' := by
  have hT : Hid ((ByteArray.mk #[40, 124, 124, 124] ++ ByteArray.mk (Lib.itoa n).toArray ++ ByteArray.mk #[124, 41]) = ⟨(portL n).toArray⟩) := by
    show _ = _
    rw [show (ByteArray.mk #[40, 124, 124, 124]) = ⟨([40, 124, 124, 124] : List UInt8).toArray⟩ from rfl, show (ByteArray.mk #[124, 41]) = ⟨([124, 41] : List UInt8).toArray⟩ from rfl, app_str, app_str]
    rfl
  have ll := port_long (n := n) (by omega) h1
  have C := Lib.hid (rnum_any n (by omega) (by omega) w)
  have c0 : ¬ n < 1 := by omega
  have c1 : ¬ 65535 < n := by omega
  clear h0 h1
  generalize Lib.itoa n = t at hT ll C
  generalize portL n = u at hT ⊢
  have n0 : ¬ 9223372036854775807 < 4 + t.length := by omega
  have n1 : ¬ 9223372036854775807 < 4 + t.length + 2 := by omega
  clear ll
  go_enter Tryz.func35, Tryz.ntmps35
  go_wp2_with (go_at_call 61; refine C.out.mono ?_; rintro e w1 ⟨rfl, rfl⟩)
  go_ret2
  refine ⟨?_, rfl⟩
  show Ending.returned (.tuple #[.string (ByteArray.mk #[40, 124, 124, 124] ++ ByteArray.mk t.toArray ++ ByteArray.mk #[124, 41]), .bool true]) = _
  rw [hT.out]
theorem rport_no (n : Int) (h : n < 1 ∨ 65535 < n) (w : World) :
    Calls Tryz.prog 35 #[.int .i64 n] w fun e w' => e = .returned (.tuple #[str [], .bool false]) ∧ w = w' := by
  rcases h with h | h
  · go_enter Tryz.func35, Tryz.ntmps35
    go_wp2_with fail
    go_ret2
    exact ⟨rfl, rfl⟩
  · have h' : ¬ n < 1 := by omega
    go_enter Tryz.func35, Tryz.ntmps35
    go_wp2_with fail
    go_ret2
    exact ⟨rfl, rfl⟩
theorem rmark_any (n : Int) (w : World) :
    Calls Tryz.prog 49 #[.int .u8 n] w fun e w' => e = .returned (.bool (markN n)) ∧ w = w' := by
  have hd : Hid (markN n = (decide (33 ≤ n) && decide (n ≤ 126) && (decide (n < 48) || decide (57 < n)))) := Lib.hid rfl
  by_cases h0 : 33 ≤ n
  · by_cases h1 : n ≤ 126
    · by_cases h2 : 48 ≤ n
      · by_cases h3 : n ≤ 57
        · go_enter Tryz.func49, Tryz.ntmps49
          go_wp2_with fail
          go_ret
          rw [hd.out]; exact ⟨by simp; omega, rfl⟩
        · go_enter Tryz.func49, Tryz.ntmps49
          go_wp2_with fail
          go_ret
          rw [hd.out]; exact ⟨by simp; omega, rfl⟩
      · go_enter Tryz.func49, Tryz.ntmps49
        go_wp2_with fail
        go_ret
        rw [hd.out]; exact ⟨by simp; omega, rfl⟩
    · go_enter Tryz.func49, Tryz.ntmps49
      go_wp2_with fail
      go_ret
      rw [hd.out]; exact ⟨by simp; omega, rfl⟩
  · go_enter Tryz.func49, Tryz.ntmps49
    go_wp2_with fail
    go_ret
    rw [hd.out]; exact ⟨by simp; omega, rfl⟩

end Go.Proofs.YtdimfppijcebjaaGreatDoor.Ext
