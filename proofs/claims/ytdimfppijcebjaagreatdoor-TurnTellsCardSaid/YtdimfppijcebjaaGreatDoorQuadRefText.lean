/- The contract of the document's answer of layer 2: wharfingerref02.Text. -/
import Derived.Test.YtdimfppijcebjaaGreatDoorQuadRefGet
import Derived.Test.YtdimfppijcebjaaGreatDoorQuadHost
namespace Go.Proofs.YtdimfppijcebjaaGreatDoor.Quad
open Go.ChangeShapes Go.WideShapes Go.ChangeAt Go.RowKit Go.Sort

set_option maxHeartbeats 1000000 in
set_option maxRecDepth 100000 in
theorem rtext_any (a b c d : Int) (ha : 0 ≤ a) (ha' : a ≤ 255) (hb : 0 ≤ b) (hb' : b ≤ 255) (hc : 0 ≤ c) (hc' : c ≤ 255) (hd : 0 ≤ d) (hd' : d ≤ 255) (w : World) :
    Calls Tryz.prog 62 #[hostV a b c d] w fun e w' => e = .returned (str (textL a b c d)) ∧ Below w.heap.size w w' := by
  have la := itoa_short ha ha'; have lb := itoa_short hb hb'; have lc := itoa_short hc hc'; have ld := itoa_short hd hd'
  have hT : Hid (textL a b c d = Lib.itoa a ++ [46] ++ Lib.itoa b ++ [46] ++ Lib.itoa c ++ [46] ++ Lib.itoa d) := by
    show textL a b c d = _
    unfold textL; simp
  have CA := Lib.hid (fun W => rnum_any a (by omega) (by omega) W)
  have CB := Lib.hid (fun W => rnum_any b (by omega) (by omega) W)
  have CC := Lib.hid (fun W => rnum_any c (by omega) (by omega) W)
  have CD := Lib.hid (fun W => rnum_any d (by omega) (by omega) W)
  generalize Lib.itoa a = pa at la hT CA
  generalize Lib.itoa b = pb at lb hT CB
  generalize Lib.itoa c = pc at lc hT CC
  generalize Lib.itoa d = pd at ld hT CD
  go_enter Tryz.func62, Tryz.ntmps62
  go_wp2_with fail
  obtain ⟨w0, e0, R0, B0⟩ : ∃ w0, w.alloc (.cells #[.int .u8 a, .int .u8 b, .int .u8 c, .int .u8 d] 28) = w0 ∧ IsRow w0 w.heap.size 28 #[.int .u8 a, .int .u8 b, .int .u8 c, .int .u8 d] ∧ Below w.heap.size w w0 :=
    ⟨_, rfl, IsRow.made _ _ _, (Below.refl _ _).alloc (Nat.le_refl _) _⟩
  rw [e0]
  clear e0
  have k0 := cell_regrown (show w0.cell? ⟨w.heap.size, 0, none⟩ = some (.int .u8 a) from R0.cell 0)
  have k1 := cell_regrown (show w0.cell? ⟨w.heap.size, 1, none⟩ = some (.int .u8 b) from R0.cell 1)
  have k2 := cell_regrown (show w0.cell? ⟨w.heap.size, 2, none⟩ = some (.int .u8 c) from R0.cell 2)
  have k3 := cell_regrown (show w0.cell? ⟨w.heap.size, 3, none⟩ = some (.int .u8 d) from R0.cell 3)
  have lift : ∀ {n : Int} {r : List UInt8}, (∀ W, Calls Tryz.prog 61 #[.int .i64 n] W fun e w' => e = .returned (str r) ∧ W = w') → ∀ d os, Calls Tryz.prog 61 #[.int .i64 n] (grow (redrawn w0 d) os) fun e w'' => e = .returned (str r) ∧ ∃ p : Regrown, w'' = grow (redrawn w0 p.d) p.os :=
    fun h d os => (h _).mono fun _ _ ⟨he, hw⟩ => ⟨he, ⟨d, os⟩, hw.symm⟩
  have KA := Lib.hid (lift CA.out); have KB := Lib.hid (lift CB.out); have KC := Lib.hid (lift CC.out); have KD := Lib.hid (lift CD.out)
  clear lift CA CB CC CD
  have n0 : ¬ 9223372036854775807 < pa.length + 1 := by omega
  have n1 : ¬ 9223372036854775807 < pa.length + 1 + pb.length := by omega
  have n2 : ¬ 9223372036854775807 < pa.length + 1 + pb.length + 1 := by omega
  have n3 : ¬ 9223372036854775807 < pa.length + 1 + pb.length + 1 + pc.length := by omega
  have n4 : ¬ 9223372036854775807 < pa.length + 1 + pb.length + 1 + pc.length + 1 := by omega
  have n5 : ¬ 9223372036854775807 < pa.length + 1 + pb.length + 1 + pc.length + 1 + pd.length := by omega
  have wa : IntKind.i64.wrap a = a := IntWalk.i64_in _ (by omega)
  have wb : IntKind.i64.wrap b = b := IntWalk.i64_in _ (by omega)
  have wc : IntKind.i64.wrap c = c := IntWalk.i64_in _ (by omega)
  have wd : IntKind.i64.wrap d = d := IntWalk.i64_in _ (by omega)
  refine wp_region_quiet_below (by kernel_rfl) (by kernel_rfl) ?_
  repeat (quiet_step (first | with_reducible exact KA.out _ _ | with_reducible exact KB.out _ _ | with_reducible exact KC.out _ _ | with_reducible exact KD.out _ _))
  refine wpQuiet_nil ?_
  intro _ hw'
  obtain ⟨⟨dq, osq⟩, hw''⟩ := hw'
  subst hw''
  go_wp2_with fail
  go_ret
  refine ⟨?_, below_trans B0 (below_regrown w0 dq osq)⟩
  rw [hT.out]
  refine congrArg (fun x => Ending.returned (.string x)) ?_
  have e46 : (ByteArray.mk #[46]) = ⟨([46] : List UInt8).toArray⟩ := rfl
  rw [e46, app_str, app_str, app_str, app_str, app_str, app_str]

end Go.Proofs.YtdimfppijcebjaaGreatDoor.Quad
