/- The contract of the document's answer of layer 3: wharfingerref03.Text. -/
import Derived.Test.YtdimfppijcebjaaGreatDoorSixPure
import Derived.Test.YtdimfppijcebjaaGreatDoorQuadRefGet
import Derived.BigQuiet
namespace Go.Proofs.YtdimfppijcebjaaGreatDoor.Six
open Go.Proofs.YtdimfppijcebjaaGreatDoor.Quad
open Go.ChangeShapes Go.WideShapes Go.ChangeAt Go.RowKit Go.Sort

set_option maxHeartbeats 2000000 in
set_option maxRecDepth 100000 in
theorem rtext_no (a b c d p : Int) (h0 : -9223372036854775808 ≤ p) (h1 : p ≤ 9223372036854775807) (hp : p < 0 ∨ 65535 < p) (w : World) :
    Calls Tryz.prog 32 #[endV a b c d p] w fun e w' => e = .returned (.tuple #[str [], .bool false]) ∧ Below w.heap.size w w' := by
  by_cases hn : p < 0
  · go_enter Tryz.func32, Tryz.ntmps32
    go_wp2_with fail
    go_ret2
    exact ⟨rfl, (Below.refl _ _).alloc (Nat.le_refl _) _⟩
  · have hn' : 65535 < p := by omega
    go_enter Tryz.func32, Tryz.ntmps32
    go_wp2_with fail
    go_ret2
    exact ⟨rfl, (Below.refl _ _).alloc (Nat.le_refl _) _⟩

theorem grown {o x : List UInt8} {t : ByteArray} (h : t = ⟨o.toArray⟩) : t ++ ⟨x.toArray⟩ ++ ⟨#[44]⟩ = ⟨(o ++ x ++ [44]).toArray⟩ := by
  have e44 : (ByteArray.mk #[44]) = ⟨([44] : List UInt8).toArray⟩ := rfl
  rw [h, e44, app_str, app_str]

set_option maxHeartbeats 2000000 in
set_option maxRecDepth 100000 in
theorem rtext_yes (a b c d p : Int) (ha : 0 ≤ a) (ha' : a ≤ 255) (hb : 0 ≤ b) (hb' : b ≤ 255) (hc : 0 ≤ c) (hc' : c ≤ 255) (hd : 0 ≤ d) (hd' : d ≤ 255) (h0 : 0 ≤ p) (h1 : p ≤ 65535) (w : World) :
    Calls Tryz.prog 32 #[endV a b c d p] w fun e w' => e = .returned (.tuple #[str (sixL a b c d p), .bool true]) ∧ Below w.heap.size w w' := by
  have la := itoa_short (n := a) (by omega) (by omega)
  have lb := itoa_short (n := b) (by omega) (by omega)
  have lc := itoa_short (n := c) (by omega) (by omega)
  have ld := itoa_short (n := d) (by omega) (by omega)
  have lx := itoa_short (n := (p / 256)) (by omega) (by omega)
  have ly := itoa_short (n := (p % 256)) (by omega) (by omega)
  have hT : Hid (sixL a b c d p = Lib.itoa a ++ [44] ++ Lib.itoa b ++ [44] ++ Lib.itoa c ++ [44] ++ Lib.itoa d ++ [44] ++ Lib.itoa (p / 256) ++ [44] ++ Lib.itoa (p % 256)) := by
    show sixL a b c d p = _
    unfold sixL; simp
  have CA := Lib.hid (fun W => rnum_any a (by omega) (by omega) W)
  have CB := Lib.hid (fun W => rnum_any b (by omega) (by omega) W)
  have CC := Lib.hid (fun W => rnum_any c (by omega) (by omega) W)
  have CD := Lib.hid (fun W => rnum_any d (by omega) (by omega) W)
  have CX := Lib.hid (fun W => rnum_any (p / 256) (by omega) (by omega) W)
  have CY := Lib.hid (fun W => rnum_any (p % 256) (by omega) (by omega) W)
  generalize Lib.itoa a = ta at la hT CA
  generalize Lib.itoa b = tb at lb hT CB
  generalize Lib.itoa c = tc at lc hT CC
  generalize Lib.itoa d = td at ld hT CD
  generalize Lib.itoa (p / 256) = tx at lx hT CX
  generalize Lib.itoa (p % 256) = ty at ly hT CY
  go_enter Tryz.func32, Tryz.ntmps32
  go_wp2_with fail
  obtain ⟨w0, e0, R0, B0⟩ : ∃ w0, w.alloc (.cells #[.int .u8 a, .int .u8 b, .int .u8 c, .int .u8 d, .int .i64 p] 30) = w0 ∧ IsRow w0 w.heap.size 30 #[.int .u8 a, .int .u8 b, .int .u8 c, .int .u8 d, .int .i64 p] ∧ Below w.heap.size w w0 :=
    ⟨_, rfl, IsRow.made _ _ _, (Below.refl _ _).alloc (Nat.le_refl _) _⟩
  rw [e0]
  clear e0
  have k0 : w0.cell? ⟨w.heap.size, 0, none⟩ = some (.int .u8 a) := R0.cell 0
  have k1 : w0.cell? ⟨w.heap.size, 1, none⟩ = some (.int .u8 b) := R0.cell 1
  have k2 : w0.cell? ⟨w.heap.size, 2, none⟩ = some (.int .u8 c) := R0.cell 2
  have k3 : w0.cell? ⟨w.heap.size, 3, none⟩ = some (.int .u8 d) := R0.cell 3
  have k4 : w0.cell? ⟨w.heap.size, 4, none⟩ = some (.int .i64 p) := R0.cell 4
  refine wp_loop_rounds 5 ?_
  rw [rounds_succ]
  go_wp2_with (go_at_call 61; refine (CA.out _).mono ?_; rintro e w' ⟨rfl, rfl⟩)
  rw [rounds_succ]
  go_wp2_with (go_at_call 61; refine (CB.out _).mono ?_; rintro e w' ⟨rfl, rfl⟩)
  rw [rounds_succ]
  go_wp2_with (go_at_call 61; refine (CC.out _).mono ?_; rintro e w' ⟨rfl, rfl⟩)
  rw [rounds_succ]
  go_wp2_with (go_at_call 61; refine (CD.out _).mono ?_; rintro e w' ⟨rfl, rfl⟩)
  rw [rounds_succ]
  go_wp2_with fail
  have e44 : (ByteArray.mk #[44]) = ⟨([44] : List UInt8).toArray⟩ := rfl
  have e00 : (ByteArray.mk #[]) = ⟨([] : List UInt8).toArray⟩ := rfl
  have eo : (ByteArray.mk #[] ++ ByteArray.mk ta.toArray ++ ByteArray.mk #[44] ++ ByteArray.mk tb.toArray ++ ByteArray.mk #[44] ++ ByteArray.mk tc.toArray ++ ByteArray.mk #[44] ++ ByteArray.mk td.toArray ++ ByteArray.mk #[44]) = ⟨(ta ++ [44] ++ tb ++ [44] ++ tc ++ [44] ++ td ++ [44]).toArray⟩ := by
    rw [e44, e00, app_str, app_str, app_str, app_str, app_str, app_str, app_str, app_str]; simp
  rw [eo]
  have lo : (ta ++ [44] ++ tb ++ [44] ++ tc ++ [44] ++ td ++ [44]).length ≤ 16 := by simp; omega
  clear eo e44 e00
  generalize ta ++ [44] ++ tb ++ [44] ++ tc ++ [44] ++ td ++ [44] = o at lo hT
  have i4 := cell_regrown k4
  clear k0 k1 k2 k3 k4
  have KX := Lib.hid (show ∀ dd os, Calls Tryz.prog 61 #[.int .i64 (p / 256)] (grow (redrawn w0 dd) os) fun e w'' => e = .returned (str tx) ∧ ∃ p : Regrown, w'' = grow (redrawn w0 p.d) p.os from fun dd os => (CX.out _).mono fun _ _ ⟨he, hw⟩ => ⟨he, ⟨dd, os⟩, hw.symm⟩)
  have KY := Lib.hid (show ∀ dd os, Calls Tryz.prog 61 #[.int .i64 (p % 256)] (grow (redrawn w0 dd) os) fun e w'' => e = .returned (str ty) ∧ ∃ p : Regrown, w'' = grow (redrawn w0 p.d) p.os from fun dd os => (CY.out _).mono fun _ _ ⟨he, hw⟩ => ⟨he, ⟨dd, os⟩, hw.symm⟩)
  clear CA CB CC CD CX CY la lb lc ld
  have n0 : ¬ 9223372036854775807 < o.length + tx.length := by omega
  have n1 : ¬ 9223372036854775807 < o.length + tx.length + 1 := by omega
  have n2 : ¬ 9223372036854775807 < o.length + tx.length + 1 + ty.length := by omega
  have hdv : p.tdiv 256 = p / 256 := Int.tdiv_eq_ediv_of_nonneg h0
  have hmd : p.tmod 256 = p % 256 := Int.tmod_eq_emod_of_nonneg h0
  have wx : IntKind.i64.wrap (p / 256) = p / 256 := IntWalk.i64_in _ (by omega)
  have wy : IntKind.i64.wrap (p % 256) = p % 256 := IntWalk.i64_in _ (by omega)
  refine wp_region_quiet_below (by kernel_rfl) (by kernel_rfl) ?_
  repeat (quiet_step (first | with_reducible exact KX.out _ _ | with_reducible exact KY.out _ _))
  refine wpQuiet_nil ?_
  intro _ hw'
  obtain ⟨⟨dq, osq⟩, hw''⟩ := hw'
  subst hw''
  go_wp2_with fail
  go_ret2
  refine ⟨?_, below_trans B0 (below_regrown w0 dq osq)⟩
  have e44 : (ByteArray.mk #[44]) = ⟨([44] : List UInt8).toArray⟩ := rfl
  have eq : (ByteArray.mk o.toArray ++ ByteArray.mk tx.toArray ++ ByteArray.mk #[44] ++ ByteArray.mk ty.toArray) = ⟨(o ++ tx ++ [44] ++ ty).toArray⟩ := by rw [e44, app_str, app_str, app_str]
  rw [hT.out]
  exact congrArg (fun x => Ending.returned (.tuple #[.string x, .bool true])) eq

#print axioms rtext_yes
end Go.Proofs.YtdimfppijcebjaaGreatDoor.Six
