/- The contracts of the document's answer of layer 2: wharfingerref02.Num and Get. -/
import Derived.Test.YtdimfppijcebjaaGreatDoorQuadCode
import Derived.Test.YtdimfppijcebjaaGreatDoorBlocks
import Derived.Test.YtdimfppijcebjaaGreatDoorPlains
namespace Go.Proofs.YtdimfppijcebjaaGreatDoor.Quad
open Go.ChangeShapes Go.WideShapes Go.ChangeAt Go.RowKit Go.Sort

/-- a digit's byte -/
def digB (d : Nat) : UInt8 := UInt8.ofNat (48 + d)
theorem slice_digit : ∀ (d : Nat), d < 10 → ∀ (W : World), (Instr.slice 9 (.string ⟨#[48, 49, 50, 51, 52, 53, 54, 55, 56, 57]⟩) (some (.int .i64 (d : Int))) (some (.int .i64 ((d : Int) + 1))) none).run Tryz.prog W = .ok (str [digB d]) W
  | 0, _, W => by kernel_rfl
  | 1, _, W => by kernel_rfl
  | 2, _, W => by kernel_rfl
  | 3, _, W => by kernel_rfl
  | 4, _, W => by kernel_rfl
  | 5, _, W => by kernel_rfl
  | 6, _, W => by kernel_rfl
  | 7, _, W => by kernel_rfl
  | 8, _, W => by kernel_rfl
  | 9, _, W => by kernel_rfl
  | d + 10, h, _ => by omega
theorem app_str (a b : List UInt8) : (ByteArray.mk a.toArray ++ ByteArray.mk b.toArray) = ⟨(a ++ b).toArray⟩ := by
  apply ByteArray.ext
  simp
theorem app_one (c : UInt8) (b : List UInt8) : (ByteArray.mk #[c] ++ ByteArray.mk b.toArray) = ⟨(c :: b).toArray⟩ := app_str [c] b
theorem digits_last {n u : Nat} {o : List UInt8} (h : Lib.decDigits n = Lib.decDigits u ++ o) (h10 : u < 10) : digB (u % 10) :: o = Lib.decDigits n := by
  rw [h, Lib.decDigits_one h10, show u % 10 = u from by omega]; rfl
theorem digits_next {n u : Nat} {o : List UInt8} (h : Lib.decDigits n = Lib.decDigits u ++ o) (h10 : ¬ u < 10) : Lib.decDigits n = Lib.decDigits (u / 10) ++ (digB (u % 10) :: o) := by
  rw [h, Lib.decDigits, dif_neg h10]; simp [digB]
theorem digits_room {n u : Nat} {o : List UInt8} (h : Lib.decDigits n = Lib.decDigits u ++ o) (hm : (Lib.decDigits n).length ≤ 20) : o.length + 1 ≤ 20 := by
  have := digits_length u
  rw [h, List.length_append] at hm; omega

set_option maxHeartbeats 1000000 in
set_option maxRecDepth 100000 in
theorem rnum_pos (n : Nat) (h1 : (n : Int) ≤ 9223372036854775807) (w : World) :
    Calls Tryz.prog 61 #[.int .i64 n] w fun e w' => e = .returned (str (Lib.itoa n)) ∧ w = w' := by
  have hm : (Lib.decDigits n).length ≤ 20 := by have := itoa_most (n := (n : Int)) (by omega) h1; rw [itoa_nat] at this; exact this
  have hn : ¬ (n : Int) < 0 := by omega
  rw [itoa_nat]
  go_enter Tryz.func61, Tryz.ntmps61
  go_wp2_with fail
  go_loop [0, 4] (fun a b => ∃ (u : Nat) (o : List UInt8), a = .int .i64 u ∧ b = str o ∧ Hid (Lib.decDigits n = Lib.decDigits u ++ o) ∧ u ≤ n) (fun a _ => (intOf a).toNat)
  case atStart => exact ⟨n, [], rfl, rfl, Lib.hid (by simp), Nat.le_refl _⟩
  case round =>
    obtain ⟨u, o, rfl, rfl, hu, hun⟩ := hrel
    have hmod : ¬ ((u : Int) % 10 < 0) := by omega
    have hol := digits_room hu.out hm
    have hs : ∀ W, (Instr.slice 9 (.string ⟨#[48, 49, 50, 51, 52, 53, 54, 55, 56, 57]⟩) (some (.int .i64 ((u : Int) % 10))) (some (.int .i64 ((u : Int) % 10 + 1))) none).run Tryz.prog W = .ok (str [digB (u % 10)]) W := fun W => by
      have := slice_digit (u % 10) (by omega) W
      rw [show ((u % 10 : Nat) : Int) = (u : Int) % 10 from by omega] at this
      exact this
    by_cases h10 : u < 10
    · have hz : (((u : Int) / 10) == 0) = true := by rw [beq_iff_eq]; omega
      have hl := Lib.hid (digits_last hu.out h10)
      go_wp2_with fail
      go_ret
      refine ⟨?_, rfl⟩
      rw [← hl.out]
      exact congrArg (fun x => Ending.returned (.string x)) (app_one _ _)
    · have hz : (((u : Int) / 10) == 0) = false := by rw [beq_eq_false_iff_ne]; omega
      have hl := Lib.hid (digits_next hu.out h10)
      go_wp2_with fail
      go_round
      case rel => exact ⟨u / 10, digB (u % 10) :: o, by go_num, congrArg Value.string (app_one _ _), hl, by omega⟩
      case measure => simp [intOf]; omega

set_option maxHeartbeats 1000000 in
set_option maxRecDepth 100000 in
theorem rnum_neg (n : Nat) (h0 : 1 ≤ n) (h1 : (n : Int) ≤ 9223372036854775808) (w : World) :
    Calls Tryz.prog 61 #[.int .i64 (-(n : Int))] w fun e w' => e = .returned (str (Lib.itoa (-(n : Int)))) ∧ w = w' := by
  have hi : Lib.itoa (-(n : Int)) = 45 :: Lib.decDigits n := by rw [itoa_neg (by omega)]; simp
  have hm : (Lib.decDigits n).length ≤ 20 := by
    have := itoa_most (n := -(n : Int)) (by omega) (by omega); rw [hi, List.length_cons] at this; omega
  have hn : -(n : Int) < 0 := by omega
  rw [hi]
  clear hi
  go_enter Tryz.func61, Tryz.ntmps61
  go_wp2_with fail
  go_loop [0, 4] (fun a b => ∃ (u : Nat) (o : List UInt8), a = .int .i64 (-(u : Int)) ∧ b = str o ∧ Hid (Lib.decDigits n = Lib.decDigits u ++ o) ∧ u ≤ n) (fun a _ => (intOf a).natAbs)
  case atStart => exact ⟨n, [], rfl, rfl, Lib.hid (by simp), Nat.le_refl _⟩
  case round =>
    obtain ⟨u, o, rfl, rfl, hu, hun⟩ := hrel
    have hol := digits_room hu.out hm
    have hs : ∀ W, (Instr.slice 9 (.string ⟨#[48, 49, 50, 51, 52, 53, 54, 55, 56, 57]⟩) (some (.int .i64 ((u % 10 : Nat) : Int))) (some (.int .i64 (((u % 10 : Nat) : Int) + 1))) none).run Tryz.prog W = .ok (str [digB (u % 10)]) W := slice_digit (u % 10) (by omega)
    have e1 : (-(u : Int)).tdiv 10 = -((u / 10 : Nat) : Int) := by rw [Int.neg_tdiv, Int.tdiv_eq_ediv_of_nonneg (by omega)]; omega
    have e2 : (-(u : Int)).tmod 10 = -((u % 10 : Nat) : Int) := by rw [Int.neg_tmod, Int.tmod_eq_emod_of_nonneg (by omega)]; omega
    have hu10 : u % 10 < 10 := by omega
    have hq10 : u / 10 ≤ u := by omega
    have hq : (0 : Int) ≤ ((u / 10 : Nat) : Int) := by omega
    by_cases h10 : u < 10
    · have hz : (-((u / 10 : Nat) : Int) == 0) = true := by rw [beq_iff_eq]; omega
      have hl := Lib.hid (digits_last hu.out h10)
      generalize u % 10 = e at hs e2 hu10 hl
      generalize u / 10 = f at hz e1 hq10 hq
      by_cases he : 0 < e
      · have he' : -(e : Int) < 0 := by omega
        go_wp2_with fail
        go_ret
        refine ⟨?_, rfl⟩
        rw [← hl.out]
        refine congrArg (fun x => Ending.returned (.string x)) ?_
        rw [app_one, app_one]
      · have he' : ¬ -(e : Int) < 0 := by omega
        have he'' : -(e : Int) = (e : Int) := by omega
        go_wp2_with fail
        go_ret
        refine ⟨?_, rfl⟩
        rw [← hl.out]
        refine congrArg (fun x => Ending.returned (.string x)) ?_
        rw [app_one, app_one]
    · have hz : (-((u / 10 : Nat) : Int) == 0) = false := by rw [beq_eq_false_iff_ne]; omega
      have hl := Lib.hid (digits_next hu.out h10)
      have hlt : u / 10 < u := by omega
      generalize u % 10 = e at hs e2 hu10 hl
      generalize u / 10 = f at hz e1 hq10 hq hl hlt
      by_cases he : 0 < e
      · have he' : -(e : Int) < 0 := by omega
        go_wp2_with fail
        go_round
        case rel => exact ⟨f, digB e :: o, rfl, congrArg Value.string (app_one _ _), hl, by omega⟩
        case measure => simp [intOf]; omega
      · have he' : ¬ -(e : Int) < 0 := by omega
        have he'' : -(e : Int) = (e : Int) := by omega
        go_wp2_with fail
        go_round
        case rel => exact ⟨f, digB e :: o, rfl, congrArg Value.string (app_one _ _), hl, by omega⟩
        case measure => simp [intOf]; omega

end Go.Proofs.YtdimfppijcebjaaGreatDoor.Quad
