/- The contracts of ext.isPort, isMark, firstMark, inside, readPort, checkKind, Port. -/
import Derived.Test.YtdimfppijcebjaaGreatDoorExtIs
import Derived.Test.YtdimfppijcebjaaGreatDoorPlains
import Derived.Test.YtdimfppijcebjaaGreatDoorQuadCode
import Derived.Outline
import Derived.IntWalk
import Derived.BigQuiet
import Derived.RegionTactic
namespace Go.Proofs.YtdimfppijcebjaaGreatDoor.Ext
open Go.Proofs.YtdimfppijcebjaaGreatDoor.Quad Go.Proofs.YtdimfppijcebjaaGreatDoor.Six Go.Proofs.YtdimfppijcebjaaGreatDoor
open Go.ChangeShapes Go.WideShapes Go.ChangeAt Go.RowKit Go.Sort

theorem size_of (l : List UInt8) : (ByteArray.mk l.toArray).size = l.length := by show l.toArray.size = l.length; simp
theorem app_str (a b : List UInt8) : (ByteArray.mk a.toArray ++ ByteArray.mk b.toArray) = ⟨(a ++ b).toArray⟩ := by
  apply ByteArray.ext
  simp

theorem isPort_any (n : Int) (w : World) :
    Calls Tryz.prog 59 #[.int .i64 n] w fun e w' => e = .returned (.bool (portN n)) ∧ w = w' := by
  have hd : Hid (portN n = (decide (1 ≤ n) && decide (n ≤ 65535))) := Lib.hid rfl
  by_cases h0 : 1 ≤ n
  · by_cases h1 : n ≤ 65535
    · go_enter Tryz.func59, Tryz.ntmps59
      go_wp2_with fail
      go_ret
      rw [hd.out]; exact ⟨by simp [h0, h1], rfl⟩
    · go_enter Tryz.func59, Tryz.ntmps59
      go_wp2_with fail
      go_ret
      rw [hd.out]; exact ⟨by simp; omega, rfl⟩
  · go_enter Tryz.func59, Tryz.ntmps59
    go_wp2_with fail
    go_ret
    rw [hd.out]; exact ⟨by simp; omega, rfl⟩

theorem isMark_any (n : Int) (w : World) :
    Calls Tryz.prog 109 #[.int .u8 n] w fun e w' => e = .returned (.bool (markN n)) ∧ w = w' := by
  have hd : Hid (markN n = (decide (33 ≤ n) && decide (n ≤ 126) && (decide (n < 48) || decide (57 < n)))) := Lib.hid rfl
  by_cases h0 : 33 ≤ n
  · by_cases h1 : n ≤ 126
    · by_cases h2 : n < 48
      · go_enter Tryz.func109, Tryz.ntmps109
        go_wp2_with fail
        go_ret
        rw [hd.out]; exact ⟨by simp [h0, h1, h2], rfl⟩
      · by_cases h3 : 57 < n
        · go_enter Tryz.func109, Tryz.ntmps109
          go_wp2_with fail
          go_ret
          rw [hd.out]; exact ⟨by simp [h0, h1, h3], rfl⟩
        · go_enter Tryz.func109, Tryz.ntmps109
          go_wp2_with fail
          go_ret
          rw [hd.out]; exact ⟨by simp [h2, h3], rfl⟩
    · go_enter Tryz.func109, Tryz.ntmps109
      go_wp2_with fail
      go_ret
      rw [hd.out]; exact ⟨by simp; omega, rfl⟩
  · go_enter Tryz.func109, Tryz.ntmps109
    go_wp2_with fail
    go_ret
    rw [hd.out]; exact ⟨by simp; omega, rfl⟩

abbrev tMark : ByteArray := ⟨#[109, 97, 114, 107]⟩
abbrev tPort : ByteArray := ⟨#[112, 111, 114, 116]⟩
abbrev tKind : ByteArray := ⟨#[107, 105, 110, 100]⟩
abbrev tText : ByteArray := ⟨#[116, 101, 120, 116]⟩
abbrev tHost : ByteArray := ⟨#[104, 111, 115, 116]⟩

theorem drew_below (w : World) : Below w.heap.size w w.drew := (Below.refl _ _).drew

set_option maxHeartbeats 1000000 in
theorem firstMark_yes (l : List UInt8) (c : UInt8) (r : List UInt8) (hl : l = c :: r) (hm : markB c = true) (w : World) :
    Calls Tryz.prog 91 #[str l] w fun e w' => e = .returned (.tuple #[str [c], .nilIface]) ∧ w = w' := by
  have hpos : 0 < l.length := by rw [hl]; simp
  have hsz : 0 < (ByteArray.mk l.toArray).size := by rw [size_of]; exact hpos
  have hx : (ByteArray.mk l.toArray)[0]'hsz = c := by subst hl; rfl
  have hq : markN ((((ByteArray.mk l.toArray)[0]'hsz).toNat : Int)) = true := by rw [hx, mark_is]; exact hm
  have hne : (l == ([] : List UInt8)) = false := by rw [hl]; rfl
  have hs : Hid ((ByteArray.mk l.toArray).extract 0 1 = ⟨#[c]⟩) := by
    show (ByteArray.mk l.toArray).extract 0 1 = ⟨#[c]⟩
    subst hl
    apply ByteArray.ext
    simp
  clear hx hl
  go_enter Tryz.func91, Tryz.ntmps91
  go_wp2_with (go_at_call 109; refine (isMark_any _ _).mono ?_; rintro e w1 ⟨rfl, rfl⟩)
  go_ret2
  refine ⟨?_, rfl⟩
  show Ending.returned (.tuple #[.string ((ByteArray.mk l.toArray).extract 0 1), .nilIface]) = _
  rw [hs.out]

set_option maxHeartbeats 1000000 in
theorem firstMark_no (l : List UInt8) (h : l = [] ∨ ∃ c r, l = c :: r ∧ markB c = false) (aF aK : Addr) (w : World) (R : Errs aF aK w) :
    Calls Tryz.prog 91 #[str l] w fun e w' => e = .returned (.tuple #[str [], faultV tMark aF]) ∧ Below w.heap.size w w' := by
  have k := R.form
  rcases h with rfl | ⟨c, r, hl, hm⟩
  · go_enter Tryz.func91, Tryz.ntmps91
    go_wp2_with fail
    go_region
    all_goals (go_wp2_with fail; go_ret2; exact ⟨rfl, drew_below w⟩)
  · have hpos : 0 < l.length := by rw [hl]; simp
    have hsz : 0 < (ByteArray.mk l.toArray).size := by rw [size_of]; exact hpos
    have hx : (ByteArray.mk l.toArray)[0]'hsz = c := by subst hl; rfl
    have hq : markN ((((ByteArray.mk l.toArray)[0]'hsz).toNat : Int)) = false := by rw [hx, mark_is]; exact hm
    have hne : (l == ([] : List UInt8)) = false := by rw [hl]; rfl
    clear hx hl hm
    go_enter Tryz.func91, Tryz.ntmps91
    go_wp2_with (go_at_call 109; refine (isMark_any _ _).mono ?_; rintro e w1 ⟨rfl, rfl⟩)
    go_region
    all_goals (go_wp2_with fail; go_ret2; exact ⟨rfl, drew_below w⟩)

set_option maxHeartbeats 1000000 in
theorem readPort_yes (l : List UInt8) (h : portB l = true) (w : World) (E : Env w) :
    Calls Tryz.prog 94 #[str l] w fun e w' => e = .returned (.tuple #[.int .i64 (getV l 65535), .nilIface]) ∧ Below w.heap.size w w' := by
  have hp : portN (getV l 65535) = true := by rw [port_is]; exact h
  have C := Lib.hid (get_any l 65535 w E)
  unfold gotV at C
  clear h
  generalize getV l 65535 = n at hp C
  generalize getB l 65535 = b at C
  go_enter Tryz.func94, Tryz.ntmps94
  go_wp2_with (first | (go_at_call 68; refine C.out.mono ?_; rintro e w1 ⟨rfl, b1⟩) | (go_at_call 59; refine (isPort_any _ _).mono ?_; rintro e w2 ⟨rfl, rfl⟩))
  go_ret2
  exact ⟨rfl, b1⟩

set_option maxHeartbeats 1000000 in
theorem readPort_no (l : List UInt8) (h : portB l = false) (aF aK : Addr) (w : World) (E : Env w) (R : Errs aF aK w) :
    Calls Tryz.prog 94 #[str l] w fun e w' => e = .returned (.tuple #[.int .i64 0, faultV tPort aF]) ∧ Below w.heap.size w w' := by
  have hp : portN (getV l 65535) = false := by rw [port_is]; exact h
  have C := Lib.hid (get_any l 65535 w E)
  unfold gotV at C
  clear h
  generalize getV l 65535 = n at hp C
  generalize getB l 65535 = b at C
  go_enter Tryz.func94, Tryz.ntmps94
  go_wp2_with (first | (go_at_call 68; refine C.out.mono ?_; rintro e w1 ⟨rfl, b1⟩) | (go_at_call 59; refine (isPort_any _ _).mono ?_; rintro e w2 ⟨rfl, rfl⟩))
  have k := (R.below b1).form
  go_region
  all_goals (go_wp2_with fail; go_ret2; exact ⟨rfl, b1.drew⟩)

set_option maxHeartbeats 1000000 in
theorem checkKind_no (l : List UInt8) (h : kindB l = false) (aF aK : Addr) (w : World) (E : Env w) (R : Errs aF aK w) :
    Calls Tryz.prog 105 #[str l] w fun e w' => e = .returned (faultV tKind aF) ∧ Below w.heap.size w w' := by
  have hp := kind_no h
  have C := Lib.hid (get_any l 9 w E)
  unfold gotV at C
  rw [hp] at C
  clear h hp
  generalize getB l 9 = b at C
  go_enter Tryz.func105, Tryz.ntmps105
  go_wp2_with (go_at_call 68; refine C.out.mono ?_; rintro e w1 ⟨rfl, b1⟩; have k := (R.below b1).form)
  go_ret
  exact ⟨rfl, b1⟩
set_option maxHeartbeats 1000000 in
theorem checkKind_one (l : List UInt8) (h : getV l 9 = 1) (w : World) (E : Env w) :
    Calls Tryz.prog 105 #[str l] w fun e w' => e = .returned .nilIface ∧ Below w.heap.size w w' := by
  have C := Lib.hid (get_any l 9 w E)
  unfold gotV at C
  rw [h] at C
  clear h
  generalize getB l 9 = b at C
  go_enter Tryz.func105, Tryz.ntmps105
  go_wp2_with (go_at_call 68; refine C.out.mono ?_; rintro e w1 ⟨rfl, b1⟩)
  go_ret
  exact ⟨rfl, b1⟩
set_option maxHeartbeats 1000000 in
theorem checkKind_other (l : List UInt8) (h : kindB l = true) (h1 : getV l 9 ≠ 1) (aF aK : Addr) (w : World) (E : Env w) (R : Errs aF aK w) :
    Calls Tryz.prog 105 #[str l] w fun e w' => e = .returned (faultV tKind aK) ∧ Below w.heap.size w w' := by
  have hp := kind_yes h
  have C := Lib.hid (get_any l 9 w E)
  unfold gotV at C
  clear h
  generalize getV l 9 = n at h1 hp C
  generalize getB l 9 = b at C
  have q0 : (n == 0) = false := by rw [beq_eq_false_iff_ne]; omega
  have q1 : (n == 1) = false := by rw [beq_eq_false_iff_ne]; exact h1
  clear h1 hp
  go_enter Tryz.func105, Tryz.ntmps105
  go_wp2_with (go_at_call 68; refine C.out.mono ?_; rintro e w1 ⟨rfl, b1⟩; have k := (R.below b1).kind)
  go_ret
  exact ⟨rfl, b1⟩

set_option maxHeartbeats 1000000 in
set_option maxRecDepth 100000 in
theorem inside_any (l : List UInt8) (hl : l.length ≤ 1000000) (w : World) (E : Env w) :
    Calls Tryz.prog 74 #[str l] w fun e w' => e = .returned (str (insL l)) ∧ Below w.heap.size w w' := by
  have C : ∀ (s : List UInt8) (c : UInt8), s.length ≤ 1000000 → ∀ W, Env W → Calls Tryz.prog 66 #[str s, .string ⟨#[c]⟩] W fun e w' => e = .returned (.tuple #[str (Lib.cut s [c]).1, str (Lib.cut s [c]).2.1, .bool (Lib.cut s [c]).2.2]) ∧ Below W.heap.size W w' := fun s c hs W EW => by
    obtain ⟨m, hm⟩ := EW.most
    have h := Tryz.strings_Cut ⟨s.toArray⟩ ⟨#[c]⟩ m W (by rw [size_of]; omega) hm
    rw [show (ByteArray.mk s.toArray).data.toList = s from by simp, show (ByteArray.mk #[c]).data.toList = [c] from rfl] at h
    refine h.mono ?_
    rintro e w' ⟨he, n, rfl⟩
    exact ⟨he, ⟨rfl, rfl, rfl, Nat.le_refl _, fun _ _ => rfl⟩⟩
  rcases first_at 40 l with h | ⟨p, r, rfl, hp⟩
  · have hi := Lib.hid (ins_no h)
    have C1 := Lib.hid (C l 40 hl w E)
    rw [cut_no h] at C1
    have C2 := Lib.hid (C [] 41 (by simp))
    rw [cut_no (l := []) (c := 41) (by simp)] at C2
    clear C h
    go_enter Tryz.func74, Tryz.ntmps74
    go_wp2_with (first | (go_at_call 66; with_reducible refine C1.out.mono ?_; rintro e w1 ⟨rfl, b1⟩) | (go_at_call 66; with_reducible refine (C2.out _ (E.below b1)).mono ?_; rintro e w2 ⟨rfl, b2⟩))
    go_ret
    rw [hi.out]; exact ⟨rfl, below_trans b1 b2⟩
  · have C1 := Lib.hid (C (p ++ 40 :: r) 40 hl w E)
    rw [cut_at hp] at C1
    have hr : r.length ≤ 1000000 := by simp at hl; omega
    have C2 := Lib.hid (C r 41 hr)
    rcases first_at 41 r with h | ⟨q, t, rfl, hq⟩
    · have hi := Lib.hid (ins_half hp h)
      rw [cut_no h] at C2
      clear C h hp hl
      generalize p ++ 40 :: r = l at C1 hi ⊢
      go_enter Tryz.func74, Tryz.ntmps74
      go_wp2_with (first | (go_at_call 66; with_reducible refine C1.out.mono ?_; rintro e w1 ⟨rfl, b1⟩) | (go_at_call 66; with_reducible refine (C2.out _ (E.below b1)).mono ?_; rintro e w2 ⟨rfl, b2⟩))
      go_ret
      rw [hi.out]; exact ⟨rfl, below_trans b1 b2⟩
    · have hi := Lib.hid (ins_both (r := t) hp hq)
      rw [cut_at hq] at C2
      clear C hp hl hr
      generalize p ++ 40 :: (q ++ 41 :: t) = l at C1 hi ⊢
      generalize q ++ 41 :: t = r at C1 C2
      go_enter Tryz.func74, Tryz.ntmps74
      go_wp2_with (first | (go_at_call 66; with_reducible refine C1.out.mono ?_; rintro e w1 ⟨rfl, b1⟩) | (go_at_call 66; with_reducible refine (C2.out _ (E.below b1)).mono ?_; rintro e w2 ⟨rfl, b2⟩))
      go_ret
      rw [hi.out]; exact ⟨rfl, below_trans b1 b2⟩

end Go.Proofs.YtdimfppijcebjaaGreatDoor.Ext
