/- strings.IndexRune of a rune beyond ASCII in "\r\n": there is none. What a rune's bytes are. -/
import Derived.Test.YtampgoicogfccaaBlocks
import Derived.Test.YtampgoicogfccaaShelf
import Derived.Laws.Runes
import Derived.Laws.RangeAny
import Derived.Laws.Strings3
import Derived.Lib.IndexAny
import Derived.Lib.IndexBytes
import Derived.Lib.Hide
import Derived.WalkKit
import Derived.WalkMore
import Derived.Below
import Derived.LoopTactic
import Derived.Deep.RegionLaw
namespace Go.Proofs.Ytampgoicogfccaa.Ln
open Go.Proofs.Ytampgoicogfccaa
open Go.RowKit
set_option linter.unusedSimpArgs false

theorem get_nth (s : ByteArray) (i : Nat) (h : i < s.size) : s.get! i = s[i]'h := by
  simp [ByteArray.get!, getElem!_pos, h]
  rfl
theorem cont_high {s : ByteArray} {pos k : Nat} (h : (decide (pos + k < s.size) && (s.get! (pos + k)).toNat / 64 == 2) = true) : ∃ hk : pos + k < s.size, 128 ≤ (s[pos + k]'hk).toNat := by
  simp only [Bool.and_eq_true, decide_eq_true_eq, beq_iff_eq] at h
  refine ⟨h.1, ?_⟩
  have h2 := h.2
  rw [get_nth s _ h.1] at h2
  omega
/-- a rune beyond ASCII has bytes beyond ASCII alone -/
theorem dec_skip (s : ByteArray) (pos : Nat) (h : pos < s.size) (ha : 128 ≤ (s[pos]'h).toNat) : ∀ j, j < (Utf8.decode s pos).2 → ∃ hj : pos + j < s.size, 128 ≤ (s[pos + j]'hj).toNat := by
  have hn : ¬ (s[pos]'h).toNat < 128 := by omega
  have z : ∀ j, j < 1 → ∃ hj : pos + j < s.size, 128 ≤ (s[pos + j]'hj).toNat := by
    intro j hj
    obtain rfl : j = 0 := by omega
    exact ⟨h, ha⟩
  intro j
  simp only [Utf8.decode, get_at s pos h, hn, if_false]
  split
  · rename_i h1
    have c1 := cont_high (Bool.and_eq_true_iff.1 h1).2
    split
    · intro hj
      have hj : j < 2 := hj
      match j, hj with
      | 0, _ => exact ⟨h, ha⟩
      | 1, _ => exact c1
    · exact z j
  · split
    · rename_i h1
      have h2 := Bool.and_eq_true_iff.1 h1
      have c1 := cont_high (Bool.and_eq_true_iff.1 h2.1).2
      have c2 := cont_high h2.2
      split
      · intro hj
        have hj : j < 3 := hj
        match j, hj with
        | 0, _ => exact ⟨h, ha⟩
        | 1, _ => exact c1
        | 2, _ => exact c2
      · exact z j
    · split
      · rename_i h1
        have h2 := Bool.and_eq_true_iff.1 h1
        have h3 := Bool.and_eq_true_iff.1 h2.1
        have c1 := cont_high (Bool.and_eq_true_iff.1 h3.1).2
        have c2 := cont_high h3.2
        have c3 := cont_high h2.2
        split
        · intro hj
          have hj : j < 4 := hj
          match j, hj with
          | 0, _ => exact ⟨h, ha⟩
          | 1, _ => exact c1
          | 2, _ => exact c2
          | 3, _ => exact c3
        · exact z j
      · exact z j

abbrev crlf : ByteArray := ⟨#[13, 10]⟩

set_option maxHeartbeats 4000000 in
set_option maxRecDepth 100000 in
theorem indexrune_error (w : World) :
    Calls Try.prog 26 #[.string ⟨#[13, 10]⟩, .int .i32 65533] w fun e w' => e = .returned (.int .i64 (-1)) ∧ Below w.heap.size w w' := by
  have n0 := fun ty => run_next_ascii (P := Try.prog) w crlf 0 ty (by decide) (by decide)
  have n1 := fun ty => run_next_ascii (P := Try.prog) w crlf 1 ty (by decide) (by decide)
  have n2 := fun ty => run_next_end (P := Try.prog) w crlf 2 ty (by decide)
  have x0 : (((crlf[0]'(by decide)).toNat : Nat) : Int) = 13 := by decide
  have x1 : (((crlf[1]'(by decide)).toNat : Nat) : Int) = 10 := by decide
  simp only [x0] at n0
  simp only [x1] at n1
  clear x0 x1
  go_enter Try.func26, Try.ntmps26
  go_wp2_with fail
  refine wp_loop_rounds 4 ?_
  rw [rounds_succ]
  go_wp2_with fail
  rw [rounds_succ]
  go_wp2_with fail
  rw [rounds_succ]
  go_wp2_with fail
  go_ret
  exact ⟨rfl, (Below.refl _ _).alloc (Nat.le_refl _) _⟩

set_option maxHeartbeats 4000000 in
set_option maxRecDepth 100000 in
theorem indexrune_bad (r : Int) (h1 : 128 ≤ r) (h2 : r ≠ 65533) (hv : Lib.validRune r = false) (w : World) :
    Calls Try.prog 26 #[.string ⟨#[13, 10]⟩, .int .i32 r] w fun e w' => e = .returned (.int .i64 (-1)) ∧ w' = w := by
  have q1 : ¬ r < 128 := by omega
  have q2 : (r == 65533) = false := beq_eq_false_iff_ne.2 h2
  go_enter Try.func26, Try.ntmps26
  go_wp2_with (go_at_call 31; refine (Try.utf8_ValidRune _ _).mono ?_; rintro e w' ⟨rfl, rfl⟩; rw [hv])
  go_ret
  exact ⟨rfl, rfl⟩

set_option maxHeartbeats 4000000 in
set_option maxRecDepth 100000 in
theorem indexrune_high (r : Int) (h1 : 128 ≤ r) (h2 : r ≠ 65533) (hv : Lib.validRune r = true) (w : World) :
    Calls Try.prog 26 #[.string ⟨#[13, 10]⟩, .int .i32 r] w fun e w' => e = .returned (.int .i64 (-1)) ∧ Below w.heap.size w w' := by
  have q1 : ¬ r < 128 := by omega
  have q2 : (r == 65533) = false := beq_eq_false_iff_ne.2 h2
  obtain ⟨s2, s4, hb⟩ := encode_facts r (by rw [validRune_eq]; exact hv) h1
  generalize hE : Utf8.encode r = E at *
  by_cases h3 : E.size = 2
  · obtain ⟨a, b, rfl, hb'⟩ : ∃ a b : UInt8, E = ⟨#[a, b]⟩ ∧ 128 ≤ b.toNat := by
      have e := hb (by omega)
      obtain ⟨⟨l⟩⟩ := E
      match l, h3 with
      | [a, b], _ => exact ⟨a, b, rfl, e⟩
    have qb : ((((ByteArray.mk #[13, 10])[1]'(by decide)).toNat : Int) != (((ByteArray.mk #[a, b])[1]'(by show 1 < 2; omega)).toNat : Int)) = true := by
      show ((10 : Int) != (b.toNat : Int)) = true
      simp; omega
    have hw2 : IntKind.i64.wrap 2 = 2 := by decide
    have hcall : ∀ W, Calls Try.prog 30 #[.string ByteArray.empty, .int .u8 (((ByteArray.mk #[a, b])[1]'(by show 1 < 2; omega)).toNat : Int)] W fun e w' => e = .returned (.int .i64 (-1)) ∧ w' = W := fun W =>
      (Try.strings_IndexByte ByteArray.empty _ W).mono fun e w' ⟨h1, h2⟩ => ⟨h1, h2⟩
    clear hb s2 s4 h3
    go_enter Try.func26, Try.ntmps26
    go_wp2_with (go_at_call 31; refine (Try.utf8_ValidRune _ _).mono ?_; rintro e w' ⟨rfl, rfl⟩; rw [hv])
    go_step3
    go_wp2_with fail
    refine wp_loop_rounds 2 ?_
    rw [rounds_succ]
    go_wp2_with fail
    go_step3
    go_wp2_with fail
    go_region
    go_wp2_with fail
    go_region_law (go_simp; go_at_call 30; refine (hcall _).mono ?_; rintro e w3 ⟨rfl, rfl⟩)
    all_goals (go_wp2_with fail)
    all_goals (
      show Exit.noGoto _ _ _ _
      simp (config := {zetaDelta := true}) only [Exit.noGoto, Exit.inBlock, Exit.then]
      go_ret
      exact ⟨rfl, ((Below.refl _ _).drew).drew⟩)
  · have q3 : ¬ (E.size : Int) - 1 < 2 := by omega
    go_enter Try.func26, Try.ntmps26
    go_wp2_with (go_at_call 31; refine (Try.utf8_ValidRune _ _).mono ?_; rintro e w' ⟨rfl, rfl⟩; rw [hv])
    go_step3
    go_wp2_with fail
    refine wp_loop_rounds 2 ?_
    rw [rounds_succ]
    go_wp2_with fail
    show Exit.noGoto _ _ _ _
    simp (config := {zetaDelta := true}) only [Exit.noGoto, Exit.inBlock]
    go_ret
    exact ⟨rfl, Below.refl _ _⟩

/-- there is no rune beyond ASCII in "\r\n" -/
theorem indexrune_any (r : Int) (h1 : 128 ≤ r) (w : World) :
    Calls Try.prog 26 #[.string ⟨#[13, 10]⟩, .int .i32 r] w fun e w' => e = .returned (.int .i64 (-1)) ∧ Below w.heap.size w w' := by
  by_cases h2 : r = 65533
  · subst h2; exact indexrune_error w
  · cases hv : Lib.validRune r with
    | false => exact (indexrune_bad r h1 h2 hv w).mono fun e w' ⟨a, b⟩ => ⟨a, b ▸ Below.refl _ _⟩
    | true => exact indexrune_high r h1 h2 hv w

#print axioms indexrune_any
end Go.Proofs.Ytampgoicogfccaa.Ln
