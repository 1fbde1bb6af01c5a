/- The contract of package line: Print; what it tells with Feed and Same. -/
import Derived.Test.YtampgoicogfccaaLineAny
import Derived.Test.YtampgoicogfccaaLinePrint
namespace Go.Proofs.Ytampgoicogfccaa.Ln
open Go.Proofs.Ytampgoicogfccaa
open Go.ChangeShapes Go.WideShapes Go.ChangeAt Go.RowKit
set_option linter.unusedSimpArgs false

set_option maxHeartbeats 4000000 in
set_option maxRecDepth 100000 in
theorem print_any (s : List UInt8) (most : Int) (hl : s.length ≤ 140737488351232) (w : World) :
    Calls Try.prog 14 #[.string ⟨s.toArray⟩, .int .i64 most] w (PrintPost s most w) := by
  by_cases hm : most < (s.length : Int)
  · have hp : prn s most = false := decide_eq_false (by omega)
    have HP := Lib.hid hp
    clear hp
    go_enter Try.func14, Try.ntmps14
    go_wp2_with fail
    go_ret2
    exact ⟨.slice none 0 0, by rw [HP.out]; rfl, by rw [HP.out]; exact .nil _, Below.refl _ _⟩
  · have KC := Lib.hid (containsany_any s hl w)
    by_cases hx : (10 : UInt8) ∈ s ∨ (13 : UInt8) ∈ s
    · have hp : prn s most = false := decide_eq_false (by rintro ⟨_, h1, h2⟩; exact hx.elim h1 h2)
      rw [decide_eq_true hx] at KC
      have HP := Lib.hid hp
      clear hp hx
      go_enter Try.func14, Try.ntmps14
      go_wp2_with (go_at_call 21; refine KC.out.mono ?_; rintro e w2 ⟨rfl, b2⟩; have B2 := Lib.hid b2; clear b2)
      go_ret2
      exact ⟨.slice none 0 0, by rw [HP.out]; rfl, by rw [HP.out]; exact .nil _, B2.out⟩
    · have hp : prn s most = true := decide_eq_true ⟨by omega, fun h => hx (Or.inl h), fun h => hx (Or.inr h)⟩
      rw [decide_eq_false hx] at KC
      have HP := Lib.hid hp
      have hcat : (ByteArray.mk s.toArray ++ ByteArray.mk #[13, 10]) = ⟨(s ++ [13, 10]).toArray⟩ := by
        apply ByteArray.ext
        simp [ByteArray.data_append]
      have HC := Lib.hid hcat
      have HL : Hid ((s ++ [13, 10]).length = s.length + 2) := Lib.hid (by simp)
      clear hp hx hcat
      go_enter Try.func14, Try.ntmps14
      go_wp2_with (go_at_call 21; refine KC.out.mono ?_; rintro e w2 ⟨rfl, b2⟩; obtain ⟨x, w3, hcv, hfr, b3⟩ := conv_bytes w2 (s ++ [13, 10]) (by simp; omega); rw [← HC.out] at hcv; obtain ⟨px, nx, rfl⟩ := hfr.bytes.form; have X3 := Lib.hid hfr.bytes; rw [HL.out] at hcv X3; have B3 := Lib.hid (b2.trans (b3.mono b2.size)); clear b2 b3 hfr)
      go_ret2
      exact ⟨.slice px (s.length + 2) nx, by rw [HP.out]; rfl, by rw [HP.out]; exact X3.out, B3.out⟩

#print axioms print_any
end Go.Proofs.Ytampgoicogfccaa.Ln
