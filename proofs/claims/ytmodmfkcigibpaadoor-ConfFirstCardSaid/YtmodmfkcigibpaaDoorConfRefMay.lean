/- The document's answer of layer 13: whether a conf may be (gen-conf-ref.py). -/
import Derived.Test.YtmodmfkcigibpaaDoorConfRefWhy
namespace Go.Proofs.YtmodmfkcigibpaaDoor.Co
open Go.Proofs.YtmodmfkcigibpaaDoor Go.Proofs.YtmodmfkcigibpaaDoor.Ac Go.Proofs.YtmodmfkcigibpaaDoor.Ro
open Go Go.ChangeShapes Go.WideShapes Go.ChangeAt Go.RowKit
set_option maxRecDepth 100000
set_option linter.unusedSimpArgs false
set_option linter.unusedVariables false

set_option maxHeartbeats 4000000 in
theorem rmayc_any (a b c d : Int) (tv : Value) (pre life idle : Int) (lf : Bool) (l : List Tn) (hf : Few l) (w : World) (H : TensIs w tv l) :
    Calls Tryd.prog 13 #[confV a b c d tv pre life idle lf] w fun e w' => e = .returned (.bool (mayC pre life idle l)) ∧ Below w.heap.size w w' := by
  have HTr := Lib.hid H
  obtain ⟨z1, z2, hz⟩ : ∃ x y, why pre life idle l = (x, y) := ⟨_, _, rfl⟩
  have HWh := Lib.hid (fun W HR => rwhy_of a b c d tv pre life idle lf l hf z1 z2 hz W HR)
  clear H hf
  have HV := Lib.hid (mayC_eq hz)
  clear hz
  generalize mayC pre life idle l = m at HV ⊢
  obtain ⟨p, n, cc, rfl, hn⟩ := HTr.out.form
  clear hn
  have C0 := Lib.hid (IsRow.made w 26 #[.int .u8 a, .int .u8 b, .int .u8 c, .int .u8 d, .slice p n cc, .int .i64 pre, .int .i64 life, .int .i64 idle, .bool lf])
  have B0 := Lib.hid ((Below.refl w.heap.size w).alloc (Nat.le_refl _) (.cells #[.int .u8 a, .int .u8 b, .int .u8 c, .int .u8 d, .slice p n cc, .int .i64 pre, .int .i64 life, .int .i64 idle, .bool lf] 26))
  go_enter Tryd.func13, Tryd.ntmps13
  go_wp2_with (first
    | (go_at_call 12; refine (HWh.out _ (HTr.out.call B0.out)).mono ?_; rintro e w1 ⟨rfl, b1⟩; have B1 := Lib.hid (B0.out.trans (b1.mono B0.out.size)); clear HWh b1))
  go_ret
  exact ⟨by rw [HV.out] <;> rfl, B1.out⟩

#print axioms rmayc_any
end Go.Proofs.YtmodmfkcigibpaaDoor.Co
