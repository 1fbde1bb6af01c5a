/- The contracts of the document's answer of layer 7: wharfingerref07.Upper, Find. -/
import Derived.Test.YtdimfppijcebjaaGreatDoorVerbAll
import Derived.Test.YtdimfppijcebjaaGreatDoorBytes
import Derived.LoopTactic
import Derived.WalkMore
namespace Go.Proofs.YtdimfppijcebjaaGreatDoor.Vb
open Go.Proofs.YtdimfppijcebjaaGreatDoor
open Go.ChangeShapes Go.WideShapes Go.ChangeAt Go.RowKit
set_option maxRecDepth 100000
set_option linter.unusedSimpArgs false

theorem up_value {c : UInt8} (h1 : 97 ≤ c.toNat) (h2 : c.toNat ≤ 122) : (c.toNat : Int) - 97 + 65 = ((upB c).toNat : Int) := by
  unfold upB
  rw [if_pos ⟨h1, h2⟩, UInt8.toNat_ofNat_of_lt' (by show c.toNat - 32 < 256; omega)]
  omega
theorem up_same {c : UInt8} (h : ¬ (97 ≤ c.toNat ∧ c.toNat ≤ 122)) : upB c = c := by
  unfold upB
  rw [if_neg h]
theorem upper_next {s : List UInt8} {k : Nat} (hk : k < s.length) : upper (s.take (k + 1)) = upper (s.take k) ++ [upB s[k]] := by
  unfold upper
  rw [List.take_succ_eq_append_getElem hk, List.map_append]
  rfl
theorem cat_one (l : List UInt8) (c : UInt8) : (ByteArray.mk l.toArray ++ ByteArray.mk [c].toArray) = ⟨(l ++ [c]).toArray⟩ := by
  apply ByteArray.ext
  simp [ByteArray.data_append]



end Go.Proofs.YtdimfppijcebjaaGreatDoor.Vb
