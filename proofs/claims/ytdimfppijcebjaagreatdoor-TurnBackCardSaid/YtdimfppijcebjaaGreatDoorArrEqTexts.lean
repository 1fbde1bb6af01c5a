/- Two addresses as texts are compared. -/
import Derived.Test.YtdimfppijcebjaaGreatDoorArrEq
namespace Go.Proofs.YtdimfppijcebjaaGreatDoor
open Go

theorem equal_texts (a b c e a' b' c' e' : List UInt8) (w : World) :
    (Op.equalIn 10000 114 (.agg #[.string ⟨a.toArray⟩, .string ⟨b.toArray⟩, .string ⟨c.toArray⟩, .string ⟨e.toArray⟩]) (.agg #[.string ⟨a'.toArray⟩, .string ⟨b'.toArray⟩, .string ⟨c'.toArray⟩, .string ⟨e'.toArray⟩])).run Tryz.prog w = .ok (a == a' && b == b' && c == c' && e == e') w :=
  equal_four 9999 114 9 _ _ (.string ⟨a.toArray⟩) (.string ⟨b.toArray⟩) (.string ⟨c.toArray⟩) (.string ⟨e.toArray⟩) (.string ⟨a'.toArray⟩) (.string ⟨b'.toArray⟩) (.string ⟨c'.toArray⟩) (.string ⟨e'.toArray⟩) _ _ _ _ w Tryz.underlying114 (fun _ => by kernel_rfl)
    (fun _ => by kernel_rfl) (fun _ => by kernel_rfl) (fun _ => by kernel_rfl) (fun _ => by kernel_rfl) (fun _ => by kernel_rfl) (fun _ => by kernel_rfl) (fun _ => by kernel_rfl) (fun _ => by kernel_rfl)
    (equal_str 9998 a a') (equal_str 9998 b b') (equal_str 9998 c c') (equal_str 9998 e e')

#print axioms equal_texts
end Go.Proofs.YtdimfppijcebjaaGreatDoor
