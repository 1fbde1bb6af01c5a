/- The contracts of quad.Text and quad.Read. -/
import Derived.Test.YtdimfppijcebjaaGreatDoorQuadHost
import Derived.Outline
import Derived.StillTailTactics
import Derived.Laws.CopyOwn
import Derived.BigQuiet
namespace Go.Proofs.YtdimfppijcebjaaGreatDoor.Quad
open Go.ChangeShapes Go.WideShapes Go.ChangeAt Go.RowKit Go.Sort

theorem join_four (b : Nat) (t : TypeId) (p q r s : List UInt8) (hlen : p.length + q.length + r.length + s.length ≤ 1000000) (w : World) (hr : IsRow w b t #[str p, str q, str r, str s]) :
    Calls Tryz.prog 58 #[.slice (some ⟨b, 0, none⟩) 4 4, .string ⟨#[46]⟩] w fun e w' => e = .returned (str (p ++ 46 :: (q ++ 46 :: (r ++ 46 :: s)))) ∧ Below w.heap.size w w' := by
  have e : Lib.join ([p, q, r, s] : List (List UInt8)) [46] = p ++ 46 :: (q ++ 46 :: (r ++ 46 :: s)) := by
    simp [Lib.join, List.intercalate]
  have em : (([⟨p.toArray⟩, ⟨q.toArray⟩, ⟨r.toArray⟩, ⟨s.toArray⟩] : List ByteArray).map (·.data.toList)) = [p, q, r, s] := by simp
  have c := Tryz.strings_Join b 0 4 [⟨p.toArray⟩, ⟨q.toArray⟩, ⟨r.toArray⟩, ⟨s.toArray⟩] ⟨#[46]⟩ w (fun j x hx => by
    rw [Nat.zero_add, hr.cell j]
    match j, hx with
    | 0, hx => simp at hx; subst hx; rfl
    | 1, hx => simp at hx; subst hx; rfl
    | 2, hx => simp at hx; subst hx; rfl
    | 3, hx => simp at hx; subst hx; rfl
    | j + 4, hx => simp at hx) hr.lt (by simp) (by simp) (by rw [em, e]; simp; omega)
  rw [em, e] at c
  exact c

set_option maxHeartbeats 1000000 in
set_option maxRecDepth 100000 in
theorem text_any (a b c d : Int) (ha : 0 ≤ a) (ha' : a ≤ 255) (hb : 0 ≤ b) (hb' : b ≤ 255) (hc : 0 ≤ c) (hc' : c ≤ 255) (hd : 0 ≤ d) (hd' : d ≤ 255) (w : World) (E : Env w) :
    Calls Tryz.prog 60 #[hostV a b c d] w fun e w' => e = .returned (str (textL a b c d)) ∧ Below w.heap.size w w' := by
  have la := itoa_short ha ha'; have lb := itoa_short hb hb'; have lc := itoa_short hc hc'; have ld := itoa_short hd hd'
  go_enter Tryz.func60, Tryz.ntmps60
  go_wp2_with (go_at_call 80; refine (write_any a b c d ha ha' hb hb' hc hc' hd hd' _ ?_).mono ?_)
  · exact E.alloc _
  rintro e w1 ⟨rfl, b1⟩
  have B1 : Below w.heap.size w w1 := ((Below.refl _ _).alloc (Nat.le_refl _) _).trans (b1.mono (by simp))
  clear b1
  go_wp2_with (go_at_call 58; refine (join_four _ 114 (Lib.itoa a) (Lib.itoa b) (Lib.itoa c) (Lib.itoa d) (by omega) _ ?_).mono ?_)
  · exact IsRow.made _ _ _
  rintro e w2 ⟨rfl, b2⟩
  go_wp2_with fail
  go_ret
  exact ⟨rfl, (B1.alloc B1.size _).trans (b2.mono (by have := B1.size; simp; omega))⟩

end Go.Proofs.YtdimfppijcebjaaGreatDoor.Quad
