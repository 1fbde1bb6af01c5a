/- Plain facts on a trail: the parts that texts have led to, at most a hundred, and how many more lie below those. No program in this text. -/
import Derived.Test.YtojpahnfhhbnoaaDoorPathPlain
namespace Go.Proofs.YtojpahnfhhbnoaaDoor.Pt
open Go Go.Proofs.YtojpahnfhhbnoaaDoor.Cm Go.Proofs.YtojpahnfhhbnoaaDoor.Quad
set_option maxRecDepth 100000

/-- L are the first hundred of the parts F, and b are those behind them -/
structure Trail (F L : Ps) (b : Nat) : Prop where
  eq : L = F.take 100
  num : F.length = L.length + b
  full : 0 < b → L.length = 100
theorem Trail.short {F L : Ps} {b : Nat} (h : Trail F L b) : L.length ≤ 100 := by rw [h.eq, List.length_take]; omega
theorem Trail.same {F L : Ps} (h : Trail F L 0) : L = F := by
  have h1 := h.num
  rw [h.eq]
  refine List.take_of_length_le ?_
  have h2 := h.eq
  have : L.length ≤ 100 := h.short
  omega
theorem Trail.start {F : Ps} (h : F.length ≤ 100) : Trail F F 0 := ⟨(List.take_of_length_le h).symm, rfl, fun h => absurd h (by decide)⟩
theorem Trail.more {F L : Ps} {b : Nat} (h : Trail F L b) (hf : L.length = 100) (p : List UInt8) : Trail (F ++ [p]) L (b + 1) := by
  have hn := h.num
  refine ⟨?_, by rw [List.length_append]; simp; omega, fun _ => hf⟩
  rw [List.take_append_of_le_length (by omega)]
  exact h.eq
theorem Trail.onto {F L : Ps} {b : Nat} (h : Trail F L b) (hf : L.length ≠ 100) (p : List UInt8) : b = 0 ∧ Trail (F ++ [p]) (L ++ [p]) 0 := by
  have hb : b = 0 := by
    rcases Nat.eq_zero_or_pos b with e | e
    · exact e
    · exact absurd (h.full e) hf
  subst hb
  have hs := h.short
  have := h.same
  subst this
  refine ⟨rfl, Trail.start ?_⟩
  rw [List.length_append]; simp; omega
theorem Trail.back {F L : Ps} {b : Nat} (h : Trail F L (b + 1)) : Trail F.dropLast L b := by
  have hn := h.num
  have hf := h.full (by omega)
  refine ⟨?_, by rw [List.length_dropLast]; omega, fun _ => hf⟩
  rw [List.dropLast_eq_take, List.take_take, Nat.min_eq_left (by omega)]
  exact h.eq
theorem Trail.less {F L : Ps} (h : Trail F L 0) : Trail F.dropLast L.dropLast 0 := by
  have hs := h.short
  have := h.same
  subst this
  exact Trail.start (by rw [List.length_dropLast]; omega)

theorem whole_least {l : Ps} (h : ∀ p ∈ l, p ≠ []) : 2 * l.length ≤ (whole l).length := by
  induction l with
  | nil => exact Nat.zero_le _
  | cons p l ih =>
    have hp := List.length_pos_iff.2 (h p (by simp))
    have hi := ih (fun q hq => h q (by simp [hq]))
    rw [whole_cons, List.length_cons, List.length_cons, List.length_append]
    omega
theorem pathOf_least {l : Ps} (h : ∀ p ∈ l, p ≠ []) : 2 * l.length ≤ (pathOf l).length := by
  cases l with
  | nil => exact Nat.zero_le _
  | cons p l => rw [pathOf_ne (by simp)]; exact whole_least h
theorem good_ne {l : Ps} (h : Good l) : ∀ p ∈ l, p ≠ [] := fun p hp => ((okP_iff p).1 (h.ok p hp)).1
/-- with more than a hundred parts no path has room -/
theorem Trail.over {F L : Ps} {b : Nat} (h : Trail F L b) (hb : 0 < b) (hg : Good F) : ¬ (pathOf F).length ≤ 200 := by
  have h1 := pathOf_least (good_ne hg)
  have h2 := h.num
  have h3 := h.full hb
  omega
/-- a path that may be has a hundred parts at most -/
theorem parts_hundred {s : List UInt8} (h : mayP s = true) : (parts s).length ≤ 100 := by
  have h1 := pathOf_least (good_ne (good_parts h))
  rw [path_parts (may_parts h).slash] at h1
  have := (may_parts h).short
  omega
theorem start_few {c a : List UInt8} (h : mayP c = true) : (start c a).length ≤ 100 := by
  unfold start; split
  · exact Nat.zero_le _
  · exact parts_hundred h

/-- a stroke, and the parts with strokes between: the path -/
theorem join_whole : ∀ (p : List UInt8) (l : Ps), Lib.join (p :: l) [47] = p ++ whole l
  | p, [] => by simp [Lib.join, List.intercalate, whole_nil]
  | p, q :: l => by
    have ih := join_whole q l
    rw [whole_cons, ← ih]
    simp [Lib.join, List.intercalate, List.intersperse]
theorem join_path (l : Ps) : 47 :: Lib.join l [47] = pathOf l := by
  cases l with
  | nil => simp [Lib.join, List.intercalate, pathOf_nil]
  | cons p l => rw [join_whole, pathOf_ne (by simp), whole_cons]
theorem cut_count : ∀ (l : List UInt8), (cutL 47 l).length = l.count 47 + 1
  | [] => rfl
  | b :: r => by
    have ih := cut_count r
    by_cases h : b = 47
    · subst h
      rw [cut_slash, List.length_cons, ih, List.count_cons_self]
    · rw [List.count_cons_of_ne h, ← ih]
      simp only [cutL, if_neg h]
      cases hc : cutL 47 r with
      | nil => exact absurd hc (cutL_ne 47 r)
      | cons q t => rfl
/-- what Split makes of a text at a stroke -/
theorem split_cut (l : List UInt8) : Lib.splitK [47] 0 (Lib.count l [47]) l = cutL 47 l :=
  splitK_few _ _ (by rw [cut_count, Lib.count_one]; exact Nat.le_refl _)
theorem join_le : ∀ (l : Ps), (Lib.join l [47]).length ≤ (whole l).length
  | [] => by simp [Lib.join, List.intercalate]
  | p :: l => by rw [join_whole, whole_cons, List.length_cons]; omega

#print axioms Trail.over
#print axioms join_path
#print axioms split_cut
end Go.Proofs.YtojpahnfhhbnoaaDoor.Pt
