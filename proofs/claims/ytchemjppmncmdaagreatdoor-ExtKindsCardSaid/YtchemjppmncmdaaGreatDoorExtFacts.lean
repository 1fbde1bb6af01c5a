/- Plain facts on how ext's code reads: ports, kinds, the five parts, what stands between brackets, the marks ahead and behind. No program in this text. -/
import Derived.Test.YtchemjppmncmdaaGreatDoorExtPlain
import Derived.Lib.IndexMore
import Derived.Lib.Strings
namespace Go.Proofs.YtchemjppmncmdaaGreatDoor.Ext
open Go Go.Proofs.YtchemjppmncmdaaGreatDoor.Quad Go.Proofs.YtchemjppmncmdaaGreatDoor.Six

def portN (n : Int) : Bool := decide (1 ≤ n) && decide (n ≤ 65535)
def markN (n : Int) : Bool := decide (33 ≤ n) && decide (n ≤ 126) && (decide (n < 48) || decide (57 < n))
theorem mark_is (c : UInt8) : markN (c.toNat : Int) = markB c := by
  unfold markN markB
  rw [Bool.eq_iff_iff]
  simp
  omega
theorem port_is (l : List UInt8) : portN (getV l 65535) = portB l := by
  unfold portN portB
  have h1 := getV_hi (l := l) (most := 65535) (by omega)
  cases hB : getB l 65535 with
  | false => rw [getV_no hB]; rfl
  | true => simp [h1]
theorem port_some {l : List UInt8} (h : portB l = true) : 1 ≤ getV l 65535 ∧ getV l 65535 ≤ 65535 := by
  rw [← port_is] at h
  unfold portN at h
  simpa using h
theorem kind_no {l : List UInt8} (h : kindB l = false) : getV l 9 = 0 := by
  have h0 := getV_lo l 9
  cases hB : getB l 9 with
  | false => exact getV_no hB
  | true =>
    unfold kindB at h
    rw [hB] at h
    simp at h
    omega
theorem kind_yes {l : List UInt8} (h : kindB l = true) : 1 ≤ getV l 9 := by
  unfold kindB at h
  simp at h
  exact h.2

/-! five parts -/
def parts5 (c : UInt8) (l : List UInt8) : List (List UInt8) := Lib.splitK [c] 0 (min 5 (l.length + 1) - 1) l
theorem splitK_more (c : UInt8) : ∀ (k : Nat) (l : List UInt8), k + 1 < (cutL c l).length → (Lib.splitK [c] 0 k l).getD k [] ≠ []
  | 0, l, h => by
    have e : Lib.splitK [c] 0 0 l = [l] := by simp [Lib.splitK]
    rw [e]
    intro h2
    have h3 : l = [] := by simpa using h2
    subst h3
    simp [cutL] at h
  | k + 1, l, h => by
    rcases first_at c l with h' | ⟨p, r, rfl, hp⟩
    · rw [cutL_whole h'] at h; simp at h
    · rw [cutL_at r hp] at h
      rw [splitK_at hp]
      simpa using splitK_more c k r (by simpa using h)
theorem parts5_count (c : UInt8) (l : List UInt8) : (parts5 c l).length = min 5 (cutL c l).length := by
  have h := splitK_count c (min 5 (l.length + 1) - 1) l
  have h1 := cutL_length_le c l
  unfold parts5
  rw [h]; omega
theorem parts5_is {c : UInt8} {l : List UInt8} (h : (cutL c l).length = 5) : parts5 c l = cutL c l := by
  have h1 := cutL_length_le c l
  unfold parts5
  exact splitK_few _ _ (by omega)
theorem parts5_more {c : UInt8} {l : List UInt8} (h : 5 < (cutL c l).length) : (parts5 c l).getD 4 [] ≠ [] := by
  have h1 := cutL_length_le c l
  have e : min 5 (l.length + 1) - 1 = 4 := by omega
  unfold parts5
  rw [e]
  exact splitK_more c 4 l (by omega)
def fiveL : List UInt8 → Bool
  | [] => false
  | c :: r => five c (c :: r)
theorem five_yes {c : UInt8} {l : List UInt8} (h : five c l = true) : markB c = true ∧ ∃ x k h q, cutL c l = [x, k, h, q, []] ∧ parts5 c l = [x, k, h, q, []] := by
  unfold five at h
  simp only [Bool.and_eq_true, beq_iff_eq] at h
  obtain ⟨hm, h5, h4⟩ := h
  refine ⟨hm, ?_⟩
  match hc : cutL c l, h5 with
  | [x, k, h, q, z], _ =>
    rw [hc] at h4
    simp at h4
    subst h4
    exact ⟨x, k, h, q, rfl, by rw [parts5_is (by rw [hc]; rfl), hc]⟩
/-- what the code sees of a text that begins by a mark, and has not five parts -/
theorem five_no {c : UInt8} {l : List UInt8} (hm : markB c = true) (h : five c l = false) : (parts5 c l).length ≠ 5 ∨ ∃ x k h q z, parts5 c l = [x, k, h, q, z] ∧ z ≠ [] := by
  by_cases h5 : (parts5 c l).length = 5
  · right
    have hc := parts5_count c l
    have hz : (parts5 c l).getD 4 [] ≠ [] := by
      by_cases h6 : (cutL c l).length = 5
      · unfold five at h
        rw [hm, h6] at h
        rw [parts5_is h6]
        simpa using h
      · exact parts5_more (by omega)
    match hp : parts5 c l, h5 with
    | [x, k, h, q, z], _ =>
      rw [hp] at hz
      exact ⟨x, k, h, q, z, rfl, by simpa using hz⟩
  · exact Or.inl h5
theorem fiveL_no {l : List UInt8} (h : fiveL l = false) : extC l = 2 := by
  cases l with
  | nil => rfl
  | cons c r => rw [extC_cons, show five c (c :: r) = false from h]; rfl
theorem extC_parts {c : UInt8} {r x k h q : List UInt8} (hf : five c (c :: r) = true) (hc : cutL c (c :: r) = [x, k, h, q, []]) :
    extC (c :: r) = (if kindB k then if getV k 9 = 1 then if readB h && portB q then 0 else 2 else 8 else 2) ∧ partOf (c :: r) 2 = h ∧ partOf (c :: r) 3 = q := by
  refine ⟨?_, by unfold partOf; simp only [hc]; rfl, by unfold partOf; simp only [hc]; rfl⟩
  rw [extC_cons, hf, hc]
  simp

/-! what stands between brackets -/
theorem cut_no {l : List UInt8} {c : UInt8} (h : c ∉ l) : Lib.cut l [c] = (l, [], false) := by
  unfold Lib.cut; rw [index_no h]; rfl
theorem cut_at {p r : List UInt8} {c : UInt8} (h : c ∉ p) : Lib.cut (p ++ c :: r) [c] = (p, r, true) := by
  unfold Lib.cut; rw [index_at h, if_pos (by omega)]; simp
theorem ins_no {l : List UInt8} (h : (40 : UInt8) ∉ l) : insL l = [] := by unfold insL; rw [insO_no h]; rfl
theorem ins_half {p r : List UInt8} (hp : (40 : UInt8) ∉ p) (hr : (41 : UInt8) ∉ r) : insL (p ++ 40 :: r) = [] := by unfold insL; rw [insO_at r hp, upto_no hr]; rfl
theorem ins_both {p q r : List UInt8} (hp : (40 : UInt8) ∉ p) (hq : (41 : UInt8) ∉ q) : insL (p ++ 40 :: (q ++ 41 :: r)) = q := by unfold insL; rw [insO_at _ hp, upto_at r hq]; rfl

/-! the marks ahead and behind -/
theorem suffix_one (v : List UInt8) (z c : UInt8) : Lib.hasSuffix (v ++ [z]) [c] = (c == z) := by
  unfold Lib.hasSuffix List.isSuffixOf
  simp [List.isPrefixOf]
theorem hold_is {c : UInt8} {r : List UInt8} (hm : markB c = true) :
    holdB (c :: r) = (Lib.hasPrefix (c :: r) [c, c, c] && (Lib.hasSuffix ((c :: r).drop 3) [c] && portB (((c :: r).drop 3).take (((c :: r).drop 3).length - 1)))) := by
  match r with
  | [] => simp [holdB, Lib.hasPrefix, List.isPrefixOf]
  | [d] => simp [holdB, Lib.hasPrefix, List.isPrefixOf]
  | d :: e :: u =>
    rcases List.eq_nil_or_concat u with rfl | ⟨v, z, rfl⟩
    · simp [holdB, Lib.hasSuffix, List.isSuffixOf]
    · have e0 : (c :: d :: e :: (v ++ [z])).drop 3 = v ++ [z] := rfl
      have e1 : (v ++ [z]).take ((v ++ [z]).length - 1) = v := by simp
      have e2 : mid (c :: d :: e :: (v ++ [z])) = v := by unfold mid; rw [e0]; simp
      have e3 : (c :: d :: e :: (v ++ [z])).getD ((c :: d :: e :: (v ++ [z])).length - 1) 0 = z := by
        simp [List.getD]
      simp only [List.concat_eq_append]
      rw [e0, e1, suffix_one]
      unfold holdB
      rw [e2, e3]
      simp only [List.getD_cons_zero, List.getD_cons_succ, hm, Lib.hasPrefix, List.isPrefixOf]
      cases v with
      | nil =>
        have : portB [] = false := by unfold portB; rw [ref_empty]; rfl
        simp [this]
      | cons y t =>
        have h5 : decide (5 ≤ (c :: d :: e :: (y :: t ++ [z])).length) = true := by simp
        rw [h5]
        rw [Bool.eq_iff_iff]
        simp
        constructor
        · rintro ⟨h1, h2, h3, h4⟩; exact ⟨⟨h1.symm, h2.symm⟩, h3.symm, h4⟩
        · rintro ⟨⟨h1, h2⟩, h3, h4⟩; exact ⟨h1.symm, h2.symm, h3.symm, h4⟩
theorem hold_mid {c : UInt8} {r : List UInt8} : mid (c :: r) = ((c :: r).drop 3).take (((c :: r).drop 3).length - 1) := by
  unfold mid
  congr 1
  simp
  omega
theorem hold_markless {c : UInt8} {r : List UInt8} (hm : markB c = false) : holdB (c :: r) = false := by
  unfold holdB
  simp [hm]

#print axioms hold_is
#print axioms five_no
end Go.Proofs.YtchemjppmncmdaaGreatDoor.Ext
