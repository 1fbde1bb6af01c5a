/- Plain facts on replies (layer 9): what is cut off a line at its first blank, where a reply ends, how it begins. No program in this text. -/
import Derived.Test.YtdimfppijcebjaaGreatDoorPlains
import Derived.Lib.Bytealg
namespace Go.Proofs.YtdimfppijcebjaaGreatDoor.Rp
open Go Go.Proofs.YtdimfppijcebjaaGreatDoor.Cm Go.Proofs.YtdimfppijcebjaaGreatDoor.Quad
set_option maxRecDepth 100000

theorem byte_index : ∀ (s : List UInt8), (Lib.indexByte s 32 = -1 ∧ head s = s ∧ rest s = []) ∨ (Lib.indexByte s 32 = ((head s).length : Int) ∧ s = head s ++ 32 :: rest s)
  | [] => Or.inl ⟨rfl, rfl, rfl⟩
  | b :: l => by
    by_cases hb : b = 32
    · subst hb
      refine Or.inr ⟨?_, ?_⟩
      · simp [Lib.indexByte, head]
      · simp [head, rest]
    · have hh : head (b :: l) = b :: head l := by unfold head; rw [List.takeWhile_cons_of_pos (by simpa using hb)]
      have hr : rest (b :: l) = rest l := by unfold rest; rw [hh]; rfl
      have hi : Lib.indexByte (b :: l) 32 = if Lib.indexByte l 32 == -1 then -1 else Lib.indexByte l 32 + 1 := by
        rw [Lib.indexByte, if_neg (by simpa using hb)]
      rcases byte_index l with ⟨h1, h2, h3⟩ | ⟨h1, h2⟩
      · refine Or.inl ⟨?_, by rw [hh, h2], by rw [hr, h3]⟩
        rw [hi, h1]; rfl
      · refine Or.inr ⟨?_, ?_⟩
        · rw [hi, h1, if_neg (by rw [beq_iff_eq]; omega), hh, List.length_cons]; push_cast; rfl
        · rw [hh, hr, List.cons_append, ← h2]

theorem itoa_noblank (n : Int) : ∀ c ∈ Lib.itoa n, (c != 32) = true := by
  intro c hc
  rw [bne_iff_ne]
  rintro rfl
  by_cases h : n < 0
  · rw [itoa_neg h] at hc
    rcases List.mem_cons.1 hc with h1 | h1
    · exact absurd h1 (by decide)
    · have := digits_dig h1; exact absurd this.1 (by decide)
  · rw [itoa_pos (by omega)] at hc
    have := digits_dig hc; exact absurd this.1 (by decide)
/-- a line ends a reply of a code just if what stands ahead of its first blank is the code -/
theorem ends_head (code : Int) (s : List UInt8) : ends code s = (head s == Lib.itoa code) := by
  have hn := itoa_noblank code
  rw [Bool.eq_iff_iff, beq_iff_eq]
  unfold ends
  rw [Bool.or_eq_true, beq_iff_eq, Bool.and_eq_true, beq_iff_eq, decide_eq_true_eq]
  constructor
  · rintro (h | ⟨h1, h2⟩)
    · rw [h]; exact head_all hn
    · have e : s = Lib.itoa code ++ 32 :: s.drop ((Lib.itoa code).length + 1) := by
        have := (List.take_append_drop ((Lib.itoa code).length + 1) s).symm
        rw [h2] at this
        simpa using this
      rw [e]; exact head_blank hn
  · intro h
    rcases apart s with ⟨h1, _⟩ | h1
    · left; rw [h1]; exact h
    · right
      rw [h] at h1
      rw [h1]
      constructor
      · rw [List.length_append, List.length_cons]; omega
      · rw [List.take_append, List.take_of_length_le (by omega)]; simp
theorem ends_rest {code : Int} {s : List UInt8} (h : ends code s = true) : s.drop ((Lib.itoa code).length + 1) = rest s := by
  rw [ends_head, beq_iff_eq] at h
  unfold rest; rw [h]

/-- what stands behind the blank, if the line ends a reply of the code -/
def cutT (code : Int) (s : List UInt8) : List UInt8 := if ends code s then rest s else []

/-! how a reply begins -/
/-- the number of a line's first bytes -/
def codeN (s : List UInt8) : Int := getV (s.take 3) 599
theorem codeN_lo (s : List UInt8) : 0 ≤ codeN s := getV_lo _ _
theorem codeN_hi (s : List UInt8) : codeN s ≤ 599 := getV_hi (by omega)
theorem begins_no {s : List UInt8} (h : ¬ 100 ≤ codeN s) : begins s = false := by
  unfold begins
  rw [show getV (s.take 3) 599 = codeN s from rfl, decide_eq_false h]
  simp
theorem first_no {s : List UInt8} (h : ¬ 100 ≤ codeN s) : first s = Tk.bad 2 := by
  unfold first; rw [begins_no h, if_neg (by decide)]
/-- a line that begins by a code -/
theorem code_front {s : List UInt8} (h : 100 ≤ codeN s) : Lib.itoa (codeN s) = s.take 3 ∧ (s.take 3).length = 3 ∧ getB (s.take 3) 599 = true := by
  have hb : getB (s.take 3) 599 = true := by
    cases hc : getB (s.take 3) 599 with
    | true => rfl
    | false => have := getV_no hc; unfold codeN at h; omega
  obtain ⟨m, h1, _, _, h4⟩ := (getB_iff _ _).1 hb
  have e : Lib.itoa (codeN s) = s.take 3 := by
    unfold codeN; rw [h4, itoa_nat]; exact h1
  refine ⟨e, ?_, hb⟩
  rw [← e]
  exact code_len h (codeN_hi s)
theorem front_cases {s : List UInt8} (h : 100 ≤ codeN s) : s = Lib.itoa (codeN s) ∨ ∃ c r, s = Lib.itoa (codeN s) ++ c :: r := by
  obtain ⟨e, h3, _⟩ := code_front h
  have hs := (List.take_append_drop 3 s).symm
  rw [e]
  cases hd : s.drop 3 with
  | nil => left; rw [hd, List.append_nil] at hs; exact hs
  | cons c r => right; exact ⟨c, r, by rw [hd] at hs; exact hs⟩
theorem first_alone {s : List UInt8} (h : 100 ≤ codeN s) (hs : s = Lib.itoa (codeN s)) : first s = ⟨Ga.none, codeN s, [[]], true, 0⟩ := by
  obtain ⟨e, h3, hb⟩ := code_front h
  have h0 : s.length = 3 := by rw [hs]; exact code_len h (codeN_hi s)
  have hn : s[3]? = none := List.getElem?_eq_none (by omega)
  have h4 : s.drop 4 = [] := List.drop_eq_nil_of_le (by omega)
  have hg : begins s = true := by
    unfold begins
    rw [hb, show getV (s.take 3) 599 = codeN s from rfl, decide_eq_true h, decide_eq_true (show 3 ≤ s.length by omega), decide_eq_true h0]
    rfl
  unfold first
  rw [hg, if_pos rfl, hn, h4]
  rfl
theorem ends_alone {s : List UInt8} {code : Int} (hs : s = Lib.itoa code) : ends code s = true ∧ rest s = [] := by
  constructor
  · rw [ends_head, beq_iff_eq, hs]; exact head_all (itoa_noblank _)
  · rw [hs]; exact rest_all (itoa_noblank _)
theorem ends_other {code : Int} {c : UInt8} (hc : c ≠ 32) (r : List UInt8) : ends code (Lib.itoa code ++ c :: r) = false := by
  unfold ends
  rw [Bool.or_eq_false_iff, Bool.and_eq_false_iff, beq_eq_false_iff_ne, beq_eq_false_iff_ne]
  refine ⟨fun h => ?_, Or.inr fun h => ?_⟩
  · have := congrArg List.length h
    rw [List.length_append, List.length_cons] at this; omega
  · rw [List.take_append, List.take_of_length_le (by omega), show (Lib.itoa code).length + 1 - (Lib.itoa code).length = 1 from by omega] at h
    have := List.append_cancel_left h
    simp at this
    exact hc this
theorem rest_last {code : Int} (r : List UInt8) : rest (Lib.itoa code ++ 32 :: r) = r := rest_blank (itoa_noblank _)
theorem first_other {s : List UInt8} (h : 100 ≤ codeN s) {c : UInt8} {r : List UInt8} (hs : s = Lib.itoa (codeN s) ++ c :: r) (h1 : c ≠ 32) (h2 : c ≠ 45) : first s = Tk.bad 2 := by
  have hl := code_len h (codeN_hi s)
  have hx : s[3]? = some c := by rw [hs, List.getElem?_append_right (by omega), hl]; rfl
  have hlen : s.length = 3 + (r.length + 1) := by
    have := congrArg List.length hs
    rw [List.length_append, List.length_cons, hl] at this
    exact this
  have hg : begins s = false := by
    unfold begins
    rw [hx, decide_eq_false (show ¬ s.length = 3 by omega)]
    have e1 : (some c == some (32 : UInt8)) = false := by simpa using h1
    have e2 : (some c == some (45 : UInt8)) = false := by simpa using h2
    rw [e1, e2]
    simp
  unfold first
  rw [hg, if_neg (by decide)]

/-- what comes of a first line, by what stands behind its code -/
inductive Begun (s : List UInt8) : Prop
  | none (h : ¬ 100 ≤ codeN s) (e : first s = Tk.bad 2)
  | last (h : 100 ≤ codeN s) (he : ends (codeN s) s = true) (e : first s = ⟨Ga.none, codeN s, [rest s], true, 0⟩)
  | more (h : 100 ≤ codeN s) (he : ends (codeN s) s = false) (r : List UInt8) (hr : s = Lib.itoa (codeN s) ++ 45 :: r) (e : first s = ⟨⟨codeN s, [r], true⟩, 0, [], false, 0⟩)
  | bad (h : 100 ≤ codeN s) (he : ends (codeN s) s = false) (hn : Lib.hasPrefix s (Lib.itoa (codeN s) ++ [45]) = false) (e : first s = Tk.bad 2)
theorem prefix_other {d r : List UInt8} {c : UInt8} (hc : c ≠ 45) : Lib.hasPrefix (d ++ c :: r) (d ++ [45]) = false := by
  unfold Lib.hasPrefix
  induction d with
  | nil => simp [List.isPrefixOf, Ne.symm hc]
  | cons b d ih => simpa [List.isPrefixOf] using ih
theorem begun (s : List UInt8) : Begun s := by
  by_cases h : 100 ≤ codeN s
  · rcases front_cases h with hs | ⟨c, r, hs⟩
    · obtain ⟨h1, h2⟩ := ends_alone hs
      exact .last h h1 (by rw [h2]; exact first_alone h hs)
    · have hf := first_line h (codeN_hi s) c r
      by_cases h32 : c = 32
      · subst h32
        have e1 : ends (codeN s) s = true := by
          have := ends_last (code := codeN s) r
          rw [← hs] at this; exact this
        have e2 : rest s = r := by
          have := rest_last (code := codeN s) r
          rw [← hs] at this; exact this
        have e3 := hf (Or.inl rfl)
        rw [← hs] at e3
        exact .last h e1 (by rw [e2, e3]; rfl)
      · have e1 : ends (codeN s) s = false := by
          have := ends_other (code := codeN s) h32 r
          rw [← hs] at this; exact this
        by_cases h45 : c = 45
        · subst h45
          have e3 := hf (Or.inr rfl)
          rw [← hs] at e3
          exact .more h e1 r hs (by rw [e3]; rfl)
        · refine .bad h e1 ?_ (first_other h hs h32 h45)
          have := prefix_other (d := Lib.itoa (codeN s)) (r := r) h45
          rw [← hs] at this; exact this
  · exact .none h (first_no h)

#print axioms begun
end Go.Proofs.YtdimfppijcebjaaGreatDoor.Rp
