/- Plain facts on ends of six numbers: as they are written, read, and found between brackets. No program in this text. -/
import Derived.Test.YtchemjppmncmdaaGreatDoorQuadFacts
namespace Go.Proofs.YtchemjppmncmdaaGreatDoor.Six
open Go Go.Proofs.YtchemjppmncmdaaGreatDoor.Quad

/-! an end as it is written and read -/
def sixL (a b c d p : Int) : List UInt8 := Lib.itoa a ++ 44 :: (Lib.itoa b ++ 44 :: (Lib.itoa c ++ 44 :: (Lib.itoa d ++ 44 :: (Lib.itoa (p / 256) ++ 44 :: Lib.itoa (p % 256)))))
def sixB (l : List UInt8) : Bool := (cutL 44 l).length == 6 && (cutL 44 l).all octB
def sixN (l : List UInt8) (i : Nat) : Int := if sixB l then oct ((cutL 44 l).getD i []) else 0
def sixP (l : List UInt8) : Int := sixN l 4 * 256 + sixN l 5

theorem sixN_lo (l : List UInt8) (i : Nat) : 0 ≤ sixN l i := by unfold sixN; split; exact oct_lo _; omega
theorem sixN_hi (l : List UInt8) (i : Nat) : sixN l i ≤ 255 := by unfold sixN; split; exact oct_hi _; omega
theorem sixN_no {l : List UInt8} (h : sixB l = false) (i : Nat) : sixN l i = 0 := by unfold sixN; rw [h]; rfl
theorem sixP_no {l : List UInt8} (h : sixB l = false) : sixP l = 0 := by unfold sixP; rw [sixN_no h, sixN_no h]; rfl
theorem sixP_lo (l : List UInt8) : 0 ≤ sixP l := by have := sixN_lo l 4; have := sixN_lo l 5; unfold sixP; omega
theorem sixP_hi (l : List UInt8) : sixP l ≤ 65535 := by have := sixN_hi l 4; have := sixN_hi l 5; unfold sixP; omega
theorem digit_out {u : Nat} {c : UInt8} (h : c.toNat < 48 ∨ 57 < c.toNat) : c ∉ Lib.decDigits u := fun e => by
  have := digits_dig e; omega
theorem commaless (n : Int) : (44 : UInt8) ∉ Lib.itoa n := by
  by_cases h : n < 0
  · rw [itoa_neg h]; simp only [List.mem_cons, not_or]; exact ⟨by decide, digit_out (by decide)⟩
  · rw [itoa_pos (by omega)]; exact digit_out (by decide)
theorem cut_six (a b c d p : Int) : cutL 44 (sixL a b c d p) = [Lib.itoa a, Lib.itoa b, Lib.itoa c, Lib.itoa d, Lib.itoa (p / 256), Lib.itoa (p % 256)] := by
  unfold sixL
  rw [cutL_at _ (commaless a), cutL_at _ (commaless b), cutL_at _ (commaless c), cutL_at _ (commaless d), cutL_at _ (commaless _), cutL_whole (commaless _)]
theorem six_inj {a b c d p a' b' c' d' p' : Int} (h : sixL a b c d p = sixL a' b' c' d' p') : a = a' ∧ b = b' ∧ c = c' ∧ d = d' ∧ p = p' := by
  have e := cut_six a b c d p
  rw [h, cut_six] at e
  simp only [List.cons.injEq, and_true] at e
  have e5 := itoa_inj e.2.2.2.2.1; have e6 := itoa_inj e.2.2.2.2.2
  exact ⟨itoa_inj e.1.symm, itoa_inj e.2.1.symm, itoa_inj e.2.2.1.symm, itoa_inj e.2.2.2.1.symm, by omega⟩
theorem six_yes {l : List UInt8} (h : sixB l = true) : sixL (sixN l 0) (sixN l 1) (sixN l 2) (sixN l 3) (sixP l) = l := by
  have hj := cut_join 44 l.length l (Nat.le_refl _)
  have l4 := sixN_lo l 4; have h4 := sixN_hi l 4; have l5 := sixN_lo l 5; have h5 := sixN_hi l 5
  have hp1 : sixP l / 256 = sixN l 4 := by unfold sixP; omega
  have hp2 : sixP l % 256 = sixN l 5 := by unfold sixP; omega
  unfold sixL; rw [hp1, hp2]
  unfold sixN; rw [h]; simp only [if_true]
  unfold sixB at h
  rw [Bool.and_eq_true, beq_iff_eq, List.all_eq_true] at h
  obtain ⟨h6, ha⟩ := h
  match hc : cutL 44 l, h6 with
  | [p, q, r, s, t, u], _ =>
    rw [hc] at hj ha
    have e1 := (octB_iff p).1 (ha p (by simp))
    have e2 := (octB_iff q).1 (ha q (by simp))
    have e3 := (octB_iff r).1 (ha r (by simp))
    have e4 := (octB_iff s).1 (ha s (by simp))
    have e5 := (octB_iff t).1 (ha t (by simp))
    have e6 := (octB_iff u).1 (ha u (by simp))
    simp only [List.getD_cons_zero, List.getD_cons_succ]
    rw [e1, e2, e3, e4, e5, e6, ← hj]
    simp [List.intercalate]
theorem six_text {a b c d p : Int} (ha : 0 ≤ a ∧ a ≤ 255) (hb : 0 ≤ b ∧ b ≤ 255) (hc : 0 ≤ c ∧ c ≤ 255) (hd : 0 ≤ d ∧ d ≤ 255) (hp : 0 ≤ p ∧ p ≤ 65535) :
    sixB (sixL a b c d p) = true ∧ sixN (sixL a b c d p) 0 = a ∧ sixN (sixL a b c d p) 1 = b ∧ sixN (sixL a b c d p) 2 = c ∧ sixN (sixL a b c d p) 3 = d ∧ sixP (sixL a b c d p) = p := by
  have e := cut_six a b c d p
  have oa := octB_itoa ha.1 ha.2; have ob := octB_itoa hb.1 hb.2; have oc := octB_itoa hc.1 hc.2; have od := octB_itoa hd.1 hd.2
  have oe := octB_itoa (n := p / 256) (by omega) (by omega); have of := octB_itoa (n := p % 256) (by omega) (by omega)
  have hB : sixB (sixL a b c d p) = true := by unfold sixB; rw [e]; simp [oa.1, ob.1, oc.1, od.1, oe.1, of.1]
  have n4 : sixN (sixL a b c d p) 4 = p / 256 := by unfold sixN; rw [hB, e]; simp [oe.2]
  have n5 : sixN (sixL a b c d p) 5 = p % 256 := by unfold sixN; rw [hB, e]; simp [of.2]
  refine ⟨hB, ?_, ?_, ?_, ?_, by unfold sixP; rw [n4, n5]; omega⟩ <;> (unfold sixN; rw [hB, e]; simp [oa.2, ob.2, oc.2, od.2])
theorem six_bytes {a b c d p : Int} (ha : 0 ≤ a) (hb : 0 ≤ b) (hc : 0 ≤ c) (hd : 0 ≤ d) (hp : 0 ≤ p) {x : UInt8} (h : x ∈ sixL a b c d p) : x = 44 ∨ (48 ≤ x.toNat ∧ x.toNat ≤ 57) := by
  unfold sixL at h
  rw [itoa_pos ha, itoa_pos hb, itoa_pos hc, itoa_pos hd, itoa_pos (n := p / 256) (by omega), itoa_pos (n := p % 256) (by omega)] at h
  simp only [List.mem_append, List.mem_cons] at h
  rcases h with h | h | h | h | h | h | h | h | h | h | h
  · exact Or.inr (digits_dig h)
  · exact Or.inl h
  · exact Or.inr (digits_dig h)
  · exact Or.inl h
  · exact Or.inr (digits_dig h)
  · exact Or.inl h
  · exact Or.inr (digits_dig h)
  · exact Or.inl h
  · exact Or.inr (digits_dig h)
  · exact Or.inl h
  · exact Or.inr (digits_dig h)
theorem six_length {a b c d p : Int} (ha : 0 ≤ a ∧ a ≤ 255) (hb : 0 ≤ b ∧ b ≤ 255) (hc : 0 ≤ c ∧ c ≤ 255) (hd : 0 ≤ d ∧ d ≤ 255) (hp : 0 ≤ p ∧ p ≤ 65535) : (sixL a b c d p).length ≤ 23 := by
  have := itoa_short ha.1 ha.2; have := itoa_short hb.1 hb.2; have := itoa_short hc.1 hc.2; have := itoa_short hd.1 hd.2
  have := itoa_short (n := p / 256) (by omega) (by omega); have := itoa_short (n := p % 256) (by omega) (by omega)
  unfold sixL; simp only [List.length_append, List.length_cons]; omega
theorem six_empty : sixB [] = false := rfl
theorem six_shut {l : List UInt8} (h : sixB l = true) {x : UInt8} (hx : x = 40 ∨ x = 41) : x ∉ l := fun hm => by
  have e := six_yes h
  rw [← e] at hm
  have := six_bytes (sixN_lo l 0) (sixN_lo l 1) (sixN_lo l 2) (sixN_lo l 3) (sixP_lo l) hm
  rcases hx with rfl | rfl <;> revert this <;> decide

/-! the parts that SplitN hands back, up to seven -/
def parts7 (l : List UInt8) : List (List UInt8) := Lib.splitK [44] 0 (min 7 (l.length + 1) - 1) l
theorem parts7_le (l : List UInt8) : (parts7 l).length ≤ 7 := by
  have := splitK_length 44 (min 7 (l.length + 1) - 1) l
  unfold parts7; omega
theorem cutL_le (c : UInt8) : ∀ (l p : List UInt8), p ∈ cutL c l → p.length ≤ l.length
  | [], p, h => by simp only [cutL, List.mem_singleton] at h; subst h; simp
  | b :: r, p, h => by
    simp only [cutL] at h
    split at h
    · rcases List.mem_cons.1 h with rfl | h
      · simp
      · have := cutL_le c r p h; simp; omega
    · split at h
      · rename_i q t e
        rcases List.mem_cons.1 h with rfl | h
        · have := cutL_le c r q (by rw [e]; simp); simp; omega
        · have := cutL_le c r p (by rw [e]; simp [h]); simp; omega
      · rename_i e; exact absurd e (cutL_ne c r)
/-- with as many parts as may be, or more, a text is split into no fewer than k parts -/
theorem splitK_count (c : UInt8) : ∀ (k : Nat) (l : List UInt8), (Lib.splitK [c] 0 k l).length = min (k + 1) (cutL c l).length
  | 0, l => by
    have : 1 ≤ (cutL c l).length := List.length_pos_iff.2 (cutL_ne c l)
    simp [Lib.splitK]; omega
  | k + 1, l => by
    rcases first_at c l with h' | ⟨p, r, rfl, hp⟩
    · rw [splitK_no h', cutL_whole h']; simp
    · rw [splitK_at hp, cutL_at r hp, List.length_cons, List.length_cons, splitK_count c k r]; omega
theorem parts7_six (l : List UInt8) : (parts7 l).length = 6 ↔ (cutL 44 l).length = 6 := by
  have h := splitK_count 44 (min 7 (l.length + 1) - 1) l
  have h1 := cutL_length_le 44 l
  unfold parts7
  rw [h]; omega
theorem parts7_is {l : List UInt8} (h : (parts7 l).length = 6) : parts7 l = cutL 44 l := by
  have h1 := cutL_length_le 44 l
  have h2 := (parts7_six l).1 h
  unfold parts7
  exact splitK_few _ _ (by omega)
theorem six_few {l : List UInt8} (h : (parts7 l).length ≠ 6) : sixB l = false := by
  unfold sixB
  rw [beq_eq_false_iff_ne.2 (fun e => h ((parts7_six l).2 e))]; rfl
theorem six_all {l p q r s t u : List UInt8} (h : cutL 44 l = [p, q, r, s, t, u]) : sixB l = (octB p && octB q && octB r && octB s && octB t && octB u) := by
  unfold sixB; rw [h]; simp [Bool.and_assoc]

/-! between brackets -/
def upto : List UInt8 → Option (List UInt8)
  | [] => none
  | b :: r => if b = 41 then some [] else (upto r).map (b :: ·)
def insO : List UInt8 → Option (List UInt8)
  | [] => none
  | b :: r => if b = 40 then upto r else insO r
/-- what stands between the first brackets; nothing, if there are not both -/
def insL (l : List UInt8) : List UInt8 := (insO l).getD []

theorem upto_no : ∀ {l : List UInt8}, (41 : UInt8) ∉ l → upto l = none
  | [], _ => rfl
  | b :: r, h => by
    have hb : b ≠ 41 := fun e => h (by simp [e])
    have hr : (41 : UInt8) ∉ r := fun e => h (by simp [e])
    simp only [upto, if_neg hb, upto_no hr, Option.map_none]
theorem upto_at : ∀ {q : List UInt8} (r : List UInt8), (41 : UInt8) ∉ q → upto (q ++ 41 :: r) = some q
  | [], r, _ => by simp [upto]
  | b :: q, r, h => by
    have hb : b ≠ 41 := fun e => h (by simp [e])
    have hq : (41 : UInt8) ∉ q := fun e => h (by simp [e])
    simp only [List.cons_append, upto, if_neg hb, upto_at r hq, Option.map_some]
theorem insO_no : ∀ {l : List UInt8}, (40 : UInt8) ∉ l → insO l = none
  | [], _ => rfl
  | b :: r, h => by
    have hb : b ≠ 40 := fun e => h (by simp [e])
    have hr : (40 : UInt8) ∉ r := fun e => h (by simp [e])
    simp only [insO, if_neg hb, insO_no hr]
theorem insO_at : ∀ {q : List UInt8} (r : List UInt8), (40 : UInt8) ∉ q → insO (q ++ 40 :: r) = upto r
  | [], r, _ => by simp [insO]
  | b :: q, r, h => by
    have hb : b ≠ 40 := fun e => h (by simp [e])
    have hq : (40 : UInt8) ∉ q := fun e => h (by simp [e])
    simp only [List.cons_append, insO, if_neg hb, insO_at r hq]
theorem upto_le : ∀ {l q : List UInt8}, upto l = some q → q.length ≤ l.length
  | [], q, h => by cases h
  | b :: r, q, h => by
    simp only [upto] at h
    split at h
    · cases h; simp
    · cases e : upto r with
      | none => rw [e] at h; cases h
      | some q' => rw [e] at h; cases h; have := upto_le e; simp; omega
theorem insO_le : ∀ {l q : List UInt8}, insO l = some q → q.length ≤ l.length
  | [], q, h => by cases h
  | b :: r, q, h => by
    simp only [insO] at h
    split at h
    · have := upto_le h; simp; omega
    · have := insO_le h; simp; omega
theorem insL_le (l : List UInt8) : (insL l).length ≤ l.length := by
  unfold insL
  cases e : insO l with
  | none => simp
  | some q => have := insO_le e; simpa using this
theorem upto_more : ∀ {l q : List UInt8} (m : List UInt8), upto l = some q → upto (l ++ m) = some q
  | [], q, m, h => by cases h
  | b :: r, q, m, h => by
    simp only [upto, List.cons_append] at h ⊢
    split at h
    · rename_i hb; rw [if_pos hb]; exact h
    · rename_i hb
      rw [if_neg hb]
      cases e : upto r with
      | none => rw [e] at h; cases h
      | some q' => rw [e] at h; rw [upto_more m e]; exact h
theorem insO_more : ∀ {l q : List UInt8} (m : List UInt8), insO l = some q → insO (l ++ m) = some q
  | [], q, m, h => by cases h
  | b :: r, q, m, h => by
    simp only [insO, List.cons_append] at h ⊢
    split at h
    · rename_i hb; rw [if_pos hb]; exact upto_more m h
    · rename_i hb; rw [if_neg hb]; exact insO_more m h
theorem find_some {l : List UInt8} (h : sixB (insL l) = true) : ∃ q, insO l = some q := by
  unfold insL at h
  cases e : insO l with
  | none => rw [e] at h; cases h
  | some q => exact ⟨q, rfl⟩
theorem find_more {l : List UInt8} (h : sixB (insL l) = true) (m : List UInt8) : insL (l ++ m) = insL l := by
  obtain ⟨q, e⟩ := find_some h
  unfold insL; rw [e, insO_more m e]
theorem find_written {ahead t behind : List UInt8} (h : (40 : UInt8) ∉ ahead) (ht : (41 : UInt8) ∉ t) : insL (ahead ++ [40] ++ t ++ [41] ++ behind) = t := by
  have e : ahead ++ [40] ++ t ++ [41] ++ behind = ahead ++ 40 :: (t ++ 41 :: behind) := by simp
  unfold insL; rw [e, insO_at _ h, upto_at _ ht]; rfl

/-! what the loops know at place k -/
theorem drop_at' {l : List UInt8} {fr k : Nat} (hf : fr ≤ k) (hk : k < l.length) : l.drop fr = (l.drop fr).take (k - fr) ++ l[k] :: l.drop (k + 1) := by
  have e : (l.drop fr).drop (k - fr) = l[k] :: l.drop (k + 1) := by
    rw [List.drop_drop, show fr + (k - fr) = k from by omega, List.drop_eq_getElem_cons hk]
  rw [← e, List.take_append_drop]
theorem split_at {l : List UInt8} {k : Nat} (hk : k < l.length) : l = l.take k ++ l[k] :: l.drop (k + 1) := by
  rw [← List.drop_eq_getElem_cons hk, List.take_append_drop]
theorem no_next {c : UInt8} {l : List UInt8} {fr k : Nat} (hn : c ∉ (l.drop fr).take (k - fr)) (hf : fr ≤ k) (hk : k < l.length) (hc : l[k] ≠ c) : c ∉ (l.drop fr).take (k + 1 - fr) := by
  rw [show k + 1 - fr = (k - fr) + 1 from by omega, List.take_succ_eq_append_getElem (by simp; omega)]
  simp only [List.mem_append, List.mem_singleton, not_or]
  refine ⟨hn, fun e => hc ?_⟩
  rw [e, List.getElem_drop]
  congr 1; omega
theorem no_next0 {c : UInt8} {l : List UInt8} {k : Nat} (hn : c ∉ l.take k) (hk : k < l.length) (hc : l[k] ≠ c) : c ∉ l.take (k + 1) := by
  rw [List.take_succ_eq_append_getElem hk]
  simp only [List.mem_append, List.mem_singleton, not_or]
  exact ⟨hn, fun e => hc e.symm⟩
/-- the first ( is ahead of fr -/
def Opened (l : List UInt8) (fr : Nat) : Prop := insO l = upto (l.drop fr)
theorem opened {l : List UInt8} {k : Nat} (hn : (40 : UInt8) ∉ l.take k) (hk : k < l.length) (hc : l[k] = 40) : Opened l (k + 1) := by
  have e := split_at hk
  rw [hc] at e
  have h := insO_at (l.drop (k + 1)) hn
  rw [← e] at h
  exact h
theorem found {l : List UInt8} {fr k : Nat} (h : Opened l fr) (hn : (41 : UInt8) ∉ (l.drop fr).take (k - fr)) (hf : fr ≤ k) (hk : k < l.length) (hc : l[k] = 41) : insO l = some ((l.drop fr).take (k - fr)) := by
  have e := drop_at' hf hk
  rw [hc] at e
  unfold Opened at h
  have h2 := upto_at (l.drop (k + 1)) hn
  rw [← e] at h2
  rw [h, h2]
theorem missed {l : List UInt8} {fr : Nat} (h : Opened l fr) (hn : (41 : UInt8) ∉ (l.drop fr).take (l.length - fr)) : insO l = none := by
  rw [List.take_of_length_le (by simp)] at hn
  unfold Opened at h
  rw [h, upto_no hn]

#print axioms six_yes
#print axioms found
end Go.Proofs.YtchemjppmncmdaaGreatDoor.Six
