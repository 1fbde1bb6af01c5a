/- Plain facts on numbers as they are written and read, on addresses, and on cutting a text at a byte. No program in this text. -/
import Derived.Lib.ItoaNum
import Derived.Lib.Atoi
import Derived.Lib.AtoiBound
import Derived.Lib.Split
import Derived.Lib.SplitLaws
import Derived.Lib.Join
namespace Go.Proofs.YtojpahnfhhbnoaaDoor.Quad
open Go

/-! numbers as they are written -/
theorem decFrom_append (l r : List UInt8) : ∀ (acc n : Nat), Lib.decFrom acc l = some n → Lib.decFrom acc (l ++ r) = Lib.decFrom n r := by
  induction l with
  | nil => intro acc n h; simp only [Lib.decFrom, Option.some.injEq] at h; subst h; rfl
  | cons b t ih =>
    intro acc n h
    simp only [Lib.decFrom, List.cons_append] at h ⊢
    cases hd : Lib.digitVal b with
    | none => simp [hd] at h
    | some d => simp only [hd] at h ⊢; exact ih _ _ h
theorem digitVal_dig (d : Nat) (h : d < 10) : Lib.digitVal (UInt8.ofNat (48 + d)) = some d := by
  have e : (UInt8.ofNat (48 + d)).toNat = 48 + d := by simp [UInt8.toNat_ofNat']; omega
  unfold Lib.digitVal; rw [e, if_pos (by omega)]; congr 1; omega
theorem decFrom_digits (u : Nat) : Lib.decFrom 0 (Lib.decDigits u) = some u := by
  induction u using Nat.strongRecOn with
  | _ u ih =>
    by_cases h : u < 10
    · rw [Lib.decDigits_one h]; simp only [Lib.decFrom, digitVal_dig u h, Option.some.injEq]; omega
    · rw [Lib.decDigits, dif_neg h, decFrom_append _ _ _ _ (ih (u / 10) (by omega))]
      simp only [Lib.decFrom, digitVal_dig (u % 10) (by omega), Option.some.injEq]; omega
theorem digits_length (u : Nat) : 1 ≤ (Lib.decDigits u).length := by rw [Lib.decDigits_length]; exact Lib.nDigits_pos u
theorem digits_ne (u : Nat) : Lib.decDigits u ≠ [] := by
  intro e; have := digits_length u; rw [e] at this; simp at this
theorem decNat_digits (u : Nat) : Lib.decNat (Lib.decDigits u) = some u := by
  unfold Lib.decNat
  rw [if_neg (by simpa using digits_ne u)]; exact decFrom_digits u
theorem digits_inj {u v : Nat} (h : Lib.decDigits u = Lib.decDigits v) : u = v := by
  have a := decNat_digits u; rw [h, decNat_digits v] at a; exact (Option.some.inj a).symm
theorem digits_dig {u : Nat} {c : UInt8} (h : c ∈ Lib.decDigits u) : 48 ≤ c.toNat ∧ c.toNat ≤ 57 := by
  obtain ⟨k, hk, e⟩ := List.getElem_of_mem h
  obtain ⟨d, hd⟩ := Lib.digit_of_decFrom _ 0 u (decFrom_digits u) k c (by rw [List.getElem?_eq_getElem hk, e])
  unfold Lib.digitVal at hd
  split at hd
  · assumption
  · cases hd
theorem itoa_nat (n : Nat) : Lib.itoa (n : Int) = Lib.decDigits n := by unfold Lib.itoa; rw [if_neg (by omega)]; simp
theorem itoa_pos {n : Int} (h : 0 ≤ n) : Lib.itoa n = Lib.decDigits n.toNat := by unfold Lib.itoa; rw [if_neg (by omega)]
theorem itoa_neg {n : Int} (h : n < 0) : Lib.itoa n = 45 :: Lib.decDigits n.natAbs := by unfold Lib.itoa; rw [if_pos h]
theorem itoa_ne (n : Int) : Lib.itoa n ≠ [] := by
  by_cases h : n < 0
  · rw [itoa_neg h]; simp
  · rw [itoa_pos (by omega)]; exact digits_ne _
theorem digits_head (u : Nat) : ∃ b r, Lib.decDigits u = b :: r ∧ 48 ≤ b.toNat ∧ b.toNat ≤ 57 := by
  cases h : Lib.decDigits u with
  | nil => exact absurd h (digits_ne u)
  | cons b r => exact ⟨b, r, rfl, digits_dig (u := u) (by rw [h]; simp)⟩
theorem itoa_inj {a b : Int} (h : Lib.itoa a = Lib.itoa b) : a = b := by
  by_cases ha : a < 0 <;> by_cases hb : b < 0
  · rw [itoa_neg ha, itoa_neg hb] at h; have := digits_inj (List.cons.inj h).2; omega
  · rw [itoa_neg ha, itoa_pos (by omega)] at h
    obtain ⟨c, r, e, h0, _⟩ := digits_head b.toNat
    rw [e] at h; have := (List.cons.inj h).1; subst this; simp at h0
  · rw [itoa_pos (by omega), itoa_neg hb] at h
    obtain ⟨c, r, e, h0, _⟩ := digits_head a.toNat
    rw [e] at h; have := (List.cons.inj h).1; subst this; simp at h0
  · rw [itoa_pos (by omega), itoa_pos (by omega)] at h; have := digits_inj h; omega
theorem atoi_digits (u : Nat) : Lib.atoi (Lib.decDigits u) = some (u : Int) := by
  obtain ⟨b, r, e, h0, h1⟩ := digits_head u
  have hn := decNat_digits u
  rw [e] at hn ⊢
  have a : (b == 45) = false := by rw [beq_eq_false_iff_ne]; rintro rfl; simp at h0
  have c : (b == 43) = false := by rw [beq_eq_false_iff_ne]; rintro rfl; simp at h0
  simp [Lib.atoi, a, c, hn]

/-! Get -/
/-- the number that a text is -/
def getO (l : List UInt8) : Option Nat := if l.length ≤ 18 then (match Lib.decNat l with | some n => if Lib.decDigits n = l then some n else none | none => none) else none
def getB (l : List UInt8) (most : Int) : Bool := match getO l with | some n => decide ((n : Int) ≤ most) | none => false
def getV (l : List UInt8) (most : Int) : Int := if getB l most then ((getO l).getD 0 : Nat) else 0

theorem getO_iff (l : List UInt8) (n : Nat) : getO l = some n ↔ Lib.decDigits n = l ∧ l.length ≤ 18 := by
  unfold getO
  constructor
  · intro h
    split at h
    · rename_i hl
      cases e : Lib.decNat l with
      | none => rw [e] at h; cases h
      | some m =>
        rw [e] at h; simp only at h
        split at h
        · rename_i hm; cases h; exact ⟨hm, hl⟩
        · cases h
    · cases h
  · rintro ⟨rfl, hl⟩
    rw [if_pos hl, decNat_digits]; simp
theorem getO_none {l : List UInt8} (h : ∀ n, Lib.decDigits n = l → ¬ l.length ≤ 18) : getO l = none := by
  cases e : getO l with
  | none => rfl
  | some n => exact absurd ((getO_iff l n).1 e).2 (h n ((getO_iff l n).1 e).1)
theorem getB_some {l : List UInt8} {n : Nat} (h : getO l = some n) (most : Int) : getB l most = decide ((n : Int) ≤ most) := by unfold getB; rw [h]
theorem getB_none {l : List UInt8} (h : getO l = none) (most : Int) : getB l most = false := by unfold getB; rw [h]
theorem getV_yes {l : List UInt8} {n : Nat} (h : getO l = some n) {most : Int} (hm : (n : Int) ≤ most) : getV l most = n := by
  unfold getV; rw [getB_some h, if_pos (by simpa using hm), h]; rfl
theorem getV_no {l : List UInt8} {most : Int} (h : getB l most = false) : getV l most = 0 := by unfold getV; rw [h]; rfl
theorem getB_iff (l : List UInt8) (most : Int) : getB l most = true ↔ ∃ n : Nat, Lib.decDigits n = l ∧ l.length ≤ 18 ∧ (n : Int) ≤ most ∧ getV l most = n := by
  constructor
  · intro h
    cases e : getO l with
    | none => rw [getB_none e] at h; cases h
    | some n =>
      rw [getB_some e] at h
      have hm : (n : Int) ≤ most := by simpa using h
      exact ⟨n, ((getO_iff l n).1 e).1, ((getO_iff l n).1 e).2, hm, getV_yes e hm⟩
  · rintro ⟨n, h1, h2, h3, _⟩
    rw [getB_some ((getO_iff l n).2 ⟨h1, h2⟩)]; simpa using h3
theorem getV_lo (l : List UInt8) (most : Int) : 0 ≤ getV l most := by
  unfold getV; split <;> omega
theorem getV_hi {l : List UInt8} {most : Int} (h : 0 ≤ most) : getV l most ≤ most := by
  cases e : getB l most with
  | false => rw [getV_no e]; exact h
  | true => obtain ⟨n, _, _, h3, h4⟩ := (getB_iff l most).1 e; omega
theorem getV_big {l : List UInt8} {most : Int} : getV l most < 1000000000000000000 := by
  cases e : getB l most with
  | false => rw [getV_no e]; omega
  | true =>
    obtain ⟨n, h1, h2, h3, h4⟩ := (getB_iff l most).1 e
    have := (Lib.atoi_bound (by rw [← h1]; exact atoi_digits n) h2).2
    omega

/-- what the code does, way by way -/
theorem code_long {l : List UInt8} (h : 18 < l.length) (most : Int) : getB l most = false :=
  getB_none (getO_none fun _ _ => by omega) _
theorem code_none {l : List UInt8} (h : Lib.atoi l = none) (most : Int) : getB l most = false := by
  refine getB_none (getO_none fun n hn => ?_) _
  rw [← hn, atoi_digits] at h; cases h
theorem code_some {l : List UInt8} {n : Int} (h : Lib.atoi l = some n) (hl : l.length ≤ 18) (most : Int) :
    (n < 0 ∧ getB l most = false) ∨ (0 ≤ n ∧ most < n ∧ getB l most = false) ∨ (0 ≤ n ∧ n ≤ most ∧ Lib.itoa n ≠ l ∧ getB l most = false) ∨ (0 ≤ n ∧ n ≤ most ∧ Lib.itoa n = l ∧ getB l most = true ∧ getV l most = n) := by
  have key : ∀ m : Nat, Lib.decDigits m = l → n = m := fun m hm => by
    rw [← hm, atoi_digits] at h; exact (Option.some.inj h).symm
  by_cases h0 : n < 0
  · exact Or.inl ⟨h0, getB_none (getO_none fun m hm => by have := key m hm; omega) _⟩
  · by_cases e : Lib.itoa n = l
    · have e' := e
      rw [itoa_pos (by omega)] at e'
      have g := (getO_iff l n.toNat).2 ⟨e', hl⟩
      by_cases hm : n ≤ most
      · exact Or.inr (Or.inr (Or.inr ⟨by omega, hm, e, by rw [getB_some g]; simp; omega, by rw [getV_yes g (by omega)]; omega⟩))
      · exact Or.inr (Or.inl ⟨by omega, by omega, by rw [getB_some g]; simp; omega⟩)
    · have g : getO l = none := getO_none fun m hm => by
        have := key m hm; subst this
        rw [itoa_nat] at e; exact absurd hm e
      by_cases hm : n ≤ most
      · exact Or.inr (Or.inr (Or.inl ⟨by omega, hm, e, getB_none g _⟩))
      · exact Or.inr (Or.inl ⟨by omega, by omega, getB_none g _⟩)
/-- what the document's answer does -/
theorem ref_odd {l : List UInt8} {k : Nat} {c : UInt8} (h : l[k]? = some c) (hd : c.toNat < 48 ∨ 57 < c.toNat) (most : Int) : getB l most = false := by
  refine getB_none (getO_none fun n hn => ?_) _
  have := digits_dig (u := n) (c := c) (by rw [hn]; exact List.mem_of_getElem? h)
  omega
theorem ref_all {l : List UInt8} {n : Nat} (h : Lib.decFrom 0 l = some n) (hl : l.length ≤ 18) (most : Int) :
    (most < n ∧ getB l most = false) ∨ ((n : Int) ≤ most ∧ Lib.itoa n ≠ l ∧ getB l most = false) ∨ ((n : Int) ≤ most ∧ Lib.itoa n = l ∧ getB l most = true ∧ getV l most = n) := by
  have key : ∀ m : Nat, Lib.decDigits m = l → n = m := fun m hm => by
    rw [← hm, decFrom_digits] at h; exact (Option.some.inj h).symm
  rw [itoa_nat]
  by_cases e : Lib.decDigits n = l
  · have g := (getO_iff l n).2 ⟨e, hl⟩
    by_cases hm : (n : Int) ≤ most
    · exact Or.inr (Or.inr ⟨hm, e, by rw [getB_some g]; simp; omega, getV_yes g hm⟩)
    · exact Or.inl ⟨by omega, by rw [getB_some g]; simp; omega⟩
  · have g : getO l = none := getO_none fun m hm => by
      have := key m hm; subst this; exact absurd hm e
    by_cases hm : (n : Int) ≤ most
    · exact Or.inr (Or.inl ⟨hm, e, getB_none g _⟩)
    · exact Or.inl ⟨by omega, getB_none g _⟩
theorem ref_empty (most : Int) : getB [] most = false :=
  getB_none (getO_none fun n hn => absurd hn (digits_ne n)) _
theorem decFrom_small : ∀ (l : List UInt8) (acc n k : Nat), Lib.decFrom acc l = some n → acc < 10 ^ k → n < 10 ^ (k + l.length)
  | [], acc, n, k, h, ha => by simp only [Lib.decFrom, Option.some.injEq] at h; subst h; simpa using ha
  | b :: r, acc, n, k, h, ha => by
    simp only [Lib.decFrom] at h
    cases hd : Lib.digitVal b with
    | none => simp [hd] at h
    | some d =>
      simp only [hd] at h
      have hd9 : d ≤ 9 := by unfold Lib.digitVal at hd; split at hd <;> simp at hd; omega
      have := decFrom_small r _ n (k + 1) h (by rw [Nat.pow_succ]; omega)
      rw [List.length_cons, show k + (r.length + 1) = k + 1 + r.length from by omega]; exact this
theorem decFrom_lt {l : List UInt8} {n : Nat} (h : Lib.decFrom 0 l = some n) (hl : l.length ≤ 18) : n < 1000000000000000000 := by
  have h1 := decFrom_small l 0 n 0 h (by simp)
  have h2 : 10 ^ (0 + l.length) ≤ 10 ^ 18 := Nat.pow_le_pow_right (by omega) (by omega)
  omega

/-! cutting -/
def cutL (c : UInt8) : List UInt8 → List (List UInt8)
  | [] => [[]]
  | b :: r => if b = c then [] :: cutL c r else match cutL c r with
    | h :: t => (b :: h) :: t
    | [] => [[b]]
theorem cutL_ne (c : UInt8) (l : List UInt8) : cutL c l ≠ [] := by
  cases l with
  | nil => simp [cutL]
  | cons b r =>
    simp only [cutL]; split
    · simp
    · split <;> simp
theorem cutL_whole {c : UInt8} : ∀ {p : List UInt8}, c ∉ p → cutL c p = [p]
  | [], _ => rfl
  | b :: r, h => by
    have hb : b ≠ c := fun e => h (by simp [e])
    have hr : c ∉ r := fun e => h (by simp [e])
    simp only [cutL, if_neg hb, cutL_whole hr]
theorem cutL_at {c : UInt8} : ∀ {p : List UInt8} (r : List UInt8), c ∉ p → cutL c (p ++ c :: r) = p :: cutL c r
  | [], r, _ => by simp [cutL]
  | b :: q, r, h => by
    have hb : b ≠ c := fun e => h (by simp [e])
    have hq : c ∉ q := fun e => h (by simp [e])
    simp only [List.cons_append, cutL, if_neg hb, cutL_at r hq]
theorem first_at (c : UInt8) : ∀ (l : List UInt8), (c ∉ l) ∨ ∃ p r, l = p ++ c :: r ∧ c ∉ p
  | [] => Or.inl (by simp)
  | b :: t => by
    by_cases hb : b = c
    · exact Or.inr ⟨[], t, by simp [hb], by simp⟩
    · rcases first_at c t with h | ⟨p, r, rfl, hp⟩
      · exact Or.inl (by simp only [List.mem_cons, not_or]; exact ⟨fun e => hb e.symm, h⟩)
      · exact Or.inr ⟨b :: p, r, by simp, by simp only [List.mem_cons, not_or]; exact ⟨fun e => hb e.symm, hp⟩⟩
theorem cutL_length_le (c : UInt8) : ∀ (l : List UInt8), (cutL c l).length ≤ l.length + 1
  | [] => by simp [cutL]
  | b :: r => by
    have := cutL_length_le c r
    simp only [cutL]; split
    · simp; omega
    · split
      · rename_i h t e; rw [e] at this; simp at this ⊢; omega
      · simp
theorem cutL_free (c : UInt8) : ∀ (l : List UInt8) (p : List UInt8), p ∈ cutL c l → c ∉ p
  | [], p, h => by simp only [cutL, List.mem_singleton] at h; subst h; simp
  | b :: r, p, h => by
    simp only [cutL] at h
    split at h
    · rcases List.mem_cons.1 h with rfl | h
      · simp
      · exact cutL_free c r p h
    · rename_i hb
      split at h
      · rename_i q t e
        have hq := cutL_free c r q (by rw [e]; simp)
        rcases List.mem_cons.1 h with rfl | h
        · simp only [List.mem_cons, not_or]; exact ⟨fun x => hb x.symm, hq⟩
        · exact cutL_free c r p (by rw [e]; simp [h])
      · rename_i e; exact absurd e (cutL_ne c r)
theorem occAt_one (l : List UInt8) (c : UInt8) (i : Nat) : Lib.occAt l [c] i = (l[i]? == some c) := by
  by_cases h : i + 1 ≤ l.length
  · rw [Lib.occAt_iff_take l [c] i (by simpa using h)]
    have e : (l.drop i).take [c].length = [l[i]] := by
      rw [List.drop_eq_getElem_cons (by omega)]; rfl
    rw [e, List.getElem?_eq_getElem (by omega)]
    simp
  · rw [List.getElem?_eq_none (by omega)]
    cases e : Lib.occAt l [c] i with
    | false => rfl
    | true => rcases Lib.occAt_room e with h' | h' <;> simp at h'; omega
theorem index_no {l : List UInt8} {c : UInt8} (h : c ∉ l) : Lib.index l [c] = -1 :=
  Lib.index_none fun j _ => by
    rw [occAt_one, beq_eq_false_iff_ne]; exact fun e => h (List.mem_of_getElem? e)
theorem index_at {p r : List UInt8} {c : UInt8} (h : c ∉ p) : Lib.index (p ++ c :: r) [c] = p.length :=
  Lib.index_first (by simp) (by rw [occAt_one]; simp) fun j hj => by
    rw [occAt_one, beq_eq_false_iff_ne, List.getElem?_append_left hj]; exact fun e => h (List.mem_of_getElem? e)
theorem splitK_no {l : List UInt8} {c : UInt8} (h : c ∉ l) (k : Nat) : Lib.splitK [c] 0 k l = [l] := by
  cases k with
  | zero => rfl
  | succ k => simp only [Lib.splitK, index_no h]; simp
theorem splitK_at {p r : List UInt8} {c : UInt8} (h : c ∉ p) (k : Nat) : Lib.splitK [c] 0 (k + 1) (p ++ c :: r) = p :: Lib.splitK [c] 0 k r := by
  have e : ((p.length : Int) == -1) = false := by rw [beq_eq_false_iff_ne]; omega
  simp only [Lib.splitK, index_at h, e]
  simp
theorem splitK_few {c : UInt8} : ∀ (k : Nat) (l : List UInt8), (cutL c l).length ≤ k + 1 → Lib.splitK [c] 0 k l = cutL c l
  | 0, l, h => by
    rcases first_at c l with h' | ⟨p, r, rfl, hp⟩
    · rw [splitK_no h', cutL_whole h']
    · rw [cutL_at r hp] at h
      have := cutL_ne c r
      cases e : cutL c r with
      | nil => exact absurd e this
      | cons a b => rw [e] at h; simp at h
  | k + 1, l, h => by
    rcases first_at c l with h' | ⟨p, r, rfl, hp⟩
    · rw [splitK_no h', cutL_whole h']
    · rw [cutL_at r hp] at h ⊢
      rw [splitK_at hp, splitK_few k r (by simpa using h)]
theorem splitK_all {c : UInt8} : ∀ (k : Nat) (l : List UInt8), (∀ x ∈ Lib.splitK [c] 0 k l, c ∉ x) → Lib.splitK [c] 0 k l = cutL c l
  | 0, l, h => by
    have : c ∉ l := h l (by simp [Lib.splitK])
    rw [splitK_no this, cutL_whole this]
  | k + 1, l, h => by
    rcases first_at c l with h' | ⟨p, r, rfl, hp⟩
    · rw [splitK_no h', cutL_whole h']
    · rw [splitK_at hp] at h ⊢
      rw [cutL_at r hp, splitK_all k r fun x hx => h x (by simp [hx])]
theorem splitK_length (c : UInt8) : ∀ (k : Nat) (l : List UInt8), 1 ≤ (Lib.splitK [c] 0 k l).length ∧ (Lib.splitK [c] 0 k l).length ≤ k + 1
  | 0, l => by simp [Lib.splitK]
  | k + 1, l => by
    rcases first_at c l with h' | ⟨p, r, rfl, hp⟩
    · rw [splitK_no h']; simp
    · rw [splitK_at hp]; have := splitK_length c k r; simp; omega

/-! addresses -/
def octB (p : List UInt8) : Bool := getB p 255
def oct (p : List UInt8) : Int := getV p 255
def readB (l : List UInt8) : Bool := (cutL 46 l).length == 4 && (cutL 46 l).all octB
def readH (l : List UInt8) (i : Nat) : Int := if readB l then oct ((cutL 46 l).getD i []) else 0
def textL (a b c d : Int) : List UInt8 := Lib.itoa a ++ 46 :: (Lib.itoa b ++ 46 :: (Lib.itoa c ++ 46 :: Lib.itoa d))

theorem oct_lo (p : List UInt8) : 0 ≤ oct p := getV_lo _ _
theorem oct_hi (p : List UInt8) : oct p ≤ 255 := getV_hi (by omega)
theorem readH_lo (l : List UInt8) (i : Nat) : 0 ≤ readH l i := by unfold readH; split; exact oct_lo _; omega
theorem readH_hi (l : List UInt8) (i : Nat) : readH l i ≤ 255 := by unfold readH; split; exact oct_hi _; omega
theorem readH_no {l : List UInt8} (h : readB l = false) (i : Nat) : readH l i = 0 := by unfold readH; rw [h]; rfl
theorem octB_iff (p : List UInt8) : octB p = true ↔ Lib.itoa (oct p) = p := by
  unfold octB oct
  constructor
  · intro h
    obtain ⟨n, h1, _, _, h4⟩ := (getB_iff p 255).1 h
    rw [h4, itoa_nat]; exact h1
  · intro h
    have h0 := getV_lo p 255
    have h1 := getV_hi (l := p) (most := 255) (by omega)
    rw [itoa_pos h0] at h
    refine (getB_iff p 255).2 ⟨(getV p 255).toNat, h, ?_, by omega, by omega⟩
    rw [← h, Lib.decDigits_length]
    have h2 : (getV p 255).toNat < 256 := by omega
    generalize (getV p 255).toNat = u at h2 ⊢
    rcases Nat.lt_or_ge u 10 with a | a
    · rw [Lib.nDigits_small a]; omega
    · rw [Lib.nDigits_big (by omega)]
      rcases Nat.lt_or_ge (u / 10) 10 with b | b
      · rw [Lib.nDigits_small b]; omega
      · rw [Lib.nDigits_big (by omega), Lib.nDigits_small (by omega)]; omega
theorem itoa_short {n : Int} (h0 : 0 ≤ n) (h1 : n ≤ 255) : (Lib.itoa n).length ≤ 3 := by
  rw [itoa_pos h0, Lib.decDigits_length]
  have h2 : n.toNat < 256 := by omega
  generalize n.toNat = u at h2 ⊢
  rcases Nat.lt_or_ge u 10 with a | a
  · rw [Lib.nDigits_small a]; omega
  · rw [Lib.nDigits_big (by omega)]
    rcases Nat.lt_or_ge (u / 10) 10 with b | b
    · rw [Lib.nDigits_small b]; omega
    · rw [Lib.nDigits_big (by omega), Lib.nDigits_small (by omega)]; omega
theorem itoa_long (n : Int) : 1 ≤ (Lib.itoa n).length := by
  cases h : Lib.itoa n with
  | nil => exact absurd h (itoa_ne n)
  | cons a b => simp
theorem text_length {a b c d : Int} (ha : 0 ≤ a ∧ a ≤ 255) (hb : 0 ≤ b ∧ b ≤ 255) (hc : 0 ≤ c ∧ c ≤ 255) (hd : 0 ≤ d ∧ d ≤ 255) : 7 ≤ (textL a b c d).length ∧ (textL a b c d).length ≤ 15 := by
  have a1 := itoa_short ha.1 ha.2; have b1 := itoa_short hb.1 hb.2; have c1 := itoa_short hc.1 hc.2; have d1 := itoa_short hd.1 hd.2
  have a0 := itoa_long a; have b0 := itoa_long b; have c0 := itoa_long c; have d0 := itoa_long d
  unfold textL; simp only [List.length_append, List.length_cons]; omega
theorem dotless (n : Int) : (46 : UInt8) ∉ Lib.itoa n := by
  intro h
  by_cases hn : n < 0
  · rw [itoa_neg hn] at h
    rcases List.mem_cons.1 h with e | e
    · revert e; decide
    · have := digits_dig e; revert this; decide
  · rw [itoa_pos (by omega)] at h
    have := digits_dig h; revert this; decide
theorem cut_text (a b c d : Int) : cutL 46 (textL a b c d) = [Lib.itoa a, Lib.itoa b, Lib.itoa c, Lib.itoa d] := by
  unfold textL
  rw [cutL_at _ (dotless a), cutL_at _ (dotless b), cutL_at _ (dotless c), cutL_whole (dotless d)]
theorem text_inj {a b c d a' b' c' d' : Int} (h : textL a b c d = textL a' b' c' d') : a = a' ∧ b = b' ∧ c = c' ∧ d = d' := by
  have e := cut_text a b c d
  rw [h, cut_text] at e
  simp only [List.cons.injEq, and_true] at e
  exact ⟨itoa_inj e.1.symm, itoa_inj e.2.1.symm, itoa_inj e.2.2.1.symm, itoa_inj e.2.2.2.symm⟩
theorem cut_join (c : UInt8) (n : Nat) : ∀ (l : List UInt8), l.length ≤ n → [c].intercalate (cutL c l) = l := by
  induction n with
  | zero => intro l hl; obtain rfl : l = [] := List.length_eq_zero_iff.1 (by omega); rfl
  | succ n IH =>
    intro l hl
    rcases first_at c l with h | ⟨p, r, rfl, hp⟩
    · rw [cutL_whole h]; simp [List.intercalate]
    · rw [cutL_at r hp]
      have ih := IH r (by simp at hl; omega)
      have e := Lib.join_cons p (cutL c r) [c]
      unfold Lib.join at e; rw [e]
      cases hc : cutL c r with
      | nil => exact absurd hc (cutL_ne c r)
      | cons x t =>
        rw [hc] at ih
        have e2 := Lib.join_cons x t [c]
        unfold Lib.join at e2; rw [e2] at ih
        simp only [Lib.joinTail, List.map_cons, List.flatten_cons] at ih ⊢
        rw [List.append_assoc, ih]; simp
theorem read_yes {l : List UInt8} (h : readB l = true) : textL (readH l 0) (readH l 1) (readH l 2) (readH l 3) = l := by
  have hj := cut_join 46 l.length l (Nat.le_refl _)
  unfold readH; rw [h]; simp only [if_true]
  unfold readB at h
  rw [Bool.and_eq_true, beq_iff_eq, List.all_eq_true] at h
  obtain ⟨h4, ha⟩ := h
  match hc : cutL 46 l, h4 with
  | [p, q, r, s], _ =>
    rw [hc] at hj ha
    have e1 := (octB_iff p).1 (ha p (by simp))
    have e2 := (octB_iff q).1 (ha q (by simp))
    have e3 := (octB_iff r).1 (ha r (by simp))
    have e4 := (octB_iff s).1 (ha s (by simp))
    simp only [List.getD_cons_zero, List.getD_cons_succ]
    unfold textL; rw [e1, e2, e3, e4, ← hj]
    simp [List.intercalate]
theorem octB_itoa {n : Int} (h0 : 0 ≤ n) (h1 : n ≤ 255) : octB (Lib.itoa n) = true ∧ oct (Lib.itoa n) = n := by
  have g : getO (Lib.itoa n) = some n.toNat := by
    refine (getO_iff _ _).2 ⟨(itoa_pos h0).symm, ?_⟩
    rw [itoa_pos h0, Lib.decDigits_length]
    have h2 : n.toNat < 256 := by omega
    generalize n.toNat = u at h2 ⊢
    rcases Nat.lt_or_ge u 10 with a | a
    · rw [Lib.nDigits_small a]; omega
    · rw [Lib.nDigits_big (by omega)]
      rcases Nat.lt_or_ge (u / 10) 10 with b | b
      · rw [Lib.nDigits_small b]; omega
      · rw [Lib.nDigits_big (by omega), Lib.nDigits_small (by omega)]; omega
  refine ⟨?_, ?_⟩
  · unfold octB; rw [getB_some g]; simp; omega
  · unfold oct; rw [getV_yes g (by omega)]; omega
theorem read_text {a b c d : Int} (ha : 0 ≤ a ∧ a ≤ 255) (hb : 0 ≤ b ∧ b ≤ 255) (hc : 0 ≤ c ∧ c ≤ 255) (hd : 0 ≤ d ∧ d ≤ 255) :
    readB (textL a b c d) = true ∧ readH (textL a b c d) 0 = a ∧ readH (textL a b c d) 1 = b ∧ readH (textL a b c d) 2 = c ∧ readH (textL a b c d) 3 = d := by
  have e := cut_text a b c d
  have oa := octB_itoa ha.1 ha.2; have ob := octB_itoa hb.1 hb.2; have oc := octB_itoa hc.1 hc.2; have od := octB_itoa hd.1 hd.2
  have hB : readB (textL a b c d) = true := by unfold readB; rw [e]; simp [oa.1, ob.1, oc.1, od.1]
  refine ⟨hB, ?_, ?_, ?_, ?_⟩ <;> (unfold readH; rw [hB, e]; simp [oa.2, ob.2, oc.2, od.2])

/-! the four texts that the code holds against each other -/
/-- the parts that a text is split into, four of them -/
def four (l : List UInt8) : List (List UInt8) := (Lib.splitK [46] 0 (min 4 (l.length + 1) - 1) l) ++ List.replicate (4 - (Lib.splitK [46] 0 (min 4 (l.length + 1) - 1) l).length) []
theorem four_parts (l : List UInt8) : ∃ p q r s, four l = [p, q, r, s] ∧ Lib.splitK [46] 0 (min 4 (l.length + 1) - 1) l ++ List.replicate (4 - (Lib.splitK [46] 0 (min 4 (l.length + 1) - 1) l).length) [] = [p, q, r, s] := by
  have h : (four l).length = 4 := by
    have := splitK_length 46 (min 4 (l.length + 1) - 1) l
    unfold four; simp; omega
  match e : four l, h with
  | [p, q, r, s], _ => exact ⟨p, q, r, s, rfl, e⟩
theorem four_length (l : List UInt8) : (four l).length = 4 := by
  have := splitK_length 46 (min 4 (l.length + 1) - 1) l
  unfold four; simp; omega
theorem four_yes {l : List UInt8} (h : ∀ x ∈ four l, Lib.itoa (oct x) = x) : readB l = true ∧ cutL 46 l = four l := by
  have hl := splitK_length 46 (min 4 (l.length + 1) - 1) l
  have h4 : 4 - (Lib.splitK [46] 0 (min 4 (l.length + 1) - 1) l).length = 0 := by
    rcases Nat.eq_zero_or_pos (4 - (Lib.splitK [46] 0 (min 4 (l.length + 1) - 1) l).length) with e | e
    · exact e
    · have := h [] (by unfold four; rw [List.mem_append]; exact Or.inr (by rw [List.mem_replicate]; exact ⟨by omega, rfl⟩))
      exact absurd this (itoa_ne _)
  have hf : four l = Lib.splitK [46] 0 (min 4 (l.length + 1) - 1) l := by unfold four; rw [h4]; simp
  have hc : cutL 46 l = four l := by
    rw [hf]; symm
    refine splitK_all _ _ fun x hx => ?_
    rw [← h x (by rw [hf]; exact hx)]; exact dotless _
  refine ⟨?_, hc⟩
  unfold readB
  rw [hc, four_length, Bool.and_eq_true, List.all_eq_true]
  exact ⟨rfl, fun x hx => (octB_iff x).2 (h x hx)⟩
theorem four_no {l : List UInt8} (h : ¬ ∀ x ∈ four l, Lib.itoa (oct x) = x) : readB l = false := by
  cases e : readB l with
  | false => rfl
  | true =>
    exfalso; apply h
    unfold readB at e
    rw [Bool.and_eq_true, beq_iff_eq, List.all_eq_true] at e
    obtain ⟨h4, ha⟩ := e
    have hle := cutL_length_le 46 l
    have hs := splitK_few (c := 46) (min 4 (l.length + 1) - 1) l (by omega)
    have hf : four l = cutL 46 l := by unfold four; rw [hs, h4]; simp
    rw [hf]; exact fun x hx => (octB_iff x).1 (ha x hx)

#print axioms four_no
#print axioms read_text
end Go.Proofs.YtojpahnfhhbnoaaDoor.Quad
