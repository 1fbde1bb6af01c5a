/- Plain facts on replies (layer 9): what ends one, which may be, printed, taken. No program in this text. -/
import Derived.Test.YtbojjbnmjhblfaaDoorCmdPlain
import Derived.Test.YtbojjbnmjhblfaaDoorQuadPlain
namespace Go.Proofs.YtbojjbnmjhblfaaDoor.Rp
open Go Go.Proofs.YtbojjbnmjhblfaaDoor.Cm Go.Proofs.YtbojjbnmjhblfaaDoor.Quad

abbrev Ls := List (List UInt8)
/-- does a line end a reply of a code? -/
def ends (code : Int) (s : List UInt8) : Bool := (s == Lib.itoa code) || (decide ((Lib.itoa code).length + 1 ≤ s.length) && (s.take ((Lib.itoa code).length + 1) == Lib.itoa code ++ [32]))
/-- may the line at i be, of n? -/
def okAt (code : Int) (n i : Nat) (s : List UInt8) : Bool := clean s && decide (s.length ≤ 500) && !(decide (0 < i) && decide (i + 1 < n) && ends code s)
def okUpto (code : Int) (l : Ls) (k : Nat) : Bool := (List.range k).all fun i => okAt code l.length i (l.getD i [])
def mayB (code : Int) (l : Ls) : Bool := decide (100 ≤ code) && decide (code ≤ 599) && decide (1 ≤ l.length) && decide (l.length ≤ 20) && okUpto code l l.length
/-- the line at i, of n, as it is sent -/
def lineAt (code : Int) (n i : Nat) (s : List UInt8) : List UInt8 := if i + 1 = n then Lib.itoa code ++ 32 :: s else if i = 0 then Lib.itoa code ++ 45 :: s else s
def linesUpto (code : Int) (l : Ls) (k : Nat) : Ls := (List.range k).map fun i => lineAt code l.length i (l.getD i [])
def linesOf (code : Int) (l : Ls) : Ls := linesUpto code l l.length
def print (code : Int) (l : Ls) : Ls × Bool := if mayB code l then (linesOf code l, true) else ([], false)
def same (c : Int) (l : Ls) (c' : Int) (l' : Ls) : Bool := decide (c = c' ∧ l = l')

theorem getD_at {l : Ls} {i : Nat} (h : i < l.length) : l.getD i [] = l[i] := by simp [List.getD, h]
theorem ok_next {code : Int} {l : Ls} {k : Nat} (h : k < l.length) : okUpto code l (k + 1) = (okUpto code l k && okAt code l.length k l[k]) := by
  unfold okUpto
  rw [List.range_succ, List.all_append, List.all_cons, List.all_nil, Bool.and_true, getD_at h]
theorem ok_zero (code : Int) (l : Ls) : okUpto code l 0 = true := rfl
theorem ok_at {code : Int} {l : Ls} {k i : Nat} (h : okUpto code l k = true) (hi : i < k) (hl : i < l.length) : okAt code l.length i l[i] = true := by
  have := List.all_eq_true.1 h i (List.mem_range.2 hi)
  rwa [getD_at hl] at this
theorem ok_no {code : Int} {l : Ls} {k i : Nat} (hl : i < l.length) (hi : i < k) (h : okAt code l.length i l[i] = false) : okUpto code l k = false := by
  cases hc : okUpto code l k with
  | false => rfl
  | true => rw [ok_at hc hi hl] at h; cases h
theorem lines_next {code : Int} {l : Ls} {k : Nat} (h : k < l.length) : linesUpto code l (k + 1) = linesUpto code l k ++ [lineAt code l.length k l[k]] := by
  unfold linesUpto
  rw [List.range_succ, List.map_append, List.map_cons, List.map_nil, getD_at h]
theorem lines_len (code : Int) (l : Ls) (k : Nat) : (linesUpto code l k).length = k := by unfold linesUpto; simp
theorem lines_at {code : Int} {l : Ls} {k i : Nat} (hi : i < (linesUpto code l k).length) (hl : i < l.length) : (linesUpto code l k)[i] = lineAt code l.length i l[i] := by
  have hk : i < k := by rw [lines_len] at hi; exact hi
  have e : (linesUpto code l k)[i]? = some (lineAt code l.length i l[i]) := by
    unfold linesUpto
    rw [List.getElem?_map, List.getElem?_range hk, Option.map_some, getD_at hl]
  rw [List.getElem?_eq_getElem hi] at e
  exact Option.some.inj e

structure May (code : Int) (l : Ls) : Prop where
  lo : 100 ≤ code
  hi : code ≤ 599
  one : 1 ≤ l.length
  few : l.length ≤ 20
  clean : ∀ i (h : i < l.length), Cm.clean l[i] = true
  short : ∀ i (h : i < l.length), l[i].length ≤ 500
  mid : ∀ i (h : i < l.length), 0 < i → i + 1 < l.length → ends code l[i] = false
theorem may_parts {code : Int} {l : Ls} (h : mayB code l = true) : May code l := by
  unfold mayB at h
  simp only [Bool.and_eq_true, decide_eq_true_eq] at h
  obtain ⟨⟨⟨⟨h1, h2⟩, h3⟩, h4⟩, h5⟩ := h
  have hk : ∀ i (h : i < l.length), (Cm.clean l[i] = true ∧ l[i].length ≤ 500) ∧ (0 < i → i + 1 < l.length → ends code l[i] = false) := fun i hi => by
    have := ok_at h5 hi hi
    unfold okAt at this
    simp only [Bool.and_eq_true, decide_eq_true_eq, Bool.not_eq_true', Bool.and_eq_false_iff, decide_eq_false_iff_not] at this
    refine ⟨this.1, fun a b => ?_⟩
    rcases this.2 with (h | h) | h
    · exact absurd a h
    · exact absurd b h
    · exact h
  exact ⟨h1, h2, h3, h4, fun i h => (hk i h).1.1, fun i h => (hk i h).1.2, fun i h => (hk i h).2⟩
theorem may_of {code : Int} {l : Ls} (h : May code l) : mayB code l = true := by
  unfold mayB
  simp only [Bool.and_eq_true, decide_eq_true_eq]
  refine ⟨⟨⟨⟨h.lo, h.hi⟩, h.one⟩, h.few⟩, ?_⟩
  refine List.all_eq_true.2 fun i hi => ?_
  have hi := List.mem_range.1 hi
  rw [getD_at hi]
  unfold okAt
  simp only [Bool.and_eq_true, decide_eq_true_eq, Bool.not_eq_true', Bool.and_eq_false_iff, decide_eq_false_iff_not]
  refine ⟨⟨h.clean i hi, h.short i hi⟩, ?_⟩
  by_cases a : 0 < i
  · by_cases b : i + 1 < l.length
    · exact Or.inr (h.mid i hi a b)
    · exact Or.inl (Or.inr b)
  · exact Or.inl (Or.inl a)

/-! codes of three digits -/
theorem code_digits : ∀ k : Nat, k < 500 → Lib.itoa ((k + 100 : Nat) : Int) = [UInt8.ofNat (48 + (k + 100) / 100), UInt8.ofNat (48 + (k + 100) / 10 % 10), UInt8.ofNat (48 + (k + 100) % 10)] := by decide +kernel
theorem code_three {code : Int} (lo : 100 ≤ code) (hi : code ≤ 599) : Lib.itoa code = [UInt8.ofNat (48 + code.toNat / 100), UInt8.ofNat (48 + code.toNat / 10 % 10), UInt8.ofNat (48 + code.toNat % 10)] := by
  have h := code_digits (code.toNat - 100) (by omega)
  have e : code.toNat - 100 + 100 = code.toNat := by omega
  rw [e] at h
  rw [show (code.toNat : Int) = code from by omega] at h
  exact h
theorem code_len {code : Int} (lo : 100 ≤ code) (hi : code ≤ 599) : (Lib.itoa code).length = 3 := by rw [code_three lo hi]; rfl
theorem code_clean {code : Int} (lo : 100 ≤ code) (hi : code ≤ 599) : Cm.clean (Lib.itoa code) = true := by
  refine List.all_eq_true.2 fun c hc => ?_
  rw [itoa_pos (by omega)] at hc
  have := digits_dig hc
  exact decide_eq_true (by omega)
theorem code_get {code : Int} (lo : 100 ≤ code) (hi : code ≤ 599) : getB (Lib.itoa code) 599 = true ∧ getV (Lib.itoa code) 599 = code := by
  obtain ⟨n, rfl⟩ : ∃ n : Nat, code = (n : Int) := ⟨code.toNat, by omega⟩
  have hb : getB (Lib.itoa (n : Int)) 599 = true := (getB_iff _ _).2 ⟨n, (itoa_nat n).symm, by rw [code_len lo hi]; decide, hi, by
    have hg : getO (Lib.itoa (n : Int)) = some n := (getO_iff _ _).2 ⟨(itoa_nat n).symm, by rw [code_len lo hi]; decide⟩
    exact getV_yes hg hi⟩
  refine ⟨hb, ?_⟩
  obtain ⟨m, h1, _, _, h4⟩ := (getB_iff _ _).1 hb
  rw [itoa_nat] at h1
  rw [digits_inj h1] at h4
  exact h4

/-! what is taken -/
/-- what has come of a reply: its code, lines, and whether it goes on -/
structure Ga where
  code : Int
  lines : Ls
  isOpen : Bool
  deriving DecidableEq
abbrev Ga.none : Ga := ⟨0, [], false⟩
/-- what is answered: the gather, the reply's code and lines, whether it was taken, the error -/
structure Tk where
  g : Ga
  code : Int
  lines : Ls
  done : Bool
  err : Int
  deriving DecidableEq
def Tk.bad (e : Int) : Tk := ⟨Ga.none, 0, [], false, e⟩
def begins (s : List UInt8) : Bool := decide (3 ≤ s.length) && (getB (s.take 3) 599 && (decide (100 ≤ getV (s.take 3) 599) && (decide (s.length = 3) || (s[3]? == some 32) || (s[3]? == some 45))))
def first (s : List UInt8) : Tk :=
  if begins s then (if s[3]? == some 45 then ⟨⟨getV (s.take 3) 599, [s.drop 4], true⟩, 0, [], false, 0⟩ else ⟨Ga.none, getV (s.take 3) 599, [s.drop 4], true, 0⟩) else Tk.bad 2
def later (code : Int) (l : Ls) (s : List UInt8) : Tk :=
  if ends code s then ⟨Ga.none, code, l ++ [s.drop ((Lib.itoa code).length + 1)], true, 0⟩ else if 19 ≤ l.length then Tk.bad 5 else ⟨⟨code, l ++ [s], true⟩, 0, [], false, 0⟩
def take (g : Ga) (s : List UInt8) : Tk :=
  if clean s && decide (s.length ≤ 504) then (if g.isOpen then later g.code g.lines s else first s) else Tk.bad 2

/-! what is printed is taken -/
theorem ends_last {code : Int} (s : List UInt8) : ends code (Lib.itoa code ++ 32 :: s) = true := by
  unfold ends
  rw [Bool.or_eq_true, Bool.and_eq_true]
  right
  constructor
  · refine decide_eq_true ?_
    rw [List.length_append, List.length_cons]; omega
  · rw [beq_iff_eq, List.take_append, List.take_of_length_le (by omega)]
    simp
theorem drop_last {code : Int} (s : List UInt8) : (Lib.itoa code ++ 32 :: s).drop ((Lib.itoa code).length + 1) = s := by simp [List.drop_append]
theorem first_line {code : Int} (lo : 100 ≤ code) (hi : code ≤ 599) (c : UInt8) (s : List UInt8) (hc : c = 32 ∨ c = 45) :
    first (Lib.itoa code ++ c :: s) = if c = 45 then ⟨⟨code, [s], true⟩, 0, [], false, 0⟩ else ⟨Ga.none, code, [s], true, 0⟩ := by
  have hl := code_len lo hi
  have h3 : (Lib.itoa code ++ c :: s).take 3 = Lib.itoa code := by rw [← hl]; simp
  have hx : (Lib.itoa code ++ c :: s)[3]? = some c := by rw [List.getElem?_append_right (by omega), hl]; rfl
  have h4 : (Lib.itoa code ++ c :: s).drop 4 = s := by
    rw [List.drop_append, hl, List.drop_eq_nil_of_le (by omega)]; rfl
  obtain ⟨g1, g2⟩ := code_get lo hi
  have hb : begins (Lib.itoa code ++ c :: s) = true := by
    unfold begins
    rw [h3, g1, g2, hx, decide_eq_true lo, decide_eq_true (by rw [List.length_append, hl]; omega)]
    rcases hc with rfl | rfl <;> simp
  unfold first
  rw [hb, h3, hx, h4, g2, if_pos rfl]
  rcases hc with rfl | rfl <;> rfl
theorem line_clean {code : Int} {l : Ls} (h : May code l) {i : Nat} (hi : i < l.length) : clean (lineAt code l.length i l[i]) = true ∧ (lineAt code l.length i l[i]).length ≤ 504 := by
  have hl := code_len h.lo h.hi
  have hs := h.short i hi
  have hc := h.clean i hi
  have one : ∀ c : UInt8, cleanB c = true → clean (Lib.itoa code ++ c :: l[i]) = true ∧ (Lib.itoa code ++ c :: l[i]).length ≤ 504 := fun c hcb => by
    refine ⟨?_, by rw [List.length_append, List.length_cons, hl]; omega⟩
    rw [clean_append, clean_cons, code_clean h.lo h.hi, hcb, hc]; rfl
  unfold lineAt
  by_cases h1 : i + 1 = l.length
  · rw [if_pos h1]; exact one 32 (by decide)
  · rw [if_neg h1]
    by_cases h0 : i = 0
    · rw [if_pos h0]; exact one 45 (by decide)
    · rw [if_neg h0]; exact ⟨hc, by omega⟩
/-- what has come before the line at i -/
def before (code : Int) (l : Ls) (i : Nat) : Ga := if i = 0 then Ga.none else ⟨code, l.take i, true⟩
theorem take_line {code : Int} {l : Ls} (h : May code l) {i : Nat} (hi : i < l.length) :
    take (before code l i) (lineAt code l.length i l[i]) = if i + 1 = l.length then ⟨Ga.none, code, l, true, 0⟩ else ⟨before code l (i + 1), 0, [], false, 0⟩ := by
  obtain ⟨hc, hs⟩ := line_clean h hi
  unfold take
  rw [hc, decide_eq_true hs, Bool.and_self, if_pos rfl]
  unfold before lineAt
  by_cases h0 : i = 0
  · subst h0
    rw [if_pos rfl, if_neg (by decide : ¬ Ga.none.isOpen = true)]
    by_cases h1 : 0 + 1 = l.length
    · rw [if_pos h1, if_pos h1, first_line h.lo h.hi 32 _ (Or.inl rfl), if_neg (by decide)]
      congr 1
      match l, h1 with
      | [x], _ => rfl
    · rw [if_neg h1, if_neg h1, if_pos rfl, first_line h.lo h.hi 45 _ (Or.inr rfl), if_pos rfl, if_neg (by omega)]
      congr 2
      match l, hi with
      | x :: r, _ => rfl
  · rw [if_neg h0, if_pos (rfl : (Ga.mk code (l.take i) true).isOpen = true)]
    show later code (l.take i) _ = _
    by_cases h1 : i + 1 = l.length
    · rw [if_pos h1, if_pos h1]
      unfold later
      rw [ends_last, if_pos rfl, drop_last]
      congr 1
      have : l.take i ++ [l[i]] = l.take (i + 1) := (List.take_succ_eq_append_getElem hi).symm
      rw [this, h1, List.take_length]
    · rw [if_neg h1, if_neg h1, if_neg h0, if_neg (by omega : ¬ i + 1 = 0)]
      unfold later
      rw [h.mid i hi (by omega) (by omega), if_neg (by decide), if_neg (by rw [List.length_take]; have := h.few; omega)]
      rw [List.take_succ_eq_append_getElem hi]

/-! printed alike only if the same -/
theorem itoa_line {c c' : Int} (lo : 100 ≤ c) (hi : c ≤ 599) (lo' : 100 ≤ c') (hi' : c' ≤ 599) {x : UInt8} {s s' : List UInt8} (h : Lib.itoa c ++ x :: s = Lib.itoa c' ++ x :: s') : c = c' ∧ s = s' := by
  obtain ⟨h1, h2⟩ := List.append_inj h (by rw [code_len lo hi, code_len lo' hi'])
  exact ⟨itoa_inj h1, (List.cons.inj h2).2⟩
theorem lines_inj {c c' : Int} {l l' : Ls} (h : May c l) (h' : May c' l') (e : linesOf c l = linesOf c' l') : c = c' ∧ l = l' := by
  have hlen : l.length = l'.length := by
    have := congrArg List.length e
    unfold linesOf at this
    rwa [lines_len, lines_len] at this
  have at' : ∀ i (hi : i < l.length) (hi' : i < l'.length), lineAt c l.length i l[i] = lineAt c' l'.length i l'[i] := fun i hi hi' => by
    have h1 : (linesOf c l)[i]'(by unfold linesOf; rw [lines_len]; exact hi) = (linesOf c' l')[i]'(by unfold linesOf; rw [lines_len]; exact hi') := by simp only [e]
    unfold linesOf at h1
    rw [lines_at _ hi, lines_at _ hi'] at h1
    exact h1
  have one := h.one
  have hz := at' (l.length - 1) (by omega) (by omega)
  unfold lineAt at hz
  rw [if_pos (by omega), if_pos (by omega)] at hz
  have hc := (itoa_line h.lo h.hi h'.lo h'.hi hz).1
  refine ⟨hc, ?_⟩
  subst hc
  refine List.ext_getElem hlen fun i hi hi' => ?_
  have hx := at' i hi hi'
  unfold lineAt at hx
  rw [← hlen] at hx
  by_cases h1 : i + 1 = l.length
  · rw [if_pos h1, if_pos h1] at hx
    exact (itoa_line h.lo h.hi h.lo h.hi hx).2
  · rw [if_neg h1, if_neg h1] at hx
    by_cases h0 : i = 0
    · rw [if_pos h0, if_pos h0] at hx
      exact (itoa_line h.lo h.hi h.lo h.hi hx).2
    · rw [if_neg h0, if_neg h0] at hx
      exact hx

/-! ReplyOpen -/
theorem may_one {code : Int} (s : List UInt8) : mayB code [s] = (decide (100 ≤ code) && decide (code ≤ 599) && (clean s && decide (s.length ≤ 500))) := by
  unfold mayB okUpto
  simp [okAt, List.range_succ]
theorem other_ends {c c' : Int} (lo : 100 ≤ c) (hi : c ≤ 599) (lo' : 100 ≤ c') (hi' : c' ≤ 599) (hne : c ≠ c') (s : List UInt8) : ends c (Lib.itoa c' ++ 32 :: s) = false := by
  unfold ends
  rw [Bool.or_eq_false_iff]
  constructor
  · rw [beq_eq_false_iff_ne]
    intro e
    have := congrArg List.length e
    rw [List.length_append, List.length_cons, code_len lo hi, code_len lo' hi'] at this
    omega
  · rw [Bool.and_eq_false_iff]
    right
    rw [beq_eq_false_iff_ne]
    intro e
    have h4 : (Lib.itoa c' ++ 32 :: s).take ((Lib.itoa c).length + 1) = Lib.itoa c' ++ [32] := by
      rw [code_len lo hi, List.take_append, code_len lo' hi']
      rw [List.take_of_length_le (by rw [code_len lo' hi']; omega)]
      rfl
    rw [h4] at e
    exact hne (itoa_inj (List.append_inj e (by rw [code_len lo hi, code_len lo' hi'])).1).symm

#print axioms take_line
#print axioms lines_inj
#print axioms other_ends
end Go.Proofs.YtbojjbnmjhblfaaDoor.Rp
