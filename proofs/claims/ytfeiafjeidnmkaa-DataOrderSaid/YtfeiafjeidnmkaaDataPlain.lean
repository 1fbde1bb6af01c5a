/- Plain facts of layer 21: links, what goes out; what they carry, lead to, and come to. -/
import Derived.Lib.Hide
namespace Go.Proofs.Ytfeiafjeidnmkaa.Da
set_option linter.unusedVariables false

/-- a link: of which session, its two connections, and what waits -/
structure PL where
  sess : Int
  a : Int
  b : Int
  ws : List (List UInt8)
deriving DecidableEq, Inhabited
/-- what goes out: its kind, to whom, an end, and bytes -/
structure PO where
  kind : Int
  conn : Int
  h0 : Int
  h1 : Int
  h2 : Int
  h3 : Int
  port : Int
  b : List UInt8
deriving DecidableEq, Inhabited
def sendO (c : Int) (b : List UInt8) : PO := ⟨0, c, 0, 0, 0, 0, 0, b⟩
def shutO (c : Int) : PO := ⟨1, c, 0, 0, 0, 0, 0, []⟩
/-- none of them is empty -/
def fullB : List (List UInt8) → Bool
  | [] => true
  | x :: l => !(x.length == 0) && fullB l
def waitB (b : Int) (ws : List (List UInt8)) : Bool := if -1 < b then ws.length == 0 else decide (ws.length ≤ 4) && fullB ws
def mayL (x : PL) : Bool := decide (0 ≤ x.sess) && (decide (0 ≤ x.a) && (decide (-1 ≤ x.b) && (!(x.b == x.a) && waitB x.b x.ws)))
def hasL (x : PL) (c : Int) : Bool := decide (-1 < c) && (c == x.a || c == x.b)
/-- the other one of both -/
def otherL (a b c : Int) : Int := if c = a then b else if c = b then a else 0
def carryL (x : PL) (c : Int) (b : List UInt8) : PL × List PO × Bool :=
  if mayL x = false ∨ hasL x c = false then (x, [], false)
  else if b.length = 0 then (x, [], true)
  else if -1 < otherL x.a x.b c then (x, [sendO (otherL x.a x.b c) b], true)
  else if x.ws.length = 4 then (x, [], false)
  else ({ x with ws := x.ws ++ [b] }, [], true)
def joinL (x : PL) (c : Int) : PL × List PO × Bool :=
  if mayL x = false ∨ -1 < x.b ∨ c ≤ -1 ∨ c = x.a then (x, [], false)
  else (⟨x.sess, x.a, c, []⟩, x.ws.map (sendO c), true)
def endL (x : PL) : List PO := if -1 < x.b then [shutO x.a, shutO x.b] else [shutO x.a]
def sameLs (l m : List PL) : Bool := decide (l = m)
def sameOs (l m : List PO) : Bool := decide (l = m)
def fewL (x : PL) : Bool := decide (x.ws.length ≤ 10) && x.ws.all (fun b => decide (b.length ≤ 300))

theorem fullB_iff (l : List (List UInt8)) : fullB l = true ↔ ∀ x ∈ l, x.length ≠ 0 := by
  induction l with
  | nil => simp [fullB]
  | cons x l ih => simp [fullB, ih]
theorem fullB_no {l : List (List UInt8)} {k : Nat} (h : k < l.length) (e : l[k].length = 0) : fullB l = false := by
  cases hq : fullB l with
  | false => rfl
  | true => exact absurd e ((fullB_iff l).1 hq _ (List.getElem_mem h))
theorem fullB_all {l : List (List UInt8)} (h : ∀ k (hk : k < l.length), l[k].length ≠ 0) : fullB l = true := by
  rw [fullB_iff]
  intro x hx
  obtain ⟨k, hk, rfl⟩ := List.getElem_of_mem hx
  exact h k hk
/-- with one more at the end -/
theorem fullB_append (l : List (List UInt8)) (b : List UInt8) (h : fullB l = true) (hb : b.length ≠ 0) : fullB (l ++ [b]) = true := by
  rw [fullB_iff] at h ⊢
  intro x hx
  rcases List.mem_append.1 hx with hx | hx
  · exact h x hx
  · rw [List.mem_singleton] at hx; subst hx; exact hb

/-- what may be keeps its parts -/
theorem mayL_parts {x : PL} (h : mayL x = true) : 0 ≤ x.sess ∧ 0 ≤ x.a ∧ -1 ≤ x.b ∧ x.b ≠ x.a ∧ waitB x.b x.ws = true := by
  unfold mayL at h
  simp only [Bool.and_eq_true, decide_eq_true_eq, Bool.not_eq_true', beq_eq_false_iff_ne] at h
  exact ⟨h.1, h.2.1, h.2.2.1, h.2.2.2.1, h.2.2.2.2⟩
theorem mayL_of {x : PL} (h0 : 0 ≤ x.sess) (h1 : 0 ≤ x.a) (h2 : -1 ≤ x.b) (h3 : x.b ≠ x.a) (h4 : waitB x.b x.ws = true) : mayL x = true := by
  unfold mayL
  simp [h0, h1, h2, h3, h4]
/-- what is carried, and where it leads to: it may be, if it might -/
theorem carry_may {x : PL} {c : Int} {b : List UInt8} (h : mayL x = true) : mayL (carryL x c b).1 = true := by
  unfold carryL
  split
  · exact h
  · split
    · exact h
    · rename_i hb
      split
      · exact h
      · rename_i ho
        split
        · exact h
        · rename_i hw hx
          obtain ⟨h0, h1, h2, h3, h4⟩ := mayL_parts h
          refine mayL_of h0 h1 h2 h3 ?_
          have hh : hasL x c = true := by
            cases hq : hasL x c with
            | true => rfl
            | false => exact absurd (Or.inr hq) (by assumption)
          unfold hasL at hh
          simp only [Bool.and_eq_true, decide_eq_true_eq, Bool.or_eq_true, beq_iff_eq] at hh
          have hb1 : ¬ -1 < x.b := by
            intro hb1
            unfold otherL at ho
            rcases hh.2 with e | e
            · rw [if_pos e] at ho; exact ho hb1
            · rw [e, if_neg h3, if_pos rfl] at ho; omega
          unfold waitB at h4 ⊢
          rw [if_neg hb1] at h4 ⊢
          simp only [Bool.and_eq_true, decide_eq_true_eq] at h4 ⊢
          refine ⟨?_, fullB_append _ _ h4.2 hb⟩
          simp only [List.length_append, List.length_singleton]
          have := h4.1
          omega
theorem join_may {x : PL} {c : Int} (h : mayL x = true) : mayL (joinL x c).1 = true := by
  unfold joinL
  split
  · exact h
  · rename_i hn
    obtain ⟨h0, h1, h2, h3, h4⟩ := mayL_parts h
    have k1 : ¬ c ≤ -1 := fun e => hn (Or.inr (Or.inr (Or.inl e)))
    have k2 : ¬ c = x.a := fun e => hn (Or.inr (Or.inr (Or.inr e)))
    refine mayL_of h0 h1 (by show -1 ≤ c; omega) k2 ?_
    show waitB c [] = true
    unfold waitB
    rw [if_pos (by omega)]
    rfl
theorem carry_len {x : PL} {c : Int} {b : List UInt8} : (carryL x c b).2.1.length ≤ 1 := by
  unfold carryL
  split
  · simp
  · split
    · simp
    · split
      · simp
      · split <;> simp
theorem carry_keeps {x : PL} {c : Int} {b : List UInt8} : (carryL x c b).1.sess = x.sess ∧ (carryL x c b).1.a = x.a := by
  unfold carryL
  split
  · exact ⟨rfl, rfl⟩
  · split
    · exact ⟨rfl, rfl⟩
    · split
      · exact ⟨rfl, rfl⟩
      · split <;> exact ⟨rfl, rfl⟩
theorem join_keeps {x : PL} {c : Int} : (joinL x c).1.sess = x.sess := by
  unfold joinL
  split <;> rfl
#print axioms carry_may
#print axioms join_may
end Go.Proofs.Ytfeiafjeidnmkaa.Da
