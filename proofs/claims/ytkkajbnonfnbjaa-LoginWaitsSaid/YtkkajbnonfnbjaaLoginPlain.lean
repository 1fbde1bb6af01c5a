/- Plain facts of layer 17: logins; who may be one, and where one leads. -/
import Derived.Test.YtkkajbnonfnbjaaRoutePlain
namespace Go.Proofs.Ytkkajbnonfnbjaa.Lo
open Go.Proofs.Ytkkajbnonfnbjaa Go.Proofs.Ytkkajbnonfnbjaa.Ro
set_option maxRecDepth 100000

/-- a login: its phase, its tenant, its user -/
structure Lg where
  ph : Int
  te : Int
  us : List UInt8
deriving DecidableEq
def newL : Lg := ⟨0, -1, []⟩
def eqL (a b : Lg) : Bool := a.ph == b.ph && (a.te == b.te && decide (a.us = b.us))
theorem eqL_iff {a b : Lg} : eqL a b = true ↔ a = b := by
  cases a; cases b; simp [eqL]
theorem eqL_self (a : Lg) : eqL a a = true := eqL_iff.2 rfl
theorem eqL_no {a b : Lg} (h : a ≠ b) : eqL a b = false := by
  cases e : eqL a b with
  | true => exact absurd (eqL_iff.1 e) h
  | false => rfl
/-- which may be -/
def May (l : Lg) : Prop := ((l.ph = 0 ∨ l.ph = 7) ∧ l.te = -1 ∧ l.us = []) ∨ (1 ≤ l.ph ∧ l.ph ≤ 6 ∧ 0 ≤ l.te ∧ l.te < 4 ∧ userB l.us = true)
instance (l : Lg) : Decidable (May l) := by unfold May; infer_instance
def mayL (l : Lg) : Bool := decide (May l)
def userL (l : Lg) (hs : List (List UInt8)) (arg : List UInt8) : Lg × Int :=
  if l.ph = 0 then (match splitR arg with
    | (u, h, b) => if b then (if findH hs h < 0 then (l, 3) else (⟨1, findH hs h, u⟩, 0)) else (l, 2)) else (l, 7)
def passL (l : Lg) : Lg × Int := if l.ph = 4 then (⟨5, l.te, l.us⟩, 0) else (l, 7)
def dialL (l : Lg) (up : Bool) : Lg × Int := if l.ph = 1 then (if up then (⟨2, l.te, l.us⟩, 0) else (newL, 0)) else (l, 7)
def hearL (l : Lg) (code : Int) : Lg × Int :=
  if code < 200 ∨ ¬ (l.ph = 2 ∨ l.ph = 3 ∨ l.ph = 5) then (l, 0)
  else if l.ph = 2 ∧ code = 220 then (⟨3, l.te, l.us⟩, 1)
  else if l.ph = 3 ∧ code = 331 then (⟨4, l.te, l.us⟩, 2)
  else if l.ph ≠ 2 ∧ (code = 230 ∨ code = 232) then (⟨6, l.te, l.us⟩, 4)
  else (newL, 3)

theorem user_odd {l : Lg} (h : l.ph ≠ 0) (hs : List (List UInt8)) (arg : List UInt8) : userL l hs arg = (l, 7) := by unfold userL; rw [if_neg h]
theorem user_form {l : Lg} (h : l.ph = 0) {hs : List (List UInt8)} {arg u g : List UInt8} (e : splitR arg = (u, g, false)) : userL l hs arg = (l, 2) := by unfold userL; rw [if_pos h, e]; rfl
theorem user_none {l : Lg} (h : l.ph = 0) {hs : List (List UInt8)} {arg u g : List UInt8} (e : splitR arg = (u, g, true)) (n : findH hs g < 0) : userL l hs arg = (l, 3) := by
  unfold userL; rw [if_pos h, e]; show (if true = true then _ else _) = _; rw [if_pos rfl, if_pos n]
theorem user_fine {l : Lg} (h : l.ph = 0) {hs : List (List UInt8)} {arg u g : List UInt8} (e : splitR arg = (u, g, true)) (n : ¬ findH hs g < 0) : userL l hs arg = (⟨1, findH hs g, u⟩, 0) := by
  unfold userL; rw [if_pos h, e]; show (if true = true then _ else _) = _; rw [if_pos rfl, if_neg n]
/-- the ways that a client's telling who it is may go -/
theorem user_ways (l : Lg) (hs : List (List UInt8)) (arg : List UInt8) :
    (l.ph ≠ 0 ∧ userL l hs arg = (l, 7)) ∨ (l.ph = 0 ∧ (∃ k : Int, (k = 2 ∨ k = 3) ∧ userL l hs arg = (l, k))) ∨
    (l.ph = 0 ∧ ∃ (t : Int) (u : List UInt8), 0 ≤ t ∧ t < hs.length ∧ userB u = true ∧ userL l hs arg = (⟨1, t, u⟩, 0)) := by
  by_cases h : l.ph = 0
  · obtain ⟨u, g, b, e⟩ : ∃ u g b, splitR arg = (u, g, b) := ⟨_, _, _, rfl⟩
    cases b with
    | false => exact Or.inr (Or.inl ⟨h, 2, Or.inl rfl, user_form h e⟩)
    | true =>
      by_cases n : findH hs g < 0
      · exact Or.inr (Or.inl ⟨h, 3, Or.inr rfl, user_none h e n⟩)
      · refine Or.inr (Or.inr ⟨h, findH hs g, u, by omega, ?_, ?_, user_fine h e n⟩)
        · unfold findH at n ⊢
          cases hf : hs.findIdx? (· == g) with
          | none => rw [hf] at n; exact absurd (by decide) n
          | some i =>
            have := (List.findIdx?_eq_some_iff_getElem.1 hf).1
            show (i : Int) < _
            omega
        · have := (split_may (s := arg) (by rw [e])).1
          rw [e] at this; exact this
  · exact Or.inl ⟨h, user_odd h hs arg⟩
theorem pass_ways (l : Lg) : (l.ph = 4 ∧ passL l = (⟨5, l.te, l.us⟩, 0)) ∨ (l.ph ≠ 4 ∧ passL l = (l, 7)) := by
  by_cases h : l.ph = 4
  · exact Or.inl ⟨h, by unfold passL; rw [if_pos h]⟩
  · exact Or.inr ⟨h, by unfold passL; rw [if_neg h]⟩
theorem dial_ways (l : Lg) (up : Bool) : (l.ph = 1 ∧ up = true ∧ dialL l up = (⟨2, l.te, l.us⟩, 0)) ∨ (l.ph = 1 ∧ up = false ∧ dialL l up = (newL, 0)) ∨ (l.ph ≠ 1 ∧ dialL l up = (l, 7)) := by
  by_cases h : l.ph = 1
  · cases up
    · exact Or.inr (Or.inl ⟨h, rfl, by unfold dialL; rw [if_pos h]; rfl⟩)
    · exact Or.inl ⟨h, rfl, by unfold dialL; rw [if_pos h]; rfl⟩
  · exact Or.inr (Or.inr ⟨h, by unfold dialL; rw [if_neg h]⟩)
theorem hear_still {l : Lg} {code : Int} (h : code < 200 ∨ (l.ph ≠ 2 ∧ l.ph ≠ 3 ∧ l.ph ≠ 5)) : hearL l code = (l, 0) := by
  unfold hearL; rw [if_pos (by omega)]
/-- the ways that a reply may lead -/
theorem hear_ways (l : Lg) (code : Int) :
    ((code < 200 ∨ (l.ph ≠ 2 ∧ l.ph ≠ 3 ∧ l.ph ≠ 5)) ∧ hearL l code = (l, 0)) ∨
    (¬ code < 200 ∧ (l.ph = 2 ∨ l.ph = 3 ∨ l.ph = 5) ∧
      ((l.ph = 2 ∧ code = 220 ∧ hearL l code = (⟨3, l.te, l.us⟩, 1)) ∨ (l.ph = 3 ∧ code = 331 ∧ hearL l code = (⟨4, l.te, l.us⟩, 2)) ∨
       (l.ph ≠ 2 ∧ (code = 230 ∨ code = 232) ∧ hearL l code = (⟨6, l.te, l.us⟩, 4)) ∨
       (¬ (l.ph = 2 ∧ code = 220) ∧ ¬ (l.ph = 3 ∧ code = 331) ∧ ¬ (l.ph ≠ 2 ∧ (code = 230 ∨ code = 232)) ∧ hearL l code = (newL, 3)))) := by
  by_cases h : code < 200 ∨ ¬ (l.ph = 2 ∨ l.ph = 3 ∨ l.ph = 5)
  · exact Or.inl ⟨by omega, hear_still (by omega)⟩
  · refine Or.inr ⟨by omega, by omega, ?_⟩
    unfold hearL
    rw [if_neg h]
    by_cases h1 : l.ph = 2 ∧ code = 220
    · exact Or.inl ⟨h1.1, h1.2, by rw [if_pos h1]⟩
    · rw [if_neg h1]
      by_cases h2 : l.ph = 3 ∧ code = 331
      · exact Or.inr (Or.inl ⟨h2.1, h2.2, by rw [if_pos h2]⟩)
      · rw [if_neg h2]
        by_cases h3 : l.ph ≠ 2 ∧ (code = 230 ∨ code = 232)
        · exact Or.inr (Or.inr (Or.inl ⟨h3.1, h3.2, by rw [if_pos h3]⟩))
        · rw [if_neg h3]
          exact Or.inr (Or.inr (Or.inr ⟨h1, h2, h3, rfl⟩))
theorem may_new : May newL := Or.inl ⟨Or.inl rfl, rfl, rfl⟩
/-- what may be at all -/
theorem may_user {l : Lg} (h : May l) {hs : List (List UInt8)} (hl : hs.length ≤ 4) (arg : List UInt8) : May (userL l hs arg).1 := by
  rcases user_ways l hs arg with ⟨-, e⟩ | ⟨-, k, -, e⟩ | ⟨-, t, u, h0, h1, hu, e⟩
  · rw [e]; exact h
  · rw [e]; exact h
  · rw [e]; exact Or.inr ⟨by show (1 : Int) ≤ 1; omega, by show (1 : Int) ≤ 6; omega, h0, by show t < 4; omega, hu⟩
theorem may_pass {l : Lg} (h : May l) : May (passL l).1 := by
  rcases pass_ways l with ⟨h4, e⟩ | ⟨-, e⟩
  · rw [e]
    rcases h with ⟨h1, -⟩ | ⟨-, -, h3, h5, h6⟩
    · omega
    · exact Or.inr ⟨by show (1 : Int) ≤ 5; omega, by show (5 : Int) ≤ 6; omega, h3, h5, h6⟩
  · rw [e]; exact h
theorem may_dial {l : Lg} (h : May l) (up : Bool) : May (dialL l up).1 := by
  rcases dial_ways l up with ⟨h4, -, e⟩ | ⟨-, -, e⟩ | ⟨-, e⟩
  · rw [e]
    rcases h with ⟨h1, -⟩ | ⟨-, -, h3, h5, h6⟩
    · omega
    · exact Or.inr ⟨by show (1 : Int) ≤ 2; omega, by show (2 : Int) ≤ 6; omega, h3, h5, h6⟩
  · rw [e]; exact may_new
  · rw [e]; exact h
theorem may_hear {l : Lg} (h : May l) (code : Int) : May (hearL l code).1 := by
  rcases hear_ways l code with ⟨-, e⟩ | ⟨-, hp, ⟨-, -, e⟩ | ⟨-, -, e⟩ | ⟨-, -, e⟩ | ⟨-, -, -, e⟩⟩
  · rw [e]; exact h
  all_goals (rw [e])
  · rcases h with ⟨h1, -⟩ | ⟨-, -, h3, h5, h6⟩
    · omega
    · exact Or.inr ⟨by show (1 : Int) ≤ 3; omega, by show (3 : Int) ≤ 6; omega, h3, h5, h6⟩
  · rcases h with ⟨h1, -⟩ | ⟨-, -, h3, h5, h6⟩
    · omega
    · exact Or.inr ⟨by show (1 : Int) ≤ 4; omega, by show (4 : Int) ≤ 6; omega, h3, h5, h6⟩
  · rcases h with ⟨h1, -⟩ | ⟨-, -, h3, h5, h6⟩
    · omega
    · exact Or.inr ⟨by show (1 : Int) ≤ 6; omega, by show (6 : Int) ≤ 6; omega, h3, h5, h6⟩
  · exact may_new

#print axioms may_user
#print axioms may_hear
end Go.Proofs.Ytkkajbnonfnbjaa.Lo
