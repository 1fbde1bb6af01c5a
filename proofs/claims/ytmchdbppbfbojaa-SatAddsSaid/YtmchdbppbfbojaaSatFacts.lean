/- Plain facts on what is taken, added, left and spent, for the laws of layer 1. -/
import Derived.Test.YtmchdbppbfbojaaSatRef
namespace Go.Proofs.Ytmchdbppbfbojaa.Sat

theorem may_out {n : Int} (h : may n = true) : 0 ≤ n ∧ n ≤ 1099511627776 := by rw [may_iff] at h; simpa using h
theorem spend_le_left (a b n : Int) : spend a b n ≤ left a b := by unfold spend; split <;> omega
theorem spend_le_n (a b n : Int) (h : 0 ≤ n) : spend a b n ≤ n := by
  have := tk_cases n
  unfold spend; split <;> omega
theorem spend_neg (a b n : Int) (h : n < 0) : spend a b n = 0 := by
  have := tk_cases n
  have := tk_lo (tk a - tk b)
  unfold spend left; split <;> omega
theorem left_in (a b : Int) (a0 : 0 ≤ a) (a1 : a ≤ 1099511627776) (b0 : 0 ≤ b) (b1 : b ≤ 1099511627776) (h : b ≤ a) : left a b = a - b := by
  unfold left; rw [tk_in a0 a1, tk_in b0 b1, tk_in (by omega) (by omega)]
theorem after_in (a b n : Int) (a0 : 0 ≤ a) (a1 : a ≤ 1099511627776) (b0 : 0 ≤ b) (b1 : b ≤ 1099511627776) (h : b ≤ a) : add b (spend a b n) = b + spend a b n := by
  have h1 := spend_le_left a b n
  have h2 := left_in a b a0 a1 b0 b1 h
  have h3 := spend_lo a b n
  unfold add; rw [tk_in b0 b1, tk_in h3 (by omega), tk_in (by omega) (by omega)]
theorem over_in (a b n : Int) (a0 : 0 ≤ a) (a1 : a ≤ 1099511627776) (b0 : 0 ≤ b) (b1 : b ≤ 1099511627776) (h : a < b) : spend a b n = 0 ∧ add b (spend a b n) = b ∧ left a b = 0 := by
  have l0 : left a b = 0 := by unfold left; rw [tk_in a0 a1, tk_in b0 b1, tk_neg (by omega)]
  have s0 : spend a b n = 0 := by have := spend_le_left a b n; have := spend_lo a b n; omega
  refine ⟨s0, ?_, l0⟩
  rw [s0]; unfold add; rw [tk_in b0 b1, tk_in (n := 0) (by omega) (by omega), Int.add_zero, tk_in b0 b1]
theorem left_eq (a b : Int) : left a b = if tk b ≤ tk a then tk a - tk b else 0 := by
  have := tk_lo a; have := tk_hi a; have := tk_lo b; have := tk_hi b
  unfold left; split
  · exact tk_in (by omega) (by omega)
  · exact tk_neg (by omega)
theorem add_eq (a b : Int) : add a b = if tk a + tk b ≤ 1099511627776 then tk a + tk b else 1099511627776 := by
  have := tk_lo a; have := tk_hi a; have := tk_lo b; have := tk_hi b
  unfold add; split
  · exact tk_in (by omega) (by omega)
  · exact tk_big (by omega)
theorem tk_add (a b : Int) : tk (add a b) = add a b := tk_in (tk_lo _) (tk_hi _)
theorem tk_spend (a b n : Int) : tk (spend a b n) = spend a b n := tk_in (spend_lo _ _ _) (spend_hi _ _ _)
theorem twice (l u a b : Int) (ha : 0 ≤ a) (hb : 0 ≤ b) : add u (spend l u (a + b)) = add (add u (spend l u a)) (spend l (add u (spend l u a)) b) ∧ spend l u (a + b) = spend l u a + spend l (add u (spend l u a)) b := by
  have l0 := tk_lo l; have l1 := tk_hi l; have u0 := tk_lo u; have u1 := tk_hi u
  have ca := tk_cases a; have cb := tk_cases b; have cs := tk_cases (a + b)
  have e1 : spend l u a = if tk a ≤ left l u then tk a else left l u := rfl
  have e3 : spend l u (a + b) = if tk (a + b) ≤ left l u then tk (a + b) else left l u := rfl
  have e2 : spend l (add u (spend l u a)) b = if tk b ≤ left l (add u (spend l u a)) then tk b else left l (add u (spend l u a)) := rfl
  have d1 := left_eq l u
  have d2 := left_eq l (add u (spend l u a))
  have g1 := add_eq u (spend l u a)
  have g2 := add_eq u (spend l u (a + b))
  have g3 := add_eq (add u (spend l u a)) (spend l (add u (spend l u a)) b)
  rw [tk_add] at d2 g3
  rw [tk_spend] at g1 g2 g3
  generalize spend l (add u (spend l u a)) b = y at *
  generalize left l (add u (spend l u a)) = dy at *
  generalize add (add u (spend l u a)) y = two at *
  generalize add u (spend l u a) = one at *
  generalize spend l u a = x at *
  generalize add u (spend l u (a + b)) = all at *
  generalize spend l u (a + b) = z at *
  generalize left l u = d at *
  generalize tk l = tl at *
  generalize tk u = tu at *
  generalize tk a = ta at *
  generalize tk b = tb at *
  generalize tk (a + b) = ts at *
  constructor <;> (split at e1 <;> split at e2 <;> split at e3 <;> split at d1 <;> split at d2 <;> split at g1 <;> split at g2 <;> split at g3 <;> omega)
theorem add_comm (a b : Int) : add a b = add b a := by unfold add; rw [Int.add_comm]
theorem add_assoc (a b c : Int) : add (add a b) c = add a (add b c) := by
  have e1 := add_eq (add a b) c
  have e2 := add_eq a (add b c)
  have e3 := add_eq a b
  have e4 := add_eq b c
  rw [tk_add] at e1 e2
  have := tk_lo a; have := tk_hi a; have := tk_lo b; have := tk_hi b; have := tk_lo c; have := tk_hi c
  split at e1 <;> split at e2 <;> split at e3 <;> split at e4 <;> omega
theorem add_zero (a : Int) (h0 : 0 ≤ a) (h1 : a ≤ 1099511627776) : add a 0 = a := by
  have e := add_eq a 0
  rw [tk_in h0 h1, tk_in (n := 0) (by omega) (by omega)] at e
  split at e <;> omega
theorem add_ge (a b : Int) (h0 : 0 ≤ a) (h1 : a ≤ 1099511627776) : a ≤ add a b := by
  have e := add_eq a b
  have := tk_lo b
  rw [tk_in h0 h1] at e
  split at e <;> omega
theorem add_in (a b : Int) (a0 : 0 ≤ a) (b0 : 0 ≤ b) (h : a + b ≤ 1099511627776) : add a b = a + b := by
  have e := add_eq a b
  rw [tk_in a0 (by omega), tk_in b0 (by omega)] at e
  split at e <;> omega
theorem left_more (a b n : Int) (h : 0 ≤ n) : left a b ≤ left (a + n) b := by
  have e1 := left_eq a b
  have e2 := left_eq (a + n) b
  have := tk_cases a; have := tk_cases (a + n)
  split at e1 <;> split at e2 <;> omega
theorem left_less (a b n : Int) (h : 0 ≤ n) : left a (b + n) ≤ left a b := by
  have e1 := left_eq a b
  have e2 := left_eq a (b + n)
  have := tk_cases b; have := tk_cases (b + n)
  split at e1 <;> split at e2 <;> omega
theorem left_self (a : Int) : left a a = 0 := by
  have e1 := left_eq a a
  split at e1 <;> omega
theorem left_neg (a b : Int) (h : a < 0) : left a b = 0 := by
  have e1 := left_eq a b
  have := tk_neg h; have := tk_lo b
  split at e1 <;> omega
theorem left_zero (a : Int) : left 0 a = 0 := by
  have e1 := left_eq 0 a
  have := tk_in (n := 0) (by omega) (by omega); have := tk_lo a
  split at e1 <;> omega
theorem add_max (a : Int) : add a 1099511627776 = 1099511627776 := by
  have e := add_eq a 1099511627776
  have := tk_in (n := 1099511627776) (by omega) (by omega); have := tk_lo a
  split at e <;> omega
theorem add_neg (a b : Int) (h : b < 0) : add a b = add a 0 := by
  unfold add; rw [tk_neg h, tk_in (n := 0) (by omega) (by omega)]
end Go.Proofs.Ytmchdbppbfbojaa.Sat
