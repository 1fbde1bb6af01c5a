/- Plain facts of layer 14: how many bytes may go on, of two limits. -/
import Derived.Lib.Hide
namespace Go.Proofs.Ytaahghjllfkmaaa.Qt

/-- a number as it is taken -/
def tk (n : Int) : Int := if n < 0 then 0 else if 1099511627776 < n then 1099511627776 else n
def mayN (n : Int) : Bool := decide (0 ≤ n) && decide (n ≤ 1099511627776)
def add (a b : Int) : Int := tk (tk a + tk b)
def left (a b : Int) : Int := tk (tk a - tk b)
def least (e u q a n : Int) : Int :=
  let m := if left e u < tk n then left e u else tk n
  if left q a < m then left q a else m
structure Tk where
  m : Int
  x : Int
  y : Int
  cut : Bool
deriving DecidableEq
def take (e u q a n : Int) : Tk := ⟨least e u q a n, add u (least e u q a n), add a (least e u q a n), decide (least e u q a n < tk n)⟩

theorem tk_lo (n : Int) : 0 ≤ tk n := by unfold tk; split <;> (try split) <;> omega
theorem tk_hi (n : Int) : tk n ≤ 1099511627776 := by unfold tk; split <;> (try split) <;> omega
theorem tk_in {n : Int} (h0 : 0 ≤ n) (h : n ≤ 1099511627776) : tk n = n := by unfold tk; rw [if_neg (by omega), if_neg (by omega)]
theorem may_iff (n : Int) : mayN n = true ↔ 0 ≤ n ∧ n ≤ 1099511627776 := by unfold mayN; simp
theorem may_yes {n : Int} (h0 : 0 ≤ n) (h : n ≤ 1099511627776) : mayN n = true := (may_iff n).2 ⟨h0, h⟩
theorem may_same (n : Int) : mayN n = (tk n == n) := by
  rw [Bool.eq_iff_iff, may_iff, beq_iff_eq]
  unfold tk
  constructor
  · intro h; rw [if_neg (by omega), if_neg (by omega)]
  · intro h; split at h <;> (try split at h) <;> omega
theorem left_eq (a b : Int) : left a b = if tk b ≤ tk a then tk a - tk b else 0 := by
  have := tk_lo a; have := tk_hi a; have := tk_lo b; have := tk_hi b
  unfold left
  split
  · exact tk_in (by omega) (by omega)
  · show tk _ = 0; unfold tk; rw [if_pos (by unfold tk at *; omega)]
theorem add_eq (a b : Int) : add a b = if tk a + tk b ≤ 1099511627776 then tk a + tk b else 1099511627776 := by
  have := tk_lo a; have := tk_hi a; have := tk_lo b; have := tk_hi b
  unfold add
  split
  · exact tk_in (by omega) (by omega)
  · show tk _ = _; generalize tk a + tk b = s at *; unfold tk; rw [if_neg (by omega), if_pos (by omega)]
theorem add_lo (a b : Int) : 0 ≤ add a b := tk_lo _
theorem add_hi (a b : Int) : add a b ≤ 1099511627776 := tk_hi _
/-- what is told, in numbers from 0 to 2^40 -/
theorem least_eq (e u q a n : Int) : least e u q a n = min (tk n) (min (if tk u ≤ tk e then tk e - tk u else 0) (if tk a ≤ tk q then tk q - tk a else 0)) := by
  unfold least
  rw [left_eq, left_eq]
  simp only [Int.min_def]
  split <;> split <;> split <;> (try split) <;> (try split) <;> (try split) <;> omega
theorem least_lo (e u q a n : Int) : 0 ≤ least e u q a n := by
  have := tk_lo n
  rw [least_eq]
  simp only [Int.min_def]
  split <;> split <;> split <;> (try split) <;> omega
theorem least_hi (e u q a n : Int) : least e u q a n ≤ tk n := by
  rw [least_eq]
  simp only [Int.min_def]
  split <;> split <;> split <;> (try split) <;> omega
theorem least_max (e u q a n : Int) : least e u q a n ≤ 1099511627776 := Int.le_trans (least_hi e u q a n) (tk_hi n)
theorem take_may (e u q a n : Int) : 0 ≤ (take e u q a n).m ∧ mayN (take e u q a n).m = true ∧ mayN (take e u q a n).x = true ∧ mayN (take e u q a n).y = true :=
  ⟨least_lo _ _ _ _ _, may_yes (least_lo _ _ _ _ _) (least_max _ _ _ _ _), may_yes (add_lo _ _) (add_hi _ _), may_yes (add_lo _ _) (add_hi _ _)⟩
/-- where all numbers may be -/
theorem take_in {e u q a n : Int} (e0 : 0 ≤ e) (e1 : e ≤ 1099511627776) (u0 : 0 ≤ u) (u1 : u ≤ 1099511627776) (q0 : 0 ≤ q) (q1 : q ≤ 1099511627776) (a0 : 0 ≤ a) (a1 : a ≤ 1099511627776) (n0 : 0 ≤ n) (n1 : n ≤ 1099511627776) :
    least e u q a n ≤ n ∧ (take e u q a n).cut = decide (least e u q a n < n) ∧ (u ≤ e → (take e u q a n).x = u + least e u q a n ∧ u + least e u q a n ≤ e) ∧ (a ≤ q → (take e u q a n).y = a + least e u q a n ∧ a + least e u q a n ≤ q) ∧ (e < u ∨ q < a → least e u q a n = 0) ∧
      (u ≤ e → a ≤ q → least e u q a n < n → u + least e u q a n = e ∨ a + least e u q a n = q) := by
  have hl := least_eq e u q a n
  have hlo := least_lo e u q a n
  have hhi := least_max e u q a n
  rw [tk_in e0 e1, tk_in u0 u1, tk_in q0 q1, tk_in a0 a1, tk_in n0 n1] at hl
  unfold take
  simp only [add_eq]
  rw [tk_in u0 u1, tk_in a0 a1, tk_in n0 n1, tk_in hlo hhi]
  generalize least e u q a n = m at *
  simp only [Int.min_def] at hl
  refine ⟨?_, rfl, ?_, ?_, ?_, ?_⟩ <;> (split at hl <;> split at hl <;> (try split at hl) <;> (try split at hl) <;> (try intro _) <;> (try intro _) <;> (try intro _) <;> (try rw [if_pos (by omega)]) <;> omega)

theorem left_lo (a b : Int) : 0 ≤ left a b := tk_lo _
theorem left_hi (a b : Int) : left a b ≤ 1099511627776 := tk_hi _
theorem least_left (e u q a n : Int) : least e u q a n = min (tk n) (min (left e u) (left q a)) := by rw [least_eq, left_eq, left_eq]
theorem left_after {e u m : Int} (h0 : 0 ≤ m) (h : m ≤ left e u) : left e (add u m) = left e u - m := by
  have m1 : m ≤ 1099511627776 := Int.le_trans h (left_hi _ _)
  have e0 := tk_lo e; have e1 := tk_hi e; have u0 := tk_lo u; have u1 := tk_hi u
  rw [left_eq] at h
  have hA := add_eq u m
  rw [tk_in h0 m1] at hA
  rw [left_eq, left_eq, tk_in (add_lo _ _) (add_hi _ _)]
  generalize add u m = X at *
  generalize tk e = E at *
  generalize tk u = U at *
  split at h <;> split at hA <;> split <;> (try split) <;> omega
theorem add_after {u m n : Int} (m0 : 0 ≤ m) (n0 : 0 ≤ n) (h : m + n ≤ 1099511627776) : add (add u m) n = add u (m + n) := by
  have u0 := tk_lo u; have u1 := tk_hi u
  have hA := add_eq u m
  have hB := add_eq (add u m) n
  have hC := add_eq u (m + n)
  rw [tk_in (add_lo _ _) (add_hi _ _), tk_in n0 (by omega)] at hB
  rw [tk_in m0 (by omega)] at hA
  rw [tk_in (by omega) h] at hC
  generalize add u m = X at *
  generalize tk u = U at *
  rw [hB, hC]
  split at hA <;> split <;> split <;> omega
/-- in two goes as in one -/
theorem take_twice (e u q al a b : Int) (a0 : 0 ≤ a) (a1 : a ≤ 549755813888) (b0 : 0 ≤ b) (b1 : b ≤ 549755813888) :
    (take e u q al (a + b)).m = (take e u q al a).m + (take e (take e u q al a).x q (take e u q al a).y b).m ∧
    (take e u q al (a + b)).x = (take e (take e u q al a).x q (take e u q al a).y b).x ∧ (take e u q al (a + b)).y = (take e (take e u q al a).x q (take e u q al a).y b).y := by
  unfold take
  simp only
  have h1 := least_left e u q al a
  have h3 := least_left e u q al (a + b)
  rw [tk_in a0 (by omega)] at h1
  rw [tk_in (by omega) (by omega)] at h3
  have m0 := least_lo e u q al a
  have mE : least e u q al a ≤ left e u := by rw [h1]; simp only [Int.min_def]; split <;> (try split) <;> omega
  have mQ : least e u q al a ≤ left q al := by rw [h1]; simp only [Int.min_def]; split <;> (try split) <;> omega
  have h2 := least_left e (add u (least e u q al a)) q (add al (least e u q al a)) b
  rw [tk_in b0 (by omega), left_after m0 mE, left_after m0 mQ] at h2
  have n0 := least_lo e (add u (least e u q al a)) q (add al (least e u q al a)) b
  have l0 := left_lo e u; have l1 := left_hi e u; have k0 := left_lo q al; have k1 := left_hi q al
  generalize hN : least e (add u (least e u q al a)) q (add al (least e u q al a)) b = n at *
  clear hN
  generalize least e u q al a = m at *
  generalize least e u q al (a + b) = p at *
  generalize left e u = L at *
  generalize left q al = K at *
  have hp : p = m + n := by
    simp only [Int.min_def] at h1 h2 h3
    split at h1 <;> (try split at h1) <;> split at h2 <;> (try split at h2) <;> split at h3 <;> (try split at h3) <;> omega
  have hle : m + n ≤ 1099511627776 := by
    rw [← hp, h3]; simp only [Int.min_def]; split <;> (try split) <;> omega
  subst hp
  exact ⟨rfl, (add_after m0 n0 hle).symm, (add_after m0 n0 hle).symm⟩
/-- where one limit is used up -/
theorem take_none {e q al n : Int} (e0 : 0 ≤ e) (e1 : e ≤ 1099511627776) (q0 : 0 ≤ q) (q1 : q ≤ 1099511627776) (a0 : 0 ≤ al) (a1 : al ≤ q) (n0 : 0 ≤ n) (n1 : n ≤ 1099511627776) :
    take e e q al n = ⟨0, e, al, decide (0 < n)⟩ ∧ take q al e e n = ⟨0, al, e, decide (0 < n)⟩ := by
  have h1 : least e e q al n = 0 := by
    have := least_eq e e q al n
    rw [tk_in e0 e1, tk_in q0 q1, tk_in a0 (by omega), tk_in n0 n1, if_pos (Int.le_refl _), if_pos a1] at this
    rw [this]; simp only [Int.min_def]; split <;> split <;> omega
  have h2 : least q al e e n = 0 := by
    have := least_eq q al e e n
    rw [tk_in e0 e1, tk_in q0 q1, tk_in a0 (by omega), tk_in n0 n1, if_pos (Int.le_refl _), if_pos a1] at this
    rw [this]; simp only [Int.min_def]; split <;> split <;> omega
  have k0 : tk 0 = 0 := rfl
  unfold take
  rw [h1, h2, tk_in n0 n1]
  unfold add
  rw [k0, tk_in e0 e1, tk_in a0 (by omega), Int.add_zero, Int.add_zero, tk_in e0 e1, tk_in a0 (by omega)]
  exact ⟨rfl, rfl⟩

#print axioms take_twice
#print axioms take_in
#print axioms take_none
end Go.Proofs.Ytaahghjllfkmaaa.Qt
