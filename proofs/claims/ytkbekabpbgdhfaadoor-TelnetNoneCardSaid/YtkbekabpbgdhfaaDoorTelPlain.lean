/- Plain facts on what is no text (layer 5): states, bytes, what is left, what is counted, what is escaped. No program in this text. -/
namespace Go.Proofs.YtkbekabpbgdhfaaDoor.Tel

/-- a state, taken -/
def norm (s : Int) : Nat := if s = 1 then 1 else if s = 2 then 2 else 0
/-- one byte: the state then, what is left of it, how many are counted -/
def step (s : Nat) (c : UInt8) : Nat × List UInt8 × Nat :=
  if s = 2 then (0, [], 0)
  else if s = 0 then (if c = 255 then (1, [], 0) else (0, [c], 0))
  else (if 251 ≤ c.toNat ∧ c.toNat ≤ 254 then 2 else 0, if c = 255 then [c] else [], if c = 242 then 1 else 0)
def run : Nat → List UInt8 → Nat × List UInt8 × Nat
  | s, [] => (s, [], 0)
  | s, c :: r => ((run (step s c).1 r).1, (step s c).2.1 ++ (run (step s c).1 r).2.1, (step s c).2.2 + (run (step s c).1 r).2.2)
def esc : List UInt8 → List UInt8
  | [] => []
  | c :: r => (if c = 255 then [c, c] else [c]) ++ esc r

theorem norm_le (s : Int) : norm s ≤ 2 := by unfold norm; split <;> (try split) <;> omega
theorem norm_out {s : Int} (h : s < 0 ∨ 2 < s) : norm s = 0 := by unfold norm; rw [if_neg (by omega), if_neg (by omega)]
theorem norm_in {s : Int} (h0 : 0 ≤ s) (h2 : s ≤ 2) : (norm s : Int) = s := by
  unfold norm
  split
  · omega
  · split <;> omega
theorem norm_nat {s : Nat} (h : s ≤ 2) : norm (s : Int) = s := by have := norm_in (s := (s : Int)) (by omega) (by omega); omega
theorem step_le {s : Nat} (c : UInt8) : (step s c).1 ≤ 2 := by
  unfold step; split
  · simp
  · split
    · split <;> simp
    · simp only; split <;> omega
theorem run_le : ∀ {s : Nat} (l : List UInt8), s ≤ 2 → (run s l).1 ≤ 2
  | _, [], h => h
  | _, c :: r, _ => run_le r (step_le c)
theorem run_append : ∀ (s : Nat) (a b : List UInt8), run s (a ++ b) = ((run (run s a).1 b).1, (run s a).2.1 ++ (run (run s a).1 b).2.1, (run s a).2.2 + (run (run s a).1 b).2.2)
  | s, [], b => by simp [run]
  | s, c :: r, b => by
    simp only [List.cons_append, run]
    rw [run_append (step s c).1 r b]
    simp [List.append_assoc, Nat.add_assoc]
theorem run_one (s : Nat) (c : UInt8) : run s [c] = step s c := by simp [run]
/-- one byte more -/
theorem run_next {s : Nat} {l : List UInt8} {k : Nat} (hk : k < l.length) :
    run s (l.take (k + 1)) = ((step (run s (l.take k)).1 l[k]).1, (run s (l.take k)).2.1 ++ (step (run s (l.take k)).1 l[k]).2.1, (run s (l.take k)).2.2 + (step (run s (l.take k)).1 l[k]).2.2) := by
  rw [List.take_succ_eq_append_getElem hk, run_append, run_one]
theorem step_short {s : Nat} (c : UInt8) : (step s c).2.1.length + (step s c).2.2 ≤ 1 := by
  unfold step
  split
  · simp
  · split
    · split <;> simp
    · simp only
      by_cases h : c = 255
      · subst h; simp
      · rw [if_neg h]; split <;> simp
theorem run_short : ∀ (s : Nat) (l : List UInt8), (run s l).2.1.length + (run s l).2.2 ≤ l.length
  | s, [] => by simp [run]
  | s, c :: r => by
    have h1 := run_short (step s c).1 r
    have h2 := step_short (s := s) c
    simp only [run, List.length_append, List.length_cons]
    omega
theorem step_sub {s : Nat} (c : UInt8) : (step s c).2.1.Sublist [c] := by
  unfold step
  split
  · simp
  · split
    · split <;> simp
    · simp only; split <;> simp
theorem run_sub : ∀ (s : Nat) (l : List UInt8), (run s l).2.1.Sublist l
  | s, [] => by simp [run]
  | s, c :: r => by
    have h := List.Sublist.append (step_sub (s := s) c) (run_sub (step s c).1 r)
    simpa [run] using h
/-- text without a 255 is as it is -/
theorem run_plain : ∀ (l : List UInt8), (255 : UInt8) ∉ l → run 0 l = (0, l, 0)
  | [], _ => rfl
  | c :: r, h => by
    simp only [List.mem_cons, not_or] at h
    have hc : c ≠ 255 := fun e => h.1 e.symm
    have e : step 0 c = (0, [c], 0) := by simp [step, hc]
    simp only [run, e, run_plain r h.2]
    simp
/-- a wish, and a mark ahead of it: nothing is left, one is counted -/
theorem run_wish {v : UInt8} (h0 : 251 ≤ v.toNat) (h1 : v.toNat ≤ 254) (x : UInt8) : run 0 [255, 242, 255, v, x] = (0, [], 1) := by
  have e1 : step 0 255 = (1, [], 0) := by decide
  have e2 : step 1 242 = (0, [], 1) := by decide
  have hv : v ≠ 255 := by intro e; rw [e] at h1; revert h1; decide
  have hv2 : v ≠ 242 := by intro e; rw [e] at h0; revert h0; decide
  have e3 : step 1 v = (2, [], 0) := by simp [step, hv, hv2, h0, h1]
  have e4 : step 2 x = (0, [], 0) := by simp [step]
  simp only [run, e1, e2, e3, e4]
  rfl
/-- so many of them -/
def wishes (v x : UInt8) : Nat → List UInt8
  | 0 => []
  | n + 1 => wishes v x n ++ [255, 242, 255, v, x]
theorem wishes_length (v x : UInt8) : ∀ n, (wishes v x n).length = 5 * n
  | 0 => rfl
  | n + 1 => by simp [wishes, wishes_length v x n]; omega
theorem run_wishes {v : UInt8} (h0 : 251 ≤ v.toNat) (h1 : v.toNat ≤ 254) (x : UInt8) : ∀ n, run 0 (wishes v x n) = (0, [], n)
  | 0 => rfl
  | n + 1 => by
    rw [wishes, run_append, run_wishes h0 h1 x n]
    simp only
    rw [run_wish h0 h1 x]
    simp
theorem run_counts {v x : UInt8} {l : List UInt8} (h0 : 251 ≤ v.toNat) (h1 : v.toNat ≤ 254) (hl : (255 : UInt8) ∉ l) (n : Nat) : run 0 (l ++ wishes v x n ++ l) = (0, l ++ l, n) := by
  rw [List.append_assoc, run_append, run_plain l hl]
  simp only
  rw [run_append, run_wishes h0 h1 x n]
  simp only
  rw [run_plain l hl]
  simp
theorem run_called : run 0 [255] = (1, [], 0) := by decide
theorem run_twice : run 1 [255] = (0, [255], 0) := by decide

/-! what is escaped -/
theorem esc_append : ∀ (a b : List UInt8), esc (a ++ b) = esc a ++ esc b
  | [], b => rfl
  | c :: r, b => by simp [esc, esc_append r b]
theorem esc_next {l : List UInt8} {k : Nat} (hk : k < l.length) : esc (l.take (k + 1)) = esc (l.take k) ++ (if l[k] = 255 then [l[k], l[k]] else [l[k]]) := by
  rw [List.take_succ_eq_append_getElem hk, esc_append]; simp [esc]
theorem esc_length : ∀ (l : List UInt8), (esc l).length ≤ 2 * l.length
  | [] => by simp [esc]
  | c :: r => by have := esc_length r; simp only [esc, List.length_append, List.length_cons]; split <;> simp <;> omega

/-! the greedy look: what is left stands in what there was, in order -/
theorem greedy_skip {x : UInt8} {xs b : List UInt8} {y : UInt8} (h : (x :: xs).Sublist (y :: b)) (hne : y ≠ x) : (x :: xs).Sublist b := by
  cases h with
  | cons _ h => exact h
  | cons_cons _ h => exact absurd rfl hne
theorem greedy_take {x : UInt8} {xs b : List UInt8} (h : (x :: xs).Sublist (x :: b)) : xs.Sublist b := by
  simpa using h
theorem greedy_some {x : UInt8} {xs : List UInt8} (h : (x :: xs).Sublist []) : False := by cases h

#print axioms run_counts
end Go.Proofs.YtkbekabpbgdhfaaDoor.Tel
