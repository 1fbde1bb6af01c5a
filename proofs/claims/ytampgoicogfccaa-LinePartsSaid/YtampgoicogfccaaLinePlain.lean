/- Plain facts on lines out of bytes (layer 6): what has come of a line, bytes, lines that ended. No program in this text. -/
namespace Go.Proofs.Ytampgoicogfccaa.Ln

/-- what has come of a line -/
structure Fr where
  b : List UInt8
  cr : Bool
  skip : Bool
deriving DecidableEq
/-- nothing -/
def none0 : Fr := ⟨[], false, false⟩
def put (f : Fr) (c : UInt8) (most : Int) : Fr :=
  if f.skip then f else if (f.b.length : Int) < most then ⟨f.b ++ [c], f.cr, false⟩ else ⟨[], f.cr, true⟩
/-- the line that ended: its text, whether it was too long -/
def fin (f : Fr) : List UInt8 × Bool := if f.skip then ([], true) else (f.b, false)
/-- a 13 that no 10 followed -/
def late (f : Fr) (most : Int) : Fr := if f.cr then ⟨(put f 13 most).b, false, (put f 13 most).skip⟩ else f
/-- one byte -/
def step (most : Int) (lf : Bool) (f : Fr) (c : UInt8) : Fr × List (List UInt8 × Bool) :=
  if c = 10 ∧ (f.cr = true ∨ lf = true) then (none0, [fin f])
  else if c = 13 then (⟨(late f most).b, true, (late f most).skip⟩, [])
  else (put (late f most) c most, [])
def run (most : Int) (lf : Bool) : Fr → List UInt8 → Fr × List (List UInt8 × Bool)
  | f, [] => (f, [])
  | f, c :: r => ((run most lf (step most lf f c).1 r).1, (step most lf f c).2 ++ (run most lf (step most lf f c).1 r).2)

theorem run_append (most : Int) (lf : Bool) : ∀ (f : Fr) (a b : List UInt8), run most lf f (a ++ b) = ((run most lf (run most lf f a).1 b).1, (run most lf f a).2 ++ (run most lf (run most lf f a).1 b).2)
  | f, [], b => by simp [run]
  | f, c :: r, b => by
    simp only [List.cons_append, run]
    rw [run_append most lf (step most lf f c).1 r b]
    simp [List.append_assoc]
theorem run_one (most : Int) (lf : Bool) (f : Fr) (c : UInt8) : run most lf f [c] = step most lf f c := by simp [run]
/-- one byte more -/
theorem run_next {most : Int} {lf : Bool} {f : Fr} {l : List UInt8} {k : Nat} (hk : k < l.length) :
    run most lf f (l.take (k + 1)) = ((step most lf (run most lf f (l.take k)).1 l[k]).1, (run most lf f (l.take k)).2 ++ (step most lf (run most lf f (l.take k)).1 l[k]).2) := by
  rw [List.take_succ_eq_append_getElem hk, run_append, run_one]

theorem put_cr (f : Fr) (c : UInt8) (most : Int) : (put f c most).cr = f.cr := by unfold put; split <;> (try split) <;> rfl
theorem late_cr (f : Fr) (most : Int) : (late f most).cr = false := by
  unfold late
  by_cases h : f.cr = true
  · rw [if_pos h]
  · rw [if_neg h]; simpa using h
/-- a 13 is the last byte just where Cr is set -/
theorem step_cr (most : Int) (lf : Bool) (f : Fr) (c : UInt8) : (step most lf f c).1.cr = decide (c = 13) := by
  unfold step
  by_cases h10 : c = 10 ∧ (f.cr = true ∨ lf = true)
  · rw [if_pos h10]
    obtain ⟨rfl, _⟩ := h10
    show false = _
    decide
  · rw [if_neg h10]
    by_cases h13 : c = 13
    · rw [if_pos h13]; simp [h13]
    · rw [if_neg h13]; simp only [put_cr, late_cr]; simp [h13]
theorem run_cr {most : Int} {lf : Bool} {l : List UInt8} {k : Nat} (hk : k < l.length) (f : Fr) : (run most lf f (l.take (k + 1))).1.cr = decide (l[k] = 13) := by
  rw [run_next hk]; exact step_cr most lf _ _
/-- how many lines one byte ends -/
theorem step_count (most : Int) (lf : Bool) (f : Fr) (c : UInt8) : (step most lf f c).2.length = if c = 10 ∧ (f.cr = true ∨ lf = true) then 1 else 0 := by
  unfold step
  split
  · rfl
  · split <;> rfl
/-- whatever came, a 13 and a 10 end a line, and nothing is left -/
theorem run_crlf (most : Int) (lf : Bool) (f : Fr) : ∃ x, run most lf f [13, 10] = (none0, [x]) := by
  have h13 : step most lf f 13 = (⟨(late f most).b, true, (late f most).skip⟩, []) := by
    unfold step
    rw [if_neg (by intro h; exact absurd h.1 (by decide)), if_pos rfl]
  refine ⟨fin ⟨(late f most).b, true, (late f most).skip⟩, ?_⟩
  simp only [run, h13]
  have h10 : step most lf ⟨(late f most).b, true, (late f most).skip⟩ 10 = (none0, [fin ⟨(late f most).b, true, (late f most).skip⟩]) := by
    unfold step
    rw [if_pos ⟨rfl, Or.inl rfl⟩]
  rw [h10]
  rfl
theorem run_behind (most : Int) (lf : Bool) (f : Fr) (b : List UInt8) : ∃ ls x, run most lf f (b ++ [13, 10]) = (none0, ls ++ [x]) := by
  obtain ⟨x, hx⟩ := run_crlf most lf (run most lf f b).1
  exact ⟨(run most lf f b).2, x, by rw [run_append, hx]⟩

/-- text without a 13 and a 10, as much as may be, comes -/
theorem run_text (most : Int) (lf : Bool) : ∀ (s p : List UInt8), (10 : UInt8) ∉ s → (13 : UInt8) ∉ s → ((p.length + s.length : Nat) : Int) ≤ most → run most lf ⟨p, false, false⟩ s = (⟨p ++ s, false, false⟩, [])
  | [], p, _, _, _ => by simp [run]
  | c :: r, p, h10, h13, hm => by
    simp only [List.mem_cons, not_or] at h10 h13
    have c10 : c ≠ 10 := fun e => h10.1 e.symm
    have c13 : c ≠ 13 := fun e => h13.1 e.symm
    have e : step most lf ⟨p, false, false⟩ c = (⟨p ++ [c], false, false⟩, []) := by
      unfold step
      rw [if_neg (fun h => c10 h.1), if_neg c13]
      simp only [late, put, Bool.false_eq_true, if_false]
      rw [if_pos (by simp only [List.length_cons] at hm; omega)]
    simp only [run, e]
    rw [run_text most lf r (p ++ [c]) h10.2 h13.2 (by simp only [List.length_append, List.length_cons, List.length_nil] at hm ⊢; omega)]
    simp
/-- what is printed is one line -/
theorem run_print {most : Int} {s : List UInt8} (lf : Bool) (h10 : (10 : UInt8) ∉ s) (h13 : (13 : UInt8) ∉ s) (hm : (s.length : Int) ≤ most) : run most lf none0 (s ++ [13, 10]) = (none0, [(s, false)]) := by
  rw [run_append, show none0 = (⟨[], false, false⟩ : Fr) from rfl, run_text most lf s [] h10 h13 (by simpa using hm)]
  simp only [List.nil_append, run]
  have h1 : step most lf ⟨s, false, false⟩ 13 = (⟨s, true, false⟩, []) := by
    unfold step
    rw [if_neg (by intro h; exact absurd h.1 (by decide)), if_pos rfl]
    rfl
  rw [h1]
  have h2 : step most lf ⟨s, true, false⟩ 10 = (none0, [(s, false)]) := by
    unfold step
    rw [if_pos ⟨rfl, Or.inl rfl⟩]
    rfl
  simp only [h2]
  rfl
/-- lines printed, one behind the other -/
def printed : List (List UInt8) → List UInt8
  | [] => []
  | s :: r => s ++ [13, 10] ++ printed r
theorem printed_append : ∀ (a b : List (List UInt8)), printed (a ++ b) = printed a ++ printed b
  | [], b => rfl
  | s :: r, b => by simp [printed, printed_append r b]
theorem run_printed {most : Int} (lf : Bool) : ∀ (ss : List (List UInt8)), (∀ s ∈ ss, (10 : UInt8) ∉ s ∧ (13 : UInt8) ∉ s ∧ (s.length : Int) ≤ most) → run most lf none0 (printed ss) = (none0, ss.map fun s => (s, false))
  | [], _ => rfl
  | s :: r, h => by
    obtain ⟨h10, h13, hm⟩ := h s (by simp)
    rw [printed, run_append, run_print lf h10 h13 hm]
    simp only
    rw [run_printed lf r (fun x hx => h x (by simp [hx]))]
    simp
/-- so many of one byte, one too many -/
theorem run_over {most : Int} {c : UInt8} (lf : Bool) (h10 : c ≠ 10) (h13 : c ≠ 13) {n : Nat} (hn : (n : Int) = most) : run most lf none0 (List.replicate (n + 1) c ++ [13, 10]) = (none0, [([], true)]) := by
  have e1 : List.replicate (n + 1) c = List.replicate n c ++ [c] := by rw [List.replicate_succ']
  rw [e1, List.append_assoc, run_append, show none0 = (⟨[], false, false⟩ : Fr) from rfl,
    run_text most lf (List.replicate n c) [] (fun h => h10 (List.eq_of_mem_replicate h).symm) (fun h => h13 (List.eq_of_mem_replicate h).symm) (by simp; omega)]
  have e2 : step most lf ⟨List.replicate n c, false, false⟩ c = (⟨[], false, true⟩, []) := by
    unfold step
    rw [if_neg (fun h => h10 h.1), if_neg h13]
    simp only [late, put, Bool.false_eq_true, if_false]
    rw [if_neg (by simp; omega)]
  have e3 : step most lf ⟨[], false, true⟩ 13 = (⟨[], true, true⟩, []) := by
    unfold step
    rw [if_neg (by intro h; exact absurd h.1 (by decide)), if_pos rfl]
    rfl
  have e4 : step most lf ⟨[], true, true⟩ 10 = (none0, [([], true)]) := by
    unfold step
    rw [if_pos ⟨rfl, Or.inl rfl⟩]
    rfl
  simp only [List.nil_append, List.cons_append, run, e2, e3, e4]
  rfl
theorem run_long {most : Int} {c : UInt8} (lf : Bool) (h10 : c ≠ 10) (h13 : c ≠ 13) {n : Nat} (hn : (n : Int) ≤ most) : run most lf none0 (List.replicate n c ++ [13, 10]) = (none0, [(List.replicate n c, false)]) :=
  run_print lf (fun h => h10 (List.eq_of_mem_replicate h).symm) (fun h => h13 (List.eq_of_mem_replicate h).symm) (by simpa using hn)
/-- an empty line is not too long, whatever may be -/
theorem run_empty (most : Int) (lf : Bool) : run most lf none0 [13, 10] = (none0, [([], false)]) := by
  have e3 : step most lf none0 13 = (⟨[], true, false⟩, []) := by
    unfold step
    rw [if_neg (by intro h; exact absurd h.1 (by decide)), if_pos rfl]
    rfl
  have e4 : step most lf ⟨[], true, false⟩ 10 = (none0, [([], false)]) := by
    unfold step
    rw [if_pos ⟨rfl, Or.inl rfl⟩]
    rfl
  simp only [run, e3, e4]
  rfl
/-- may a text be a line? -/
def prn (s : List UInt8) (most : Int) : Bool := decide ((s.length : Int) ≤ most ∧ (10 : UInt8) ∉ s ∧ (13 : UInt8) ∉ s)
/-- what has come grows by two bytes a byte at the most -/
theorem put_length (f : Fr) (c : UInt8) (most : Int) : (put f c most).b.length ≤ f.b.length + 1 := by
  unfold put
  split
  · exact Nat.le_succ _
  · split
    · simp
    · simp
theorem late_length (f : Fr) (most : Int) : (late f most).b.length ≤ f.b.length + 1 := by
  unfold late
  split
  · exact put_length f 13 most
  · omega
theorem step_length (most : Int) (lf : Bool) (f : Fr) (c : UInt8) : (step most lf f c).1.b.length ≤ f.b.length + 2 := by
  have h1 := late_length f most
  unfold step
  split
  · simp [none0]
  · split
    · simp only; omega
    · have := put_length (late f most) c most
      simp only
      omega
theorem run_length (most : Int) (lf : Bool) : ∀ (f : Fr) (l : List UInt8), (run most lf f l).1.b.length ≤ f.b.length + 2 * l.length ∧ (run most lf f l).2.length ≤ l.length
  | f, [] => by simp [run]
  | f, c :: r => by
    have h1 := step_length most lf f c
    have h2 := run_length most lf (step most lf f c).1 r
    have h3 := step_count most lf f c
    simp only [run, List.length_append, List.length_cons]
    split at h3 <;> omega

#print axioms run_printed
end Go.Proofs.Ytampgoicogfccaa.Ln
