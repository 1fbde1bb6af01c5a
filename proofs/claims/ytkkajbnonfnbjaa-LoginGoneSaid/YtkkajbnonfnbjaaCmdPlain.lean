/- Plain facts on commands (layer 8): clean bytes, which may be, printed, read. No program in this text. -/
import Derived.Test.YtkkajbnonfnbjaaVerbPlain
namespace Go.Proofs.Ytkkajbnonfnbjaa.Cm
open Go.Proofs.Ytkkajbnonfnbjaa.Vb

def cleanB (c : UInt8) : Bool := decide (32 ≤ c.toNat ∧ c.toNat ≤ 126)
def clean (l : List UInt8) : Bool := l.all cleanB
def may (v a : List UInt8) : Bool := (found v).2 && ((found v).1.name == v) && clean a && !(decide ((found v).1.arg = 0) && (a != [])) && !(decide ((found v).1.arg = 2) && (a == []))
def line (v a : List UInt8) : List UInt8 := if a = [] then v else v ++ 32 :: a
def print (v a : List UInt8) : List UInt8 × Bool := if may v a then (line v a, true) else ([], false)
/-- what stands ahead of the first blank; what stands behind it -/
def head (s : List UInt8) : List UInt8 := s.takeWhile (fun c => c != 32)
def rest (s : List UInt8) : List UInt8 := s.drop ((head s).length + 1)
def letters (n : List UInt8) : Bool := n.all fun c => decide (65 ≤ c.toNat ∧ c.toNat ≤ 90)
def formed (s : List UInt8) : Bool := clean s && (decide (3 ≤ (head s).length) && (decide ((head s).length ≤ 4) && letters (upper (head s))))
def read (s : List UInt8) : (List UInt8 × List UInt8) × Int :=
  if formed s then (if (found (upper (head s))).2 then (if may (upper (head s)) (rest s) then ((upper (head s), rest s), 0) else (([], []), 1)) else (([], []), 3)) else (([], []), 2)

theorem letters_of {n : List UInt8} (h : letters n = true) : ∀ c ∈ n, 65 ≤ c.toNat ∧ c.toNat ≤ 90 := by
  intro c hc
  have := List.all_eq_true.1 h c hc
  exact of_decide_eq_true this
theorem letters_each : ∀ v ∈ verbs, letters v.name = true := by decide +kernel
theorem no_blank {n : List UInt8} (h : letters n = true) : ∀ c ∈ n, (c != 32) = true := by
  intro c hc
  have := letters_of h c hc
  simp only [bne_iff_ne, ne_eq]
  rintro rfl
  exact absurd this.1 (by decide)
theorem letters_clean {n : List UInt8} (h : letters n = true) : clean n = true := by
  refine List.all_eq_true.2 fun c hc => ?_
  have := letters_of h c hc
  exact decide_eq_true (by omega)
theorem clean_append (a b : List UInt8) : clean (a ++ b) = (clean a && clean b) := List.all_append
theorem clean_cons (c : UInt8) (b : List UInt8) : clean (c :: b) = (cleanB c && clean b) := List.all_cons
theorem head_blank {n a : List UInt8} (h : ∀ c ∈ n, (c != 32) = true) : head (n ++ 32 :: a) = n := by
  unfold head
  rw [List.takeWhile_append_of_pos h]
  simp
theorem head_all {n : List UInt8} (h : ∀ c ∈ n, (c != 32) = true) : head n = n := by
  have := List.takeWhile_append_of_pos (l₂ := []) h
  simpa [head] using this
theorem rest_blank {n a : List UInt8} (h : ∀ c ∈ n, (c != 32) = true) : rest (n ++ 32 :: a) = a := by
  unfold rest
  rw [head_blank h]
  simp [List.drop_append]
theorem rest_all {n : List UInt8} (h : ∀ c ∈ n, (c != 32) = true) : rest n = [] := by
  unfold rest
  rw [head_all h]
  exact List.drop_eq_nil_of_le (by omega)
theorem head_le (s : List UInt8) : (head s).length ≤ s.length := (List.takeWhile_prefix _).length_le
theorem take_head (s : List UInt8) : s.take (head s).length = head s := (List.prefix_iff_eq_take.1 (List.takeWhile_prefix _)).symm
/-- a text is its head, or that, a blank and its rest -/
theorem apart (s : List UInt8) : s = head s ∧ rest s = [] ∨ s = head s ++ 32 :: rest s := by
  unfold rest
  have e := List.takeWhile_append_dropWhile (p := fun c : UInt8 => c != 32) (l := s)
  cases hd : s.dropWhile (fun c => c != 32) with
  | nil =>
    rw [hd, List.append_nil] at e
    left
    have : head s = s := e
    rw [this]
    exact ⟨rfl, List.drop_eq_nil_of_le (by omega)⟩
  | cons c r =>
    right
    have hc : c = 32 := by
      have := List.head?_dropWhile_not (fun c : UInt8 => c != 32) s
      rw [hd] at this
      simpa using this
    subst hc
    have e' : s = head s ++ 32 :: r := by rw [hd] at e; exact e.symm
    have hr : s.drop ((head s).length + 1) = r := by
      have : (head s ++ 32 :: r).drop ((head s).length + 1) = r := by simp [List.drop_append]
      rw [← e'] at this
      exact this
    rw [hr]
    exact e'
theorem may_parts {v a : List UInt8} (h : may v a = true) : ∃ x ∈ verbs, x.name = v ∧ clean a = true ∧ (x.arg = 0 → a = []) ∧ (x.arg = 2 → a ≠ []) := by
  unfold may at h
  simp only [Bool.and_eq_true, Bool.not_eq_true', Bool.and_eq_false_iff, decide_eq_false_iff_not, beq_iff_eq, bne_eq_false_iff_eq, beq_eq_false_iff_ne] at h
  obtain ⟨⟨⟨⟨h1, h2⟩, h3⟩, h4⟩, h5⟩ := h
  refine ⟨(found v).1, ?_, h2, h3, fun e => h4.resolve_left (fun n => n e), fun e => h5.resolve_left (fun n => n e)⟩
  unfold found has hasIn at h1 ⊢
  cases hf : verbs.find? (fun x => x.name == upper v) with
  | none => rw [hf] at h1; cases h1
  | some x => exact List.mem_of_find?_eq_some hf
theorem found_each {x : Vb} (hx : x ∈ verbs) : found x.name = (x, true) := by
  unfold found
  rw [up_each x hx]
  exact has_each x hx
theorem may_each {x : Vb} (hx : x ∈ verbs) (a : List UInt8) : may x.name a = (clean a && !(decide (x.arg = 0) && (a != [])) && !(decide (x.arg = 2) && (a == []))) := by
  unfold may
  rw [found_each hx]
  simp
theorem found_in {v : List UInt8} (h : (found v).2 = true) : ∃ x ∈ verbs, found v = (x, true) ∧ x.name = upper v := by
  unfold found has hasIn at h ⊢
  cases hf : verbs.find? (fun x => x.name == upper v) with
  | none => rw [hf] at h; cases h
  | some x => exact ⟨x, List.mem_of_find?_eq_some hf, rfl, by simpa using List.find?_some hf⟩

/-! what is printed is read -/
theorem read_line {x : Vb} (hx : x ∈ verbs) {n a : List UInt8} (hn : upper n = x.name) (hl : ∀ c ∈ n, (c != 32) = true) (hc : clean n = true) (s : List UInt8) (hs : s = n ∧ a = [] ∨ s = n ++ 32 :: a) :
    read s = if clean a then (if may x.name a then ((x.name, a), 0) else (([], []), 1)) else (([], []), 2) := by
  have hhead : head s = n := by
    rcases hs with ⟨rfl, _⟩ | rfl
    · exact head_all hl
    · exact head_blank hl
  have hrest : rest s = a := by
    rcases hs with ⟨rfl, e⟩ | rfl
    · rw [e]; exact rest_all hl
    · exact rest_blank hl
  have hclean : clean s = clean a := by
    rcases hs with ⟨rfl, rfl⟩ | rfl
    · rw [hc]; rfl
    · rw [clean_append, clean_cons, hc]
      simp [show cleanB 32 = true from by decide]
  have hlen : n.length = x.name.length := by rw [← hn, upper_length]
  have hform : formed s = clean a := by
    unfold formed
    rw [hclean, hhead, hn, letters_each x hx, hlen]
    rcases len_each x hx with h | h <;> simp [h]
  unfold read
  rw [hform, hhead, hrest, hn, found_each hx]
  simp
theorem printed_read {v a : List UInt8} (h : may v a = true) : read (line v a) = ((v, a), 0) ∧ clean (line v a) = true := by
  obtain ⟨x, hx, rfl, hc, _, _⟩ := may_parts h
  have hl := letters_each x hx
  have hs : line x.name a = x.name ∧ a = [] ∨ line x.name a = x.name ++ 32 :: a := by
    unfold line
    by_cases ha : a = []
    · left; rw [if_pos ha]; exact ⟨rfl, ha⟩
    · right; rw [if_neg ha]
  constructor
  · rw [read_line hx (up_each x hx) (no_blank hl) (letters_clean hl) _ hs, if_pos hc, if_pos h]
  · rcases hs with ⟨e, _⟩ | e <;> rw [e]
    · exact letters_clean hl
    · rw [clean_append, clean_cons, letters_clean hl, hc]; decide

/-! what is read -/
theorem read_err {s : List UInt8} (h : (read s).2 ≠ 0) : (read s).1 = ([], []) := by
  unfold read at h ⊢
  split
  · split
    · split
      · rename_i h1 h2 h3
        rw [if_pos h1, if_pos h2, if_pos h3] at h
        exact absurd rfl h
      · rfl
    · rfl
  · rfl
theorem read_ok {s : List UInt8} (h : (read s).2 = 0) : (read s).1 = (upper (head s), rest s) ∧ may (upper (head s)) (rest s) = true := by
  unfold read at h ⊢
  split
  · split
    · split
      · rename_i h1 h2 h3
        exact ⟨rfl, h3⟩
      · rename_i h1 h2 h3
        rw [if_pos h1, if_pos h2, if_neg h3] at h
        cases h
    · rename_i h1 h2
      rw [if_pos h1, if_neg h2] at h
      cases h
  · rename_i h1
    rw [if_neg h1] at h
    cases h
theorem read_errs (s : List UInt8) : (read s).2 = 0 ∨ (read s).2 = 1 ∨ (read s).2 = 2 ∨ (read s).2 = 3 := by
  unfold read
  split
  · split
    · split <;> simp
    · simp
  · simp
/-- two that may be are printed alike only if they are the same -/
theorem line_eq {v a v' a' : List UInt8} (h : may v a = true) (h' : may v' a' = true) (e : line v a = line v' a') : v = v' ∧ a = a' := by
  have h1 := (printed_read h).1
  have h2 := (printed_read h').1
  rw [e, h2] at h1
  injection h1 with h1 _
  injection h1 with h1 h3
  exact ⟨h1.symm, h3.symm⟩

theorem head_ne {s : List UInt8} {k : Nat} (h : k < (head s).length) (h' : k < s.length) : s[k] ≠ 32 := by
  have e : (head s)[k] = s[k] := (List.takeWhile_prefix (fun c : UInt8 => c != 32)).getElem h
  have hm : (head s)[k] ∈ head s := List.getElem_mem h
  have : ((head s)[k] != 32) = true := by
    have := List.all_takeWhile (p := fun c : UInt8 => c != 32) (l := s)
    exact List.all_eq_true.1 this _ hm
  rw [e] at this
  simpa using this
theorem head_stop {s : List UInt8} (h : (head s).length < s.length) : s[(head s).length] = 32 := by
  rcases apart s with ⟨e, _⟩ | e
  · rw [← e] at h; omega
  · have h1 : s[(head s).length]? = some 32 := by
      have : (head s ++ 32 :: rest s)[(head s).length]? = some 32 := by simp
      rw [← e] at this
      exact this
    rw [List.getElem?_eq_getElem h] at h1
    exact Option.some.inj h1
theorem letters_next {u : List UInt8} {k : Nat} (hk : k < u.length) : letters (u.take (k + 1)) = (letters (u.take k) && decide (65 ≤ u[k].toNat ∧ u[k].toNat ≤ 90)) := by
  unfold letters
  rw [List.take_succ_eq_append_getElem hk, List.all_append]
  simp only [List.all_cons, List.all_nil, Bool.and_true]
theorem letters_no {u : List UInt8} {k : Nat} (hk : k < u.length) (h : ¬ (65 ≤ u[k].toNat ∧ u[k].toNat ≤ 90)) : letters u = false := by
  cases hc : letters u with
  | false => rfl
  | true => exact absurd (letters_of hc u[k] (List.getElem_mem hk)) h
theorem read_eq (s : List UInt8) : read s = if (clean s && (decide (3 ≤ (head s).length) && (decide ((head s).length ≤ 4) && letters (upper (head s))))) then (if (found (upper (head s))).2 then (if may (upper (head s)) (rest s) then ((upper (head s), rest s), 0) else (([], []), 1)) else (([], []), 3)) else (([], []), 2) := rfl

theorem line_le (v a : List UInt8) : (line v a).length ≤ v.length + a.length + 1 := by
  unfold line
  by_cases h : a = []
  · rw [if_pos h]; omega
  · rw [if_neg h, List.length_append, List.length_cons]; omega
/-- what is read stands in its line: the same behind the verb, or a blank more -/
theorem back_ok {s : List UInt8} (h : (read s).2 = 0) : may (read s).1.1 (read s).1.2 = true ∧ ∃ hd y, upper hd = (read s).1.1 ∧ ((s = hd ++ y ∧ line (read s).1.1 (read s).1.2 = (read s).1.1 ++ y) ∨ (s = hd ++ [32] ∧ line (read s).1.1 (read s).1.2 = (read s).1.1)) := by
  obtain ⟨e, hm⟩ := read_ok h
  rw [e]
  simp only
  refine ⟨hm, ?_⟩
  rcases apart s with ⟨h1, h2⟩ | h1
  · refine ⟨head s, [], rfl, Or.inl ⟨by rw [List.append_nil]; exact h1, ?_⟩⟩
    unfold line
    rw [if_pos h2, List.append_nil]
  · by_cases hr : rest s = []
    · refine ⟨head s, [], rfl, Or.inr ⟨?_, ?_⟩⟩
      · rw [hr] at h1; exact h1
      · unfold line; rw [if_pos hr]
    · refine ⟨head s, 32 :: rest s, rfl, Or.inl ⟨h1, ?_⟩⟩
      unfold line
      rw [if_neg hr]

/-! a verb told in whatever letters -/
def letterB (c : UInt8) : Bool := decide (65 ≤ (upB c).toNat ∧ (upB c).toNat ≤ 90)
def fine (n : List UInt8) : Bool := decide (n.length = 3 ∨ n.length = 4) && letters (upper n)
theorem letter_eq (c : UInt8) : letterB c = (decide (97 ≤ c.toNat ∧ c.toNat ≤ 122) || decide (65 ≤ c.toNat ∧ c.toNat ≤ 90)) := by
  unfold letterB upB
  by_cases h : 97 ≤ c.toNat ∧ c.toNat ≤ 122
  · rw [if_pos h, decide_eq_true h, Bool.true_or]
    refine decide_eq_true ?_
    rw [UInt8.toNat_ofNat']
    omega
  · rw [if_neg h, decide_eq_false h, Bool.false_or]
theorem letters_up {n : List UInt8} {k : Nat} (hk : k < n.length) : letters (upper (n.take (k + 1))) = (letters (upper (n.take k)) && letterB n[k]) := by
  have hu : k < (upper n).length := by rw [upper_length]; exact hk
  have e := letters_next hu
  rw [upper_take, upper_take, e]
  have : (upper n)[k] = upB n[k] := by simp [upper]
  rw [this]
  rfl
theorem upper_plain {n : List UInt8} (h : letters (upper n) = true) : (∀ c ∈ n, (c != 32) = true) ∧ clean n = true := by
  have hl : ∀ c ∈ n, 65 ≤ c.toNat ∧ c.toNat ≤ 122 := by
    intro c hc
    have h1 := letters_of h (upB c) (List.mem_map.2 ⟨c, hc, rfl⟩)
    have h2 := letter_eq c
    rw [show letterB c = true from decide_eq_true h1] at h2
    simp only [Bool.true_eq, Bool.or_eq_true, decide_eq_true_eq] at h2
    omega
  constructor
  · intro c hc
    have := hl c hc
    simp only [bne_iff_ne, ne_eq]
    rintro rfl
    exact absurd this.1 (by decide)
  · refine List.all_eq_true.2 fun c hc => ?_
    have := hl c hc
    exact decide_eq_true (by omega)
/-- any name without a blank, a blank, and anything -/
theorem read_forms {n a : List UInt8} (hb : ∀ c ∈ n, (c != 32) = true) : read (n ++ 32 :: a) = if fine n && clean a then (if (found n).2 then (if may (upper n) a then ((upper n, a), 0) else (([], []), 1)) else (([], []), 3)) else (([], []), 2) := by
  have hf : formed (n ++ 32 :: a) = (fine n && clean a) := by
    unfold formed fine
    rw [head_blank hb, clean_append, clean_cons, show cleanB 32 = true from by decide, Bool.true_and]
    cases hl : letters (upper n) with
    | false => simp
    | true =>
      rw [(upper_plain hl).2]
      by_cases h3 : n.length = 3
      · rw [h3]; simp
      · by_cases h4 : n.length = 4
        · rw [h4]; simp
        · have : ¬ (3 ≤ n.length ∧ n.length ≤ 4) := by omega
          have h5 : (decide (3 ≤ n.length) && decide (n.length ≤ 4)) = false := by
            rw [← Bool.decide_and]; exact decide_eq_false this
          simp [h3, h4]
          intro _ h6
          omega
  unfold read
  rw [hf, head_blank hb, rest_blank hb, found_upper]
theorem read_letters {x : Vb} (hx : x ∈ verbs) {n a : List UInt8} (hn : upper n = x.name) : read (n ++ 32 :: a) = if may x.name a then ((x.name, a), 0) else (([], []), if clean a then 1 else 2) := by
  have hl : letters (upper n) = true := by rw [hn]; exact letters_each x hx
  obtain ⟨h1, h2⟩ := upper_plain hl
  rw [read_line hx hn h1 h2 _ (Or.inr rfl)]
  cases hm : may x.name a with
  | true =>
    obtain ⟨_, _, _, hc, _, _⟩ := may_parts hm
    rw [hc]; rfl
  | false => cases clean a <;> rfl

theorem noblank_next {s : List UInt8} {k : Nat} (hk : k < s.length) (h : ∀ c ∈ s.take k, (c != 32) = true) (hc : s[k] ≠ 32) : ∀ c ∈ s.take (k + 1), (c != 32) = true := by
  intro c hm
  rw [List.take_succ_eq_append_getElem hk, List.mem_append, List.mem_singleton] at hm
  rcases hm with hm | rfl
  · exact h c hm
  · simpa using hc
theorem byte_ne_32 {c : UInt8} (h : c ≠ 32) : ((c.toNat : Int) == 32) = false := by
  simp only [beq_eq_false_iff_ne, ne_eq]
  intro e
  exact h (UInt8.toNat_inj.1 (by show c.toNat = 32; omega))

#print axioms line_eq
#print axioms read_line
end Go.Proofs.Ytkkajbnonfnbjaa.Cm
