/- Plain facts on what numbers and addresses look like as they are written. No program in this text. -/
import Derived.Test.YtbojjbnmjhblfaaDoorQuadPlain
namespace Go.Proofs.YtbojjbnmjhblfaaDoor.Quad
open Go

theorem text_bytes {a b c d : Int} (ha : 0 ≤ a) (hb : 0 ≤ b) (hc : 0 ≤ c) (hd : 0 ≤ d) {x : UInt8} (h : x ∈ textL a b c d) : x = 46 ∨ (48 ≤ x.toNat ∧ x.toNat ≤ 57) := by
  unfold textL at h
  rw [itoa_pos ha, itoa_pos hb, itoa_pos hc, itoa_pos hd] at h
  simp only [List.mem_append, List.mem_cons] at h
  rcases h with h | h | h | h | h | h | h
  · exact Or.inr (digits_dig h)
  · exact Or.inl h
  · exact Or.inr (digits_dig h)
  · exact Or.inl h
  · exact Or.inr (digits_dig h)
  · exact Or.inl h
  · exact Or.inr (digits_dig h)
theorem text_dots (a b c d : Int) : (textL a b c d).count 46 = 3 := by
  have z : ∀ n : Int, (Lib.itoa n).count 46 = 0 := fun n => List.count_eq_zero.2 (dotless n)
  unfold textL
  simp [List.count_append, z]
theorem digits_front (u : Nat) (h : 1 ≤ u) : ∃ b r, Lib.decDigits u = b :: r ∧ b.toNat ≠ 48 := by
  induction u using Nat.strongRecOn with
  | _ u ih =>
    by_cases h10 : u < 10
    · refine ⟨UInt8.ofNat (48 + u), [], Lib.decDigits_one h10, ?_⟩
      have e : (UInt8.ofNat (48 + u)).toNat = 48 + u := by simp [UInt8.toNat_ofNat']; omega
      omega
    · obtain ⟨b, r, e, hb⟩ := ih (u / 10) (by omega) (by omega)
      exact ⟨b, r ++ [UInt8.ofNat (48 + u % 10)], by rw [Lib.decDigits, dif_neg h10, e]; rfl, hb⟩
theorem itoa_front (n : Int) : (n = 0 ∧ Lib.itoa n = [48]) ∨ (n ≠ 0 ∧ ∃ b r, Lib.itoa n = b :: r ∧ b.toNat ≠ 48) := by
  by_cases h0 : n = 0
  · subst h0; exact Or.inl ⟨rfl, by rw [itoa_pos (by omega)]; exact Lib.decDigits_one (i := 0) (by omega)⟩
  · refine Or.inr ⟨h0, ?_⟩
    by_cases h : n < 0
    · exact ⟨45, _, itoa_neg h, by decide⟩
    · rw [itoa_pos (by omega)]; exact digits_front n.toNat (by omega)
theorem nDigits_le : ∀ (k u : Nat), u < 10 ^ (k + 1) → Lib.nDigits u ≤ k + 1
  | 0, u, h => by rw [Lib.nDigits_small (by simpa using h)]; omega
  | k + 1, u, h => by
    by_cases h10 : u < 10
    · rw [Lib.nDigits_small h10]; omega
    · rw [Lib.nDigits_big h10]
      have := nDigits_le k (u / 10) (by rw [Nat.div_lt_iff_lt_mul (by omega)]; rw [Nat.pow_succ] at h; exact h)
      omega
theorem itoa_most {n : Int} (h0 : -9223372036854775808 ≤ n) (h1 : n ≤ 9223372036854775807) : (Lib.itoa n).length ≤ 20 := by
  have p : (10 : Nat) ^ (18 + 1) = 10000000000000000000 := by decide
  by_cases h : n < 0
  · rw [itoa_neg h, List.length_cons, Lib.decDigits_length]
    have := nDigits_le 18 n.natAbs (by rw [p]; omega)
    omega
  · rw [itoa_pos (by omega), Lib.decDigits_length]
    have := nDigits_le 18 n.toNat (by rw [p]; omega)
    omega
theorem count_snoc (l : List UInt8) (k : Nat) (h : k < l.length) : (l.take (k + 1)).count 46 = (l.take k).count 46 + (if l[k].toNat = 46 then 1 else 0) := by
  rw [List.take_succ_eq_append_getElem h, List.count_append]
  congr 1
  by_cases e : l[k].toNat = 46
  · rw [if_pos e, show l[k] = 46 from UInt8.toNat.inj e]; rfl
  · rw [if_neg e]
    have : l[k] ≠ 46 := fun e' => e (by rw [e']; rfl)
    simp [this]
/-- no text is both a number and an address -/
theorem not_both {l : List UInt8} {most : Int} (h : readB l = true) (g : getB l most = true) : False := by
  have e := read_yes h
  obtain ⟨n, hn, _⟩ := (getB_iff l most).1 g
  have hm : (46 : UInt8) ∈ l := by rw [← e]; unfold textL; simp
  rw [← hn] at hm
  have := digits_dig hm
  revert this; decide

end Go.Proofs.YtbojjbnmjhblfaaDoor.Quad
