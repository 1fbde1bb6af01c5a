/- Plain facts on what an end looks like as it is written, and on brackets, as a loop meets them. No program in this text. -/
import Derived.Test.YtocfklfomfbioaaDoorSixPlain
namespace Go.Proofs.YtocfklfomfbioaaDoor.Six
open Go Go.Proofs.YtocfklfomfbioaaDoor.Quad

/-! SixParts: commas, the port's upper part, the number that goes on -/
structure Seen where
  commas : Nat
  port : Nat
  n : Nat
def seeOne (s : Seen) (b : UInt8) : Seen :=
  if b = 44 then ⟨s.commas + 1, if s.commas + 1 = 5 then 256 * s.n else s.port, 0⟩ else ⟨s.commas, s.port, 10 * s.n + (b.toNat - 48)⟩
def see (l : List UInt8) : Seen := l.foldl seeOne ⟨0, 0, 0⟩
theorem see_next {l : List UInt8} {k : Nat} (h : k < l.length) : see (l.take (k + 1)) = seeOne (see (l.take k)) l[k] := by
  unfold see; rw [List.take_succ_eq_append_getElem h, List.foldl_append]; rfl

theorem decFrom_le : ∀ (l : List UInt8) (acc n : Nat), Lib.decFrom acc l = some n → acc ≤ n
  | [], acc, n, h => by simp only [Lib.decFrom, Option.some.injEq] at h; omega
  | b :: r, acc, n, h => by
    simp only [Lib.decFrom] at h
    cases hd : Lib.digitVal b with
    | none => simp [hd] at h
    | some d => simp only [hd] at h; have := decFrom_le r _ n h; omega
theorem digit_is {b : UInt8} {d : Nat} (h : Lib.digitVal b = some d) : b ≠ 44 ∧ b.toNat - 48 = d := by
  unfold Lib.digitVal at h
  split at h
  · rename_i hb
    refine ⟨?_, by simpa using h⟩
    rintro rfl; revert hb; decide
  · cases h
/-- digits alone are taken as a number -/
theorem see_digits : ∀ (l : List UInt8) (c p acc n : Nat), Lib.decFrom acc l = some n → l.foldl seeOne ⟨c, p, acc⟩ = ⟨c, p, n⟩
  | [], c, p, acc, n, h => by simp only [Lib.decFrom, Option.some.injEq] at h; subst h; rfl
  | b :: r, c, p, acc, n, h => by
    simp only [Lib.decFrom] at h
    cases hd : Lib.digitVal b with
    | none => simp [hd] at h
    | some d =>
      simp only [hd] at h
      obtain ⟨h1, h2⟩ := digit_is hd
      rw [List.foldl_cons]
      have e : seeOne ⟨c, p, acc⟩ b = ⟨c, p, acc * 10 + d⟩ := by
        unfold seeOne; rw [if_neg h1, h2]; simp only [Nat.mul_comm]
      rw [e]; exact see_digits r c p _ n h
theorem see_prefix (l : List UInt8) (k c p n : Nat) (h : Lib.decFrom 0 l = some n) : ∃ m, m ≤ n ∧ (l.take k).foldl seeOne ⟨c, p, 0⟩ = ⟨c, p, m⟩ := by
  have key : ∀ (l : List UInt8) (k acc : Nat), Lib.decFrom acc l = some n → ∃ m, m ≤ n ∧ Lib.decFrom acc (l.take k) = some m := by
    intro l
    induction l with
    | nil => intro k acc h; exact ⟨n, Nat.le_refl _, by simpa using h⟩
    | cons b r ih =>
      intro k acc h
      cases k with
      | zero => exact ⟨acc, decFrom_le _ _ _ h, rfl⟩
      | succ k =>
        simp only [Lib.decFrom, List.take_succ_cons] at h ⊢
        cases hd : Lib.digitVal b with
        | none => simp [hd] at h
        | some d => simp only [hd] at h ⊢; exact ih k _ h
  obtain ⟨m, hm, e⟩ := key l k 0 h
  exact ⟨m, hm, see_digits _ _ _ _ _ e⟩
theorem itoa_from {n : Int} (h : 0 ≤ n) : Lib.decFrom 0 (Lib.itoa n) = some n.toNat := by rw [itoa_pos h]; exact decFrom_digits _

/-- wherever a reader stands, the numbers are small -/
def Small (c p : Nat) (l : List UInt8) : Prop := ∀ k, ((l.take k).foldl seeOne ⟨c, p, 0⟩).n ≤ 255 ∧ ((l.take k).foldl seeOne ⟨c, p, 0⟩).port ≤ 65280 ∧ ((l.take k).foldl seeOne ⟨c, p, 0⟩).commas ≤ 5
theorem small_last {c p : Nat} {n : Int} (h0 : 0 ≤ n) (h1 : n ≤ 255) (hc : c ≤ 5) (hp : p ≤ 65280) : Small c p (Lib.itoa n) := fun k => by
  obtain ⟨m, hm, e⟩ := see_prefix (Lib.itoa n) k c p n.toNat (itoa_from h0)
  rw [e]; exact ⟨by show m ≤ 255; omega, hp, hc⟩
theorem small_next {c p : Nat} {n : Int} {r : List UInt8} (h0 : 0 ≤ n) (h1 : n ≤ 255) (hc : c < 5) (hp : p ≤ 65280) (hr : ∀ q, q ≤ 65280 → Small (c + 1) q r) : Small c p (Lib.itoa n ++ 44 :: r) := fun k => by
  have hs := see_digits (Lib.itoa n) c p 0 n.toNat (itoa_from h0)
  by_cases hk : k ≤ (Lib.itoa n).length
  · rw [List.take_append_of_le_length hk]
    exact small_last h0 h1 (by omega) hp k
  · obtain ⟨j, rfl⟩ : ∃ j, k = (Lib.itoa n).length + (j + 1) := ⟨k - (Lib.itoa n).length - 1, by omega⟩
    rw [List.take_length_add_append, List.foldl_append, hs, List.take_succ_cons, List.foldl_cons]
    have e : seeOne ⟨c, p, n.toNat⟩ 44 = ⟨c + 1, if c + 1 = 5 then 256 * n.toNat else p, 0⟩ := rfl
    rw [e]
    exact hr _ (by split <;> omega) j
theorem see_part {c p : Nat} {n : Int} {r : List UInt8} (h0 : 0 ≤ n) : (Lib.itoa n ++ 44 :: r).foldl seeOne ⟨c, p, 0⟩ = r.foldl seeOne ⟨c + 1, if c + 1 = 5 then 256 * n.toNat else p, 0⟩ := by
  rw [List.foldl_append, see_digits (Lib.itoa n) c p 0 n.toNat (itoa_from h0), List.foldl_cons]; rfl
theorem six_small {a b c d p : Int} (ha : 0 ≤ a ∧ a ≤ 255) (hb : 0 ≤ b ∧ b ≤ 255) (hc : 0 ≤ c ∧ c ≤ 255) (hd : 0 ≤ d ∧ d ≤ 255) (hp : 0 ≤ p ∧ p ≤ 65535) (k : Nat) :
    (see ((sixL a b c d p).take k)).n ≤ 255 ∧ (see ((sixL a b c d p).take k)).port ≤ 65280 ∧ (see ((sixL a b c d p).take k)).commas ≤ 5 := by
  have : Small 0 0 (sixL a b c d p) := by
    unfold sixL
    refine small_next ha.1 ha.2 (by omega) (by omega) fun _ h1 => small_next hb.1 hb.2 (by omega) h1 fun _ h2 => small_next hc.1 hc.2 (by omega) h2 fun _ h3 => small_next hd.1 hd.2 (by omega) h3 fun _ h4 => small_next (by omega) (by omega) (by omega) h4 fun _ h5 => small_last (by omega) (by omega) (by omega) h5
  exact this k
theorem six_seen {a b c d p : Int} (ha : 0 ≤ a) (hb : 0 ≤ b) (hc : 0 ≤ c) (hd : 0 ≤ d) (hp : 0 ≤ p) :
    (see (sixL a b c d p)).commas = 5 ∧ (((see (sixL a b c d p)).port + (see (sixL a b c d p)).n : Nat) : Int) = p := by
  have e : see (sixL a b c d p) = ⟨5, 256 * (p / 256).toNat, (p % 256).toNat⟩ := by
    unfold see sixL
    rw [see_part ha, see_part hb, see_part hc, see_part hd, see_part (n := p / 256) (by omega), see_digits _ _ _ _ _ (itoa_from (n := p % 256) (by omega))]
    rfl
  rw [e]
  refine ⟨rfl, ?_⟩
  show ((256 * (p / 256).toNat + (p % 256).toNat : Nat) : Int) = p
  omega

/-! SixOnly: whether a ( was there, and a ) behind it -/
def mark (s : Bool × Bool) (b : UInt8) : Bool × Bool := (s.1 || decide (b = 40), s.2 || (s.1 && decide (b = 41)))
def marks (l : List UInt8) : Bool × Bool := l.foldl mark (false, false)
theorem marks_next {l : List UInt8} {k : Nat} (h : k < l.length) : marks (l.take (k + 1)) = mark (marks (l.take k)) l[k] := by
  unfold marks; rw [List.take_succ_eq_append_getElem h, List.foldl_append]; rfl
theorem mark_stays : ∀ (l : List UInt8) (o : Bool), (l.foldl mark (o, true)).2 = true
  | [], _ => rfl
  | b :: r, o => by
    rw [List.foldl_cons]
    have e : mark (o, true) b = (o || decide (b = 40), true) := rfl
    rw [e]; exact mark_stays r _
theorem mark_upto : ∀ (l q : List UInt8), upto l = some q → (l.foldl mark (true, false)).2 = true
  | [], _, h => by cases h
  | b :: r, q, h => by
    simp only [upto] at h
    rw [List.foldl_cons]
    split at h
    · rename_i hb
      have e : mark (true, false) b = (true, true) := by unfold mark; simp [hb]
      rw [e]; exact mark_stays r _
    · rename_i hb
      have e : mark (true, false) b = (true, false) := by unfold mark; simp [hb]
      rw [e]
      cases e' : upto r with
      | none => rw [e'] at h; cases h
      | some q' => exact mark_upto r q' e'
theorem mark_ins : ∀ (l q : List UInt8), insO l = some q → (marks l).2 = true
  | [], _, h => by cases h
  | b :: r, q, h => by
    simp only [insO] at h
    unfold marks
    rw [List.foldl_cons]
    split at h
    · rename_i hb
      have e : mark (false, false) b = (true, false) := by unfold mark; simp [hb]
      rw [e]; exact mark_upto r q h
    · rename_i hb
      have e : mark (false, false) b = (false, false) := by unfold mark; simp [hb]
      rw [e]; exact mark_ins r q h

#print axioms six_seen
#print axioms six_small
#print axioms mark_ins
end Go.Proofs.YtocfklfomfbioaaDoor.Six
