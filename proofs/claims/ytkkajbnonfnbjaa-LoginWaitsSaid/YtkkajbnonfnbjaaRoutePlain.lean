/- Plain facts of layer 12: names, users, what stands ahead of the last sign and behind it, who has a host. -/
import Derived.Test.YtkkajbnonfnbjaaCmdPlain
namespace Go.Proofs.Ytkkajbnonfnbjaa.Ro
open Go.Proofs.Ytkkajbnonfnbjaa Go.Proofs.Ytkkajbnonfnbjaa.Cm
set_option maxRecDepth 100000

def nameC (c : UInt8) : Bool := (decide (97 ≤ c.toNat) && decide (c.toNat ≤ 122)) || ((decide (48 ≤ c.toNat) && decide (c.toNat ≤ 57)) || ((c == 46) || (c == 45)))
def nameB (s : List UInt8) : Bool := s.all nameC && (decide (1 ≤ s.length) && decide (s.length ≤ 60))
def userB (s : List UInt8) : Bool := clean s && (s.all (· != 32) && (decide (1 ≤ s.length) && decide (s.length ≤ 60)))
/-- what stands ahead of the last sign, and behind it -/
def cutLast : List UInt8 → Option (List UInt8 × List UInt8)
  | [] => none
  | c :: r => match cutLast r with
    | some (u, h) => some (c :: u, h)
    | none => if c == 64 then some ([], r) else none
def splitR (s : List UInt8) : List UInt8 × List UInt8 × Bool := match cutLast s with
  | some (u, h) => if userB u && nameB h then (u, h, true) else ([], [], false)
  | none => ([], [], false)
/-- the place of the first of the hosts that host is -/
def findH (l : List (List UInt8)) (host : List UInt8) : Int := match l.findIdx? (· == host) with
  | some i => (i : Int)
  | none => -1

theorem cut_none : ∀ {s : List UInt8}, (64 : UInt8) ∉ s → cutLast s = none
  | [], _ => rfl
  | c :: r, h => by
    have h1 : c ≠ 64 := fun e => h (by rw [e]; exact List.mem_cons_self)
    have h2 : (64 : UInt8) ∉ r := fun e => h (List.mem_cons_of_mem _ e)
    unfold cutLast
    rw [cut_none h2]
    simp [h1]
theorem cut_last : ∀ (u : List UInt8) {h : List UInt8}, (64 : UInt8) ∉ h → cutLast (u ++ 64 :: h) = some (u, h)
  | [], h, hf => by
    show cutLast (64 :: h) = _
    unfold cutLast
    rw [cut_none hf]
    rfl
  | c :: u, h, hf => by
    show cutLast (c :: (u ++ 64 :: h)) = _
    unfold cutLast
    rw [cut_last u hf]
theorem cut_at {s : List UInt8} {k : Nat} (hk : k < s.length) (hc : s[k] = 64) (hf : (64 : UInt8) ∉ s.drop (k + 1)) : cutLast s = some (s.take k, s.drop (k + 1)) := by
  have e : s = s.take k ++ 64 :: s.drop (k + 1) := by
    rw [← hc, ← List.drop_eq_getElem_cons hk, List.take_append_drop]
  conv => lhs; rw [e]
  exact cut_last _ hf
theorem name_free {h : List UInt8} (hn : nameB h = true) : (64 : UInt8) ∉ h := by
  intro hm
  unfold nameB at hn
  rw [Bool.and_eq_true, List.all_eq_true] at hn
  exact absurd (hn.1 _ hm) (by decide)
theorem split_of {s u h : List UInt8} (hc : cutLast s = some (u, h)) : splitR s = if userB u && nameB h then (u, h, true) else ([], [], false) := by
  unfold splitR; rw [hc]
theorem split_none {s : List UInt8} (hc : cutLast s = none) : splitR s = ([], [], false) := by
  unfold splitR; rw [hc]
/-- of several signs the last one tells -/
theorem split_fine {u h : List UInt8} (hu : userB u = true) (hn : nameB h = true) : splitR (u ++ 64 :: h) = (u, h, true) := by
  rw [split_of (cut_last u (name_free hn)), hu, hn]; rfl
/-- what is split may be -/
theorem split_may {s : List UInt8} (h : (splitR s).2.2 = true) : userB (splitR s).1 = true ∧ nameB (splitR s).2.1 = true := by
  cases hc : cutLast s with
  | none => rw [split_none hc] at h; cases h
  | some q =>
    obtain ⟨u, g⟩ := q
    rw [split_of hc] at h ⊢
    by_cases hq : (userB u && nameB g) = true
    · rw [if_pos hq] at h ⊢
      rw [Bool.and_eq_true] at hq
      exact hq
    · rw [if_neg hq] at h; cases h
theorem split_not {s : List UInt8} (h : (splitR s).2.2 = false) : splitR s = ([], [], false) := by
  cases hc : cutLast s with
  | none => exact split_none hc
  | some q =>
    obtain ⟨u, g⟩ := q
    rw [split_of hc] at h ⊢
    by_cases hq : (userB u && nameB g) = true
    · rw [if_pos hq] at h; cases h
    · rw [if_neg hq]
theorem name_none : nameB [] = false := rfl
theorem user_none : userB [] = false := rfl
/-- no sign, or one alone at an end: no split -/
theorem no_sign {s : List UInt8} (h : (64 : UInt8) ∉ s) : (splitR s).2.2 = false ∧ (splitR (s ++ [64])).2.2 = false ∧ (splitR (64 :: s)).2.2 = false := by
  refine ⟨by rw [split_none (cut_none h)], ?_, ?_⟩
  · rw [split_of (cut_last s (h := []) (by simp)), name_none, Bool.and_false]; rfl
  · rw [split_of (show cutLast (64 :: s) = some ([], s) from cut_last [] h), user_none, Bool.false_and]; rfl
theorem cut_len : ∀ {s u h : List UInt8}, cutLast s = some (u, h) → u.length + h.length + 1 = s.length
  | [], _, _, e => by cases e
  | c :: r, u, h, e => by
    unfold cutLast at e
    cases hr : cutLast r with
    | some q =>
      obtain ⟨u', h'⟩ := q
      rw [hr] at e
      simp only [Option.some.injEq, Prod.mk.injEq] at e
      obtain ⟨rfl, rfl⟩ := e
      have := cut_len hr
      simp; omega
    | none =>
      rw [hr] at e
      simp only at e
      split at e
      · simp only [Option.some.injEq, Prod.mk.injEq] at e
        obtain ⟨rfl, rfl⟩ := e
        simp
      · cases e
theorem split_len (s : List UInt8) : (splitR s).1.length ≤ s.length ∧ (splitR s).2.1.length ≤ s.length := by
  cases hc : cutLast s with
  | none => rw [split_none hc]; exact ⟨Nat.zero_le _, Nat.zero_le _⟩
  | some q =>
    obtain ⟨u, g⟩ := q
    have := cut_len hc
    rw [split_of hc]
    split
    · exact ⟨by show u.length ≤ _; omega, by show g.length ≤ _; omega⟩
    · exact ⟨Nat.zero_le _, Nat.zero_le _⟩

/-! ### hosts -/
theorem find_none {l : List (List UInt8)} {h : List UInt8} (hn : ∀ j (hj : j < l.length), l[j] ≠ h) : findH l h = -1 := by
  unfold findH
  rw [List.findIdx?_eq_none_iff.2 (fun x hx => by
    obtain ⟨j, hj, rfl⟩ := List.mem_iff_getElem.1 hx
    exact beq_eq_false_iff_ne.2 (hn j hj))]
theorem find_at {l : List (List UInt8)} {h : List UInt8} {i : Nat} (hi : i < l.length) (he : l[i] = h) (hn : ∀ j (hj : j < l.length), j < i → l[j] ≠ h) : findH l h = (i : Int) := by
  unfold findH
  rw [List.findIdx?_eq_some_iff_getElem.2 ⟨hi, by simpa using he, fun j hj => by have := hn j (by omega) hj; simpa using this⟩]

/-! ### loops -/
theorem name_eq (s : List UInt8) : nameB s = (s.all nameC && (decide (1 ≤ s.length) && decide (s.length ≤ 60))) := rfl
theorem user_eq (s : List UInt8) : userB s = (clean s && (s.all (· != 32) && (decide (1 ≤ s.length) && decide (s.length ≤ 60)))) := rfl
theorem each_next {s : List UInt8} {f : UInt8 → Bool} {k : Nat} (h : k < s.length) : (s.take (k + 1)).all f = ((s.take k).all f && f s[k]) := by
  rw [List.take_succ_eq_append_getElem h, List.all_append, List.all_cons, List.all_nil, Bool.and_true]
theorem each_no {s : List UInt8} {f : UInt8 → Bool} {k : Nat} (h : k < s.length) (ho : f s[k] = false) : s.all f = false := by
  cases hc : s.all f with
  | false => rfl
  | true => rw [List.all_eq_true.1 hc _ (List.getElem_mem h)] at ho; cases ho

#print axioms no_sign
#print axioms split_fine
end Go.Proofs.Ytkkajbnonfnbjaa.Ro
