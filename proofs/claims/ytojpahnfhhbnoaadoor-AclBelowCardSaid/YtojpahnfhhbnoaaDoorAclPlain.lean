/- Plain facts of layer 11: rules, which of them tells, what is allowed. -/
import Derived.Test.YtojpahnfhhbnoaaDoorPathPlain
import Derived.Test.YtojpahnfhhbnoaaDoorVerbPlain
namespace Go.Proofs.YtojpahnfhhbnoaaDoor.Ac
open Go.Proofs.YtojpahnfhhbnoaaDoor Go.Proofs.YtojpahnfhhbnoaaDoor.Pt
set_option maxRecDepth 100000

structure Rl where
  a : Bool
  v : List UInt8
  p : List UInt8
deriving DecidableEq, Inhabited

/-- one rule may be: its verb is empty or a verb's name, and its path may be -/
def okR (r : Rl) : Bool := mayP r.p && ((r.v == []) || ((Vb.found r.v).2 && ((Vb.found r.v).1.name == r.v)))
def mayL (l : List Rl) : Bool := decide (l.length ≤ 8) && l.all okR
/-- a rule tells of a verb and a path -/
def tells (v p : List UInt8) (r : Rl) : Bool := under r.p p && ((r.v == []) || (r.v == v))
def which (l : List Rl) (v p : List UInt8) : Int := match l.findIdx? (tells v p) with
  | some i => (i : Int)
  | none => -1
def allowed (l : List Rl) (v p : List UInt8) : Bool := match l.find? (tells v p) with
  | some r => r.a
  | none => false
/-- the bound of layer 11's statements -/
def fewL (l : List Rl) : Bool := decide (l.length ≤ 20) && l.all (fun r => decide (r.v.length ≤ 300) && decide (r.p.length ≤ 300))

theorem few_of {l : List Rl} (h : fewL l = true) : l.length ≤ 20 ∧ ∀ r ∈ l, r.v.length ≤ 300 ∧ r.p.length ≤ 300 := by
  unfold fewL at h
  rw [Bool.and_eq_true, decide_eq_true_eq, List.all_eq_true] at h
  refine ⟨h.1, fun r hr => ?_⟩
  have := h.2 r hr
  simpa using this

theorem which_none {l : List Rl} {v p : List UInt8} (h : ∀ r ∈ l, tells v p r = false) : which l v p = -1 := by
  unfold which
  rw [List.findIdx?_eq_none_iff.2 h]
theorem which_some {l : List Rl} {v p : List UInt8} {i : Nat} (h : l.findIdx? (tells v p) = some i) : which l v p = (i : Int) := by
  unfold which
  rw [h]
theorem which_cases (l : List Rl) (v p : List UInt8) : (which l v p = -1 ∧ allowed l v p = false ∧ ∀ r ∈ l, tells v p r = false) ∨
    ∃ i, ∃ (h : i < l.length), which l v p = (i : Int) ∧ allowed l v p = l[i].a ∧ tells v p l[i] = true ∧ ∀ j (hj : j < l.length), j < i → tells v p l[j] = false := by
  cases hf : l.findIdx? (tells v p) with
  | none =>
    left
    have hn := List.findIdx?_eq_none_iff.1 hf
    refine ⟨which_none hn, ?_, hn⟩
    unfold allowed
    rw [List.find?_eq_none.2 (fun r hr => by rw [hn r hr]; decide)]
  | some i =>
    right
    obtain ⟨hi, ht, hm⟩ := List.findIdx?_eq_some_iff_getElem.1 hf
    refine ⟨i, hi, which_some hf, ?_, ht, fun j hj hji => by have := hm j hji; simpa using this⟩
    unfold allowed
    have : l.find? (tells v p) = some l[i] := by
      rw [List.find?_eq_some_iff_getElem]
      exact ⟨ht, i, hi, rfl, fun j hj => by have := hm j hj; simpa using this⟩
    rw [this]
theorem which_range (l : List Rl) (v p : List UInt8) : -1 ≤ which l v p ∧ which l v p < (l.length : Int) := by
  rcases which_cases l v p with ⟨h, _⟩ | ⟨i, hi, h, _⟩ <;> rw [h] <;> omega
/-- what is known of a place makes it the answer -/
theorem which_at {l : List Rl} {v p : List UInt8} {i : Nat} (hi : i < l.length) (ht : tells v p l[i] = true) (hm : ∀ j (hj : j < l.length), j < i → tells v p l[j] = false) : which l v p = (i : Int) ∧ allowed l v p = l[i].a := by
  have hf : l.findIdx? (tells v p) = some i := List.findIdx?_eq_some_iff_getElem.2 ⟨hi, ht, fun j hj => by have := hm j (by omega) hj; simpa using this⟩
  refine ⟨which_some hf, ?_⟩
  unfold allowed
  rw [List.find?_eq_some_iff_getElem.2 ⟨ht, i, hi, rfl, fun j hj => by have := hm j (by omega) hj; simpa using this⟩]
theorem allowed_none {l : List Rl} {v p : List UInt8} (h : ∀ r ∈ l, tells v p r = false) : allowed l v p = false := by
  unfold allowed
  rw [List.find?_eq_none.2 (fun r hr => by rw [h r hr]; decide)]

/-! ### two lists, one behind the other -/
theorem both_first {l m : List Rl} {v p : List UInt8} (h : 0 ≤ which l v p) : which (l ++ m) v p = which l v p ∧ allowed (l ++ m) v p = allowed l v p ∧ which (l.take (which l v p).toNat) v p = -1 ∧ which l v p < (l.length : Int) := by
  rcases which_cases l v p with ⟨h', _⟩ | ⟨i, hi, h1, h2, h3, h4⟩
  · omega
  · obtain ⟨k1, k2⟩ := which_at (l := l ++ m) (v := v) (p := p) (i := i) (by rw [List.length_append]; omega) (by rw [List.getElem_append_left hi]; exact h3)
      (fun j hj hji => by rw [List.getElem_append_left (by omega)]; exact h4 j (by omega) hji)
    refine ⟨by rw [k1, h1], by rw [k2, h2, List.getElem_append_left hi], ?_, by omega⟩
    rw [h1, Int.toNat_natCast]
    refine which_none fun r hr => ?_
    obtain ⟨j, hj, rfl⟩ := List.mem_iff_getElem.1 hr
    rw [List.length_take] at hj
    rw [List.getElem_take]
    exact h4 j (by omega) (by omega)
theorem both_then {l m : List Rl} {v p : List UInt8} (h : which l v p < 0) : (which m v p < 0 → which (l ++ m) v p = -1) ∧ (0 ≤ which m v p → which (l ++ m) v p = which m v p + (l.length : Int)) := by
  rcases which_cases l v p with ⟨_, _, hn⟩ | ⟨i, hi, h1, _⟩
  · refine ⟨fun hm => ?_, fun hm => ?_⟩
    · rcases which_cases m v p with ⟨_, _, hn2⟩ | ⟨i, hi, h1, _⟩
      · exact which_none fun r hr => by
          rcases List.mem_append.1 hr with h | h
          · exact hn r h
          · exact hn2 r h
      · omega
    · rcases which_cases m v p with ⟨h1, _⟩ | ⟨i, hi, h1, h2, h3, h4⟩
      · omega
      · have hlen : l.length + i < (l ++ m).length := by rw [List.length_append]; omega
        obtain ⟨k1, _⟩ := which_at (l := l ++ m) (v := v) (p := p) (i := l.length + i) hlen (by rw [List.getElem_append_right (by omega)]; simpa using h3)
          (fun j hj hji => by
            by_cases hjl : j < l.length
            · rw [List.getElem_append_left hjl]; exact hn _ (List.getElem_mem hjl)
            · rw [List.getElem_append_right (by omega)]; exact h4 _ _ (by omega))
        rw [k1, h1]; omega
  · omega

/-- a rule of all ahead of them -/
theorem tells_root {v p : List UInt8} {a : Bool} : tells v p ⟨a, [], [47]⟩ = mayP p := by
  unfold tells
  show (under [47] p && (([] : List UInt8) == [] || _)) = _
  cases h : mayP p with
  | true => rw [under_root h]; rfl
  | false => rw [(under_no (b := [47]) h).2]; rfl
theorem tells_may {v p : List UInt8} {r : Rl} (h : mayP p = false) : tells v p r = false := by
  unfold tells
  rw [(under_no (b := r.p) h).2]; rfl
theorem allowed_all (l : List Rl) (a : Bool) (v p : List UInt8) : allowed (⟨a, [], [47]⟩ :: l) v p = (a && mayP p) := by
  cases h : mayP p with
  | true =>
    obtain ⟨_, k⟩ := which_at (l := ⟨a, [], [47]⟩ :: l) (v := v) (p := p) (i := 0) (by simp) (by show tells v p ⟨a, [], [47]⟩ = true; rw [tells_root]; exact h) (fun j _ hj => by omega)
    rw [k]; simp
  | false =>
    rw [allowed_none (fun r _ => tells_may h)]; simp

/-! ### a rule alone -/
theorem alone {r : Rl} {v p : List UInt8} : which [r] v p = (if tells v p r then 0 else -1) ∧ allowed [r] v p = (tells v p r && r.a) := by
  cases h : tells v p r with
  | true =>
    obtain ⟨k1, k2⟩ := which_at (l := [r]) (v := v) (p := p) (i := 0) (by simp) (by simpa using h) (fun j _ hj => by omega)
    exact ⟨by rw [k1]; rfl, by rw [k2]; simp⟩
  | false =>
    have hn : ∀ q ∈ [r], tells v p q = false := fun q hq => by rw [List.mem_singleton.1 hq]; exact h
    exact ⟨by rw [which_none hn]; rfl, by rw [allowed_none hn]; simp⟩
theorem tells_below {r : Rl} {v p q : List UInt8} (h : tells v p r = true) (hu : under p q = true) : tells v q r = true := by
  unfold tells at h ⊢
  rw [Bool.and_eq_true] at h ⊢
  exact ⟨under_trans h.1 hu, h.2⟩

/-! ### a rule of another verb in between -/
theorem tells_other {r : Rl} {v p : List UInt8} (h1 : r.v ≠ []) (h2 : r.v ≠ v) : tells v p r = false := by
  unfold tells
  rw [beq_eq_false_iff_ne.2 h1, beq_eq_false_iff_ne.2 h2]
  simp
theorem find_other {l : List Rl} {r : Rl} {v p : List UInt8} {k : Nat} (h : tells v p r = false) : (l.take k ++ r :: l.drop k).find? (tells v p) = l.find? (tells v p) := by
  rw [List.find?_append, List.find?_cons, h]
  conv => rhs; rw [← List.take_append_drop k l, List.find?_append]
theorem allowed_other {l : List Rl} {r : Rl} {v p : List UInt8} {k : Nat} (h : tells v p r = false) : allowed (l.take k ++ r :: l.drop k) v p = allowed l v p := by
  unfold allowed
  rw [find_other h]
theorem which_other {l : List Rl} {r : Rl} {v p : List UInt8} {k : Nat} (hk : k ≤ l.length) (h : tells v p r = false) : which (l.take k ++ r :: l.drop k) v p = (if which l v p ≥ (k : Int) then which l v p + 1 else which l v p) := by
  have hlen : (l.take k ++ r :: l.drop k).length = l.length + 1 := by rw [List.length_append, List.length_cons, List.length_take, List.length_drop]; omega
  have at1 : ∀ j (hj : j < k), (l.take k ++ r :: l.drop k)[j]'(by omega) = l[j]'(by omega) := fun j hj => by
    rw [List.getElem_append_left (by rw [List.length_take]; omega), List.getElem_take]
  have at2 : (l.take k ++ r :: l.drop k)[k]'(by omega) = r := by
    rw [List.getElem_append_right (by rw [List.length_take]; omega)]
    have : k - (l.take k).length = 0 := by rw [List.length_take]; omega
    simp only [this, List.getElem_cons_zero]
  have at3 : ∀ j (hj : k < j) (hl : j < l.length + 1), (l.take k ++ r :: l.drop k)[j]'(by omega) = l[j - 1]'(by omega) := fun j hj hl => by
    rw [List.getElem_append_right (by rw [List.length_take]; omega)]
    have : j - (l.take k).length = (j - k - 1) + 1 := by rw [List.length_take]; omega
    simp only [this, List.getElem_cons_succ, List.getElem_drop]
    congr 1; omega
  rcases which_cases l v p with ⟨h0, _, hn⟩ | ⟨i, hi, h1, h2, h3, h4⟩
  · rw [h0, if_neg (by omega)]
    refine which_none fun q hq => ?_
    rcases List.mem_append.1 hq with hq | hq
    · exact hn q (List.mem_of_mem_take hq)
    · rcases List.mem_cons.1 hq with rfl | hq
      · exact h
      · exact hn q (List.mem_of_mem_drop hq)
  · rw [h1]
    by_cases hik : k ≤ i
    · rw [if_pos (by omega)]
      obtain ⟨k1, _⟩ := which_at (l := l.take k ++ r :: l.drop k) (v := v) (p := p) (i := i + 1) (by omega) (by rw [at3 (i + 1) (by omega) (by omega)]; simpa using h3)
        (fun j hj hji => by
          rcases Nat.lt_trichotomy j k with hjk | hjk | hjk
          · rw [at1 j hjk]; exact h4 j (by omega) (by omega)
          · subst hjk; rw [at2]; exact h
          · rw [at3 j hjk (by omega)]; exact h4 _ (by omega) (by omega))
      rw [k1]; omega
    · rw [if_neg (by omega)]
      obtain ⟨k1, _⟩ := which_at (l := l.take k ++ r :: l.drop k) (v := v) (p := p) (i := i) (by omega) (by rw [at1 i (by omega)]; exact h3)
        (fun j hj hji => by rw [at1 j (by omega)]; exact h4 j (by omega) hji)
      exact k1

#print axioms which_other
#print axioms both_then
end Go.Proofs.YtojpahnfhhbnoaaDoor.Ac
