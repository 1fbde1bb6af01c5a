/- Plain facts of layer 16: pinholes, with one more, one less, those that are not over, those of other sessions, their ports. -/
import Derived.Lib.Hide
namespace Go.Proofs.Ytaahghjllfkmaaa.Hl
set_option linter.unusedVariables false

structure Ho where
  port : Int
  sess : Int
  ten : Int
  a : Int
  b : Int
  c : Int
  d : Int
  e : Int
  f : Int
  g : Int
  h : Int
  tport : Int
  dead : Int
deriving DecidableEq, Inhabited
structure Pe where
  a : Int
  b : Int
  c : Int
  d : Int
deriving DecidableEq, Inhabited
def zeroH : Ho := ⟨0, 0, 0, 0, 0, 0, 0, 0, 0, 0, 0, 0, 0⟩
def peer (x : Ho) : Pe := ⟨x.a, x.b, x.c, x.d⟩
def eqP (x y : Pe) : Bool := x.a == y.a && x.b == y.b && x.c == y.c && x.d == y.d
def eqH (x y : Ho) : Bool := x.port == y.port && (x.sess == y.sess && (x.ten == y.ten && ((x.a == y.a && x.b == y.b && x.c == y.c && x.d == y.d) && (((x.e == y.e && x.f == y.f && x.g == y.g && x.h == y.h) && x.tport == y.tport) && x.dead == y.dead))))
theorem eqP_iff {x y : Pe} : eqP x y = true ↔ x = y := by
  obtain ⟨a, b, c, d⟩ := x
  obtain ⟨a', b', c', d'⟩ := y
  unfold eqP
  simp [and_assoc]
theorem eqH_iff {x y : Ho} : eqH x y = true ↔ x = y := by
  obtain ⟨x1, x2, x3, x4, x5, x6, x7, x8, x9, x10, x11, x12, x13⟩ := x
  obtain ⟨y1, y2, y3, y4, y5, y6, y7, y8, y9, y10, y11, y12, y13⟩ := y
  unfold eqH
  simp [and_assoc]
theorem eqH_self (x : Ho) : eqH x x = true := eqH_iff.2 rfl
theorem eqH_no {x y : Ho} (h : x ≠ y) : eqH x y = false := by
  cases hc : eqH x y with
  | false => rfl
  | true => exact absurd (eqH_iff.1 hc) h
theorem eqP_no {x y : Pe} (h : x ≠ y) : eqP x y = false := by
  cases hc : eqP x y with
  | false => rfl
  | true => exact absurd (eqP_iff.1 hc) h

def portB (n : Int) : Bool := decide (1024 ≤ n) && decide (n ≤ 65535)
def satB (n : Int) : Bool := decide (0 ≤ n) && decide (n ≤ 1099511627776)
def mayH (x : Ho) : Bool := satB x.dead && (portB x.port && (portB x.tport && (decide (0 ≤ x.sess) && (decide (0 ≤ x.ten) && decide (x.ten < 4)))))
def sameL (l m : List Ho) : Bool := decide (l = m)
def tens (l : List Ho) (t : Int) : Nat := (l.filter (fun y => y.ten == t)).length
def has (l : List Ho) (p : Int) : Bool := l.any (fun y => y.port == p)
def grant (l : List Ho) (x : Ho) (most : Int) : List Ho × Int :=
  if mayH x then (if has l x.port || decide (most ≤ (tens l x.ten : Int)) then ([], 4) else (l ++ [x], 0)) else ([], 1)
def hit (p : Int) (q : Pe) (now : Int) (x : Ho) : Bool := (x.port == p) && (eqP (peer x) q && decide (now < x.dead))
def matchL (l : List Ho) (p : Int) (q : Pe) (now : Int) : List Ho × Ho × Bool := match l.findIdx? (hit p q now) with
  | some i => (l.take i ++ l.drop (i + 1), l.getD i zeroH, true)
  | none => (l, zeroH, false)
def sweep (l : List Ho) (now : Int) : List Ho := l.filter (fun x => decide (now < x.dead))
def revoke (l : List Ho) (s : Int) : List Ho := l.filter (fun x => !(x.sess == s))
def ports (l : List Ho) : List Int := l.map (fun x => x.port)

theorem sameL_self (l : List Ho) : sameL l l = true := by unfold sameL; simp
theorem sameL_len {l m : List Ho} (h : l.length ≠ m.length) : sameL l m = false := by unfold sameL; exact decide_eq_false (fun e => h (by rw [e]))
theorem sameL_no {l m : List Ho} {k : Nat} (h : k < l.length) (h' : k < m.length) (hn : l[k] ≠ m[k]) : sameL l m = false := by
  unfold sameL
  exact decide_eq_false (fun e => hn (by subst e; rfl))
theorem sameL_all {l m : List Ho} (hl : l.length = m.length) (h : ∀ k (h : k < l.length) (h' : k < m.length), l[k] = m[k]) : sameL l m = true := by
  unfold sameL
  exact decide_eq_true (List.ext_getElem hl h)

theorem grant_ways (l : List Ho) (x : Ho) (most : Int) : (mayH x = false ∧ grant l x most = ([], 1)) ∨ (mayH x = true ∧ (has l x.port = true ∨ most ≤ (tens l x.ten : Int)) ∧ grant l x most = ([], 4)) ∨
    (mayH x = true ∧ has l x.port = false ∧ ¬ most ≤ (tens l x.ten : Int) ∧ grant l x most = (l ++ [x], 0)) := by
  unfold grant
  cases h1 : mayH x
  · exact Or.inl ⟨rfl, rfl⟩
  · right
    cases h2 : has l x.port
    · by_cases h3 : most ≤ (tens l x.ten : Int)
      · exact Or.inl ⟨rfl, Or.inr h3, by rw [decide_eq_true h3]; rfl⟩
      · exact Or.inr ⟨rfl, rfl, h3, by rw [decide_eq_false h3]; rfl⟩
    · exact Or.inl ⟨rfl, Or.inl rfl, rfl⟩
theorem match_none {l : List Ho} {p : Int} {q : Pe} {now : Int} (h : ∀ x ∈ l, hit p q now x = false) : matchL l p q now = (l, zeroH, false) := by
  unfold matchL
  rw [List.findIdx?_eq_none_iff.2 h]
theorem match_at {l : List Ho} {p : Int} {q : Pe} {now : Int} {i : Nat} (hi : i < l.length) (h : hit p q now l[i] = true) (hn : ∀ j (hj : j < l.length), j < i → hit p q now l[j] = false) :
    matchL l p q now = (l.take i ++ l.drop (i + 1), l[i], true) := by
  unfold matchL
  have : l.findIdx? (hit p q now) = some i := List.findIdx?_eq_some_iff_getElem.2 ⟨hi, h, fun j hj => by rw [hn j (by omega) hj]; decide⟩
  rw [this]
  simp [List.getD_eq_getElem?_getD, List.getElem?_eq_getElem hi]
theorem match_ways (l : List Ho) (p : Int) (q : Pe) (now : Int) : ((∀ x ∈ l, hit p q now x = false) ∧ matchL l p q now = (l, zeroH, false)) ∨
    ∃ i, ∃ (hi : i < l.length), hit p q now l[i] = true ∧ (∀ j (hj : j < l.length), j < i → hit p q now l[j] = false) ∧ matchL l p q now = (l.take i ++ l.drop (i + 1), l[i], true) := by
  cases hf : l.findIdx? (hit p q now) with
  | none => have h := List.findIdx?_eq_none_iff.1 hf; exact Or.inl ⟨h, match_none h⟩
  | some i =>
    obtain ⟨hi, ht, hm⟩ := List.findIdx?_eq_some_iff_getElem.1 hf
    have hn : ∀ j (hj : j < l.length), j < i → hit p q now l[j] = false := fun j hj hji => by have := hm j hji; simpa using this
    exact Or.inr ⟨i, hi, ht, hn, match_at hi ht hn⟩
theorem has_no {l : List Ho} {p : Int} (h : has l p = false) : ∀ x ∈ l, ∀ (q : Pe) (now : Int), hit p q now x = false := by
  intro x hx q now
  unfold has at h
  rw [List.any_eq_false] at h
  have := h x hx
  unfold hit
  cases hc : (x.port == p)
  · rfl
  · rw [hc] at this; exact absurd rfl this
theorem has_next {l : List Ho} {p : Int} {k : Nat} (h : k < l.length) : has (l.take (k + 1)) p = (has (l.take k) p || (l[k].port == p)) := by
  unfold has
  rw [List.take_succ_eq_append_getElem h, List.any_append]; simp
theorem has_hit {l : List Ho} {p : Int} {k : Nat} (h : k < l.length) (hp : (l[k].port == p) = true) : has l p = true := List.any_eq_true.2 ⟨l[k], List.getElem_mem _, hp⟩
theorem tens_next {l : List Ho} {t : Int} {k : Nat} (h : k < l.length) : tens (l.take (k + 1)) t = tens (l.take k) t + (if l[k].ten == t then 1 else 0) := by
  unfold tens
  rw [List.take_succ_eq_append_getElem h, List.filter_append, List.length_append]
  congr 1
  cases hc : (l[k].ten == t) <;> simp [hc]
theorem tens_le (l : List Ho) (t : Int) : tens l t ≤ l.length := List.length_filter_le _ _
theorem filter_next {l : List Ho} {f : Ho → Bool} {k : Nat} (h : k < l.length) : (l.take (k + 1)).filter f = (l.take k).filter f ++ (if f l[k] then [l[k]] else []) := by
  rw [List.take_succ_eq_append_getElem h, List.filter_append]
  congr 1
  cases hc : f l[k] <;> simp [hc]
/-- what was kept of a beginning lies at the beginning of what is kept -/
theorem filter_at {l : List Ho} {f : Ho → Bool} {k : Nat} (h : k < l.length) (hf : f l[k] = true) : ∃ (hq : ((l.take k).filter f).length < (l.filter f).length), (l.filter f)[((l.take k).filter f).length] = l[k] := by
  have e : l.filter f = (l.take k).filter f ++ l[k] :: (l.drop (k + 1)).filter f := by
    conv => lhs; rw [← List.take_append_drop k l, List.filter_append, List.drop_eq_getElem_cons h, List.filter_cons, if_pos hf]
  have hl : ((l.take k).filter f).length < (l.filter f).length := by rw [e, List.length_append, List.length_cons]; omega
  refine ⟨hl, ?_⟩
  have : (l.filter f)[((l.take k).filter f).length]? = some l[k] := by
    rw [e, List.getElem?_append_right (Nat.le_refl _), Nat.sub_self]; rfl
  rw [List.getElem?_eq_getElem hl] at this
  injection this
/-- no two a port in common, no tenant more than it may -/
def fineAt (l : List Ho) (most : Int) (i : Nat) (x : Ho) : Prop := (∀ k (hk : k < l.length), k ≠ i → l[k].port ≠ x.port) ∧ (tens l x.ten : Int) ≤ most
def Fine (l : List Ho) (most : Int) : Prop := ∀ i (hi : i < l.length), fineAt l most i l[i]
instance (l : List Ho) (most : Int) (i : Nat) (x : Ho) : Decidable (fineAt l most i x) := by unfold fineAt; infer_instance
instance (l : List Ho) (most : Int) : Decidable (Fine l most) := by unfold Fine; infer_instance
def fineB (l : List Ho) (most : Int) : Bool := decide (Fine l most)
theorem fine_more {l : List Ho} {x : Ho} {most : Int} (hf : Fine l most) (hp : has l x.port = false) (ht : ¬ most ≤ (tens l x.ten : Int)) : Fine (l ++ [x]) most := by
  have hpn : ∀ k (hk : k < l.length), l[k].port ≠ x.port := fun k hk e => by
    have := has_hit hk (p := x.port) (by rw [beq_iff_eq]; exact e)
    rw [hp] at this; cases this
  have htn : ∀ t, (tens (l ++ [x]) t : Int) = (tens l t : Int) + (if x.ten = t then 1 else 0) := fun t => by
    unfold tens
    rw [List.filter_append, List.length_append]
    by_cases h : x.ten = t
    · rw [if_pos h]; simp [h]
    · rw [if_neg h]; simp [h]
  intro i hi
  rw [List.length_append, List.length_singleton] at hi
  constructor
  · intro k hk hne
    rw [List.length_append, List.length_singleton] at hk
    by_cases h1 : k < l.length
    · rw [List.getElem_append_left h1]
      by_cases h2 : i < l.length
      · rw [List.getElem_append_left h2]; exact (hf i h2).1 k h1 hne
      · rw [List.getElem_append_right (by omega)]; simp; exact hpn k h1
    · have h2 : i < l.length := by omega
      rw [List.getElem_append_right (by omega), List.getElem_append_left h2]
      simp
      exact fun e => hpn i h2 e.symm
  · rw [htn]
    by_cases h2 : i < l.length
    · rw [List.getElem_append_left h2]
      have := (hf i h2).2
      by_cases h : x.ten = l[i].ten
      · rw [if_pos h, ← h]; omega
      · rw [if_neg h]; omega
    · have : (l ++ [x])[i] = x := by rw [List.getElem_append_right (by omega)]; simp
      rw [this, if_pos rfl]; omega
theorem tens_filter (l : List Ho) (f : Ho → Bool) (t : Int) : tens (l.filter f) t ≤ tens l t := by
  unfold tens
  rw [List.filter_filter]
  apply List.Sublist.length_le
  have : (l.filter fun a => (a.ten == t && f a)) = (l.filter fun y => y.ten == t).filter f := by rw [List.filter_filter]; congr 1; funext a; rw [Bool.and_comm]
  rw [this]
  exact List.filter_sublist
theorem fine_nodup {l : List Ho} {most : Int} : Fine l most ↔ (l.map (fun x => x.port)).Nodup ∧ ∀ x ∈ l, (tens l x.ten : Int) ≤ most := by
  constructor
  · intro h
    refine ⟨?_, fun x hx => by obtain ⟨i, hi, rfl⟩ := List.getElem_of_mem hx; exact (h i hi).2⟩
    rw [List.nodup_iff_pairwise_ne, List.pairwise_iff_getElem]
    intro i j hi hj hij
    rw [List.length_map] at hi hj
    simp only [List.getElem_map]
    exact (h j hj).1 i hi (by omega)
  · rintro ⟨h1, h2⟩ i hi
    refine ⟨fun k hk hne => ?_, h2 _ (List.getElem_mem _)⟩
    rw [List.nodup_iff_pairwise_ne, List.pairwise_iff_getElem] at h1
    rcases Nat.lt_trichotomy k i with h | h | h
    · have := h1 k i (by rw [List.length_map]; exact hk) (by rw [List.length_map]; exact hi) h
      simpa using this
    · exact absurd h hne
    · have := h1 i k (by rw [List.length_map]; exact hi) (by rw [List.length_map]; exact hk) h
      simp at this
      exact fun e => this e.symm
theorem fine_less {l : List Ho} {most : Int} (f : Ho → Bool) (h : Fine l most) : Fine (l.filter f) most := by
  rw [fine_nodup] at h ⊢
  refine ⟨h.1.sublist (List.filter_sublist.map _), fun x hx => ?_⟩
  have h1 := h.2 x (List.mem_filter.1 hx).1
  have h2 := tens_filter l f x.ten
  omega

/-! ### what the laws say -/
theorem once_match {l : List Ho} {x : Ho} (hp : has l x.port = false) (q : Pe) (now : Int) : matchL (l ++ [x]) x.port q now = (if eqP (peer x) q && decide (now < x.dead) then (l, x, true) else (l ++ [x], zeroH, false)) := by
  have hit_x : hit x.port q now x = (eqP (peer x) q && decide (now < x.dead)) := by unfold hit; rw [beq_self_eq_true, Bool.true_and]
  cases hc : (eqP (peer x) q && decide (now < x.dead)) with
  | true =>
    have := match_at (l := l ++ [x]) (p := x.port) (q := q) (now := now) (i := l.length) (by simp) (by simp; rw [hit_x]; exact hc) (fun j hj hji => by
      rw [List.getElem_append_left hji]; exact has_no hp _ (List.getElem_mem _) q now)
    rw [this]
    simp
  | false =>
    refine match_none (fun y hy => ?_)
    rw [List.mem_append, List.mem_singleton] at hy
    rcases hy with hy | rfl
    · exact has_no hp y hy q now
    · rw [hit_x]; exact hc
theorem again_match {l : List Ho} {p : Int} (hp : has l p = false) (q : Pe) (now : Int) : matchL l p q now = (l, zeroH, false) := match_none (fun y hy => has_no hp y hy q now)
theorem sweep_twice (l : List Ho) {now later : Int} (h : now ≤ later) : sweep (sweep l now) now = sweep l now ∧ sweep (sweep l now) later = sweep l later ∧ (sweep l later).length ≤ (sweep l now).length := by
  have e : ∀ k, now ≤ k → sweep (sweep l now) k = sweep l k := fun k hk => by
    unfold sweep
    rw [List.filter_filter]
    apply List.filter_congr
    intro x _
    by_cases h1 : k < x.dead
    · rw [decide_eq_true h1, decide_eq_true (show now < x.dead by omega)]; rfl
    · rw [decide_eq_false h1]; rfl
  refine ⟨e now (by omega), e later h, ?_⟩
  rw [← e later h]
  exact List.length_filter_le _ _
theorem sweep_mem {l : List Ho} {now : Int} {x : Ho} (h : x ∈ sweep l now) : now < x.dead := of_decide_eq_true (List.mem_filter.1 h).2
theorem other_match {l : List Ho} {x : Ho} {p : Int} (hp : p ≠ x.port) (q : Pe) (now : Int) : matchL (l ++ [x]) p q now = ((matchL l p q now).1 ++ [x], (matchL l p q now).2.1, (matchL l p q now).2.2) := by
  have hx : hit p q now x = false := by unfold hit; rw [beq_eq_false_iff_ne.2 (fun e => hp e.symm)]; rfl
  rcases match_ways l p q now with ⟨h, e⟩ | ⟨i, hi, h1, h2, e⟩
  · rw [e]
    refine match_none (fun y hy => ?_)
    rw [List.mem_append, List.mem_singleton] at hy
    rcases hy with hy | rfl
    · exact h y hy
    · exact hx
  · rw [e]
    have := match_at (l := l ++ [x]) (p := p) (q := q) (now := now) (i := i) (by simp; omega) (by rw [List.getElem_append_left hi]; exact h1) (fun j hj hji => by
      rw [List.getElem_append_left (by omega)]; exact h2 j (by omega) hji)
    rw [this, List.getElem_append_left hi, List.take_append_of_le_length (by omega), List.drop_append_of_le_length (by omega), List.append_assoc]
theorem later_match {l : List Ho} {p : Int} {q : Pe} {now later : Int} (h : now ≤ later) : (matchL l p q later).2.2 = true → (matchL l p q now).2.2 = true := by
  intro hw
  rcases match_ways l p q later with ⟨_, e⟩ | ⟨i, hi, h1, h2, _⟩
  · rw [e] at hw; cases hw
  · rcases match_ways l p q now with ⟨h3, _⟩ | ⟨j, _, _, _, e⟩
    · have h4 := h3 l[i] (List.getElem_mem _)
      unfold hit at h1 h4
      simp only [Bool.and_eq_true, decide_eq_true_eq] at h1
      rw [h1.1, h1.2.1, decide_eq_true (show now < l[i].dead by omega)] at h4
      cases h4
    · rw [e]
theorem swept_match (l : List Ho) (p : Int) (q : Pe) (now : Int) : (matchL (sweep l now) p q now).2.2 = (matchL l p q now).2.2 ∧ ((matchL (sweep l now) p q now).2.2 = true → now < (matchL (sweep l now) p q now).2.1.dead) := by
  constructor
  · rcases match_ways l p q now with ⟨h, e⟩ | ⟨i, hi, h1, _, e⟩
    · rw [e, match_none (l := sweep l now) (fun x hx => h x (List.mem_filter.1 hx).1)]
    · rw [e]
      rcases match_ways (sweep l now) p q now with ⟨h, _⟩ | ⟨_, _, _, _, e2⟩
      · have hd : now < l[i].dead := by unfold hit at h1; simp only [Bool.and_eq_true, decide_eq_true_eq] at h1; exact h1.2.2
        have := h l[i] (List.mem_filter.2 ⟨List.getElem_mem _, decide_eq_true hd⟩)
        rw [h1] at this; cases this
      · rw [e2]
  · intro hw
    rcases match_ways (sweep l now) p q now with ⟨_, e⟩ | ⟨i, hi, _, _, e⟩
    · rw [e] at hw; cases hw
    · rw [e]; exact sweep_mem (List.getElem_mem _)
theorem grant_none (l : List Ho) (x : Ho) : (grant l x 0).2 ≠ 0 := by
  rcases grant_ways l x 0 with ⟨_, e⟩ | ⟨_, _, e⟩ | ⟨_, _, h, _⟩
  · rw [e]; decide
  · rw [e]; decide
  · omega

#print axioms swept_match
#print axioms fine_less
#print axioms other_match
end Go.Proofs.Ytaahghjllfkmaaa.Hl
