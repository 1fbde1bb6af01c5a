/- Plain facts on paths (layer 10): a path's parts, where an argument leads, what is below what. No program in this text. -/
import Derived.Test.YtojpahnfhhbnoaaDoorCmdPlain
import Derived.Test.YtojpahnfhhbnoaaDoorQuadPlain
namespace Go.Proofs.YtojpahnfhhbnoaaDoor.Pt
open Go Go.Proofs.YtojpahnfhhbnoaaDoor.Cm Go.Proofs.YtojpahnfhhbnoaaDoor.Quad
set_option maxRecDepth 100000

abbrev Ps := List (List UInt8)
def okP (p : List UInt8) : Bool := (p != []) && ((p != [46]) && (p != [46, 46]))
def parts (s : List UInt8) : Ps := if s.length < 2 then [] else cutL 47 (s.drop 1)
def slash (s : List UInt8) : Bool := s.head? == some 47
def mayP (s : List UInt8) : Bool := clean s && (decide (s.length ≤ 200) && (slash s && (parts s).all okP))
def step (l : Ps) (p : List UInt8) : Ps := if p == [] || p == [46] then l else if p == [46, 46] then l.dropLast else l ++ [p]
def start (cwd arg : List UInt8) : Ps := if slash arg then [] else parts cwd
def lead (cwd arg : List UInt8) : Ps := (cutL 47 arg).foldl step (start cwd arg)
def whole (l : Ps) : List UInt8 := l.flatMap (47 :: ·)
def pathOf (l : Ps) : List UInt8 := if whole l == [] then [47] else whole l
def join (cwd arg : List UInt8) : List UInt8 × Int :=
  if mayP cwd then (if clean arg then (if (pathOf (lead cwd arg)).length ≤ 200 then (pathOf (lead cwd arg), 0) else ([], 5)) else ([], 2)) else ([], 1)
def under (top s : List UInt8) : Bool := mayP top && (mayP s && (parts top).isPrefixOf (parts s))

/-! cutting and putting together -/
theorem cut_append (c : UInt8) (b : List UInt8) : ∀ (a : List UInt8), cutL c (a ++ c :: b) = cutL c a ++ cutL c b
  | [] => by simp [cutL]
  | x :: a => by
    have ih := cut_append c b a
    by_cases h : x = c
    · simp only [List.cons_append, cutL, if_pos h, ih]
    · simp only [List.cons_append, cutL, if_neg h, ih]
      cases hc : cutL c a with
      | nil => exact absurd hc (cutL_ne c a)
      | cons q t => rfl
theorem whole_cut : ∀ (r : List UInt8), whole (cutL 47 r) = 47 :: r
  | [] => rfl
  | b :: r => by
    have ih := whole_cut r
    by_cases h : b = 47
    · simp only [cutL, if_pos h]
      show 47 :: ([] ++ whole (cutL 47 r)) = _
      rw [ih, h]; rfl
    · simp only [cutL, if_neg h]
      cases hc : cutL 47 r with
      | nil => exact absurd hc (cutL_ne 47 r)
      | cons q t =>
        rw [hc] at ih
        show 47 :: ((b :: q) ++ whole t) = _
        have : 47 :: (q ++ whole t) = 47 :: r := ih
        rw [List.cons_append, (List.cons.inj this).2]
theorem whole_nil : whole [] = [] := rfl
theorem whole_cons (p : List UInt8) (l : Ps) : whole (p :: l) = 47 :: (p ++ whole l) := rfl
theorem whole_append (l m : Ps) : whole (l ++ m) = whole l ++ whole m := List.flatMap_append
theorem whole_one (p : List UInt8) : whole [p] = 47 :: p := by simp [whole]
theorem whole_ne {l : Ps} (h : l ≠ []) : whole l ≠ [] := by
  cases l with
  | nil => exact absurd rfl h
  | cons p l => rw [whole_cons]; exact List.cons_ne_nil _ _
theorem pathOf_nil : pathOf [] = [47] := rfl
theorem pathOf_ne {l : Ps} (h : l ≠ []) : pathOf l = whole l := by
  unfold pathOf; rw [if_neg]; rw [beq_iff_eq]; exact whole_ne h
theorem cut_whole : ∀ (p : List UInt8) (l : Ps), (∀ q ∈ p :: l, (47 : UInt8) ∉ q) → cutL 47 (p ++ whole l) = p :: l
  | p, [], h => by rw [whole_nil, List.append_nil]; exact cutL_whole (h p (by simp))
  | p, q :: l, h => by
    rw [whole_cons, cutL_at _ (h p (by simp)), cut_whole q l (fun x hx => h x (List.mem_cons_of_mem _ hx))]

/-! parts that may be -/
structure Good (l : Ps) : Prop where
  ok : ∀ p ∈ l, okP p = true
  free : ∀ p ∈ l, (47 : UInt8) ∉ p
  clean : ∀ p ∈ l, Cm.clean p = true
theorem okP_iff (p : List UInt8) : okP p = true ↔ p ≠ [] ∧ p ≠ [46] ∧ p ≠ [46, 46] := by
  unfold okP; simp [bne_iff_ne]
theorem Good.nil : Good [] := ⟨fun _ h => (by cases h), fun _ h => (by cases h), fun _ h => (by cases h)⟩
theorem Good.append {l m : Ps} (h : Good l) (k : Good m) : Good (l ++ m) :=
  ⟨fun p hp => (List.mem_append.1 hp).elim (h.ok p) (k.ok p), fun p hp => (List.mem_append.1 hp).elim (h.free p) (k.free p), fun p hp => (List.mem_append.1 hp).elim (h.clean p) (k.clean p)⟩
theorem Good.sub {l m : Ps} (h : Good l) (hs : ∀ p ∈ m, p ∈ l) : Good m := ⟨fun p hp => h.ok p (hs p hp), fun p hp => h.free p (hs p hp), fun p hp => h.clean p (hs p hp)⟩
theorem Good.dropLast {l : Ps} (h : Good l) : Good l.dropLast := h.sub fun _ hp => (List.dropLast_sublist l).subset hp
theorem cut_clean : ∀ (s : List UInt8), clean s = true → ∀ p ∈ cutL 47 s, clean p = true
  | [], _, p, hp => by simp only [cutL, List.mem_singleton] at hp; subst hp; rfl
  | b :: r, h, p, hp => by
    rw [clean_cons, Bool.and_eq_true] at h
    have ih := cut_clean r h.2
    simp only [cutL] at hp
    split at hp
    · rcases List.mem_cons.1 hp with rfl | hp
      · rfl
      · exact ih p hp
    · split at hp
      · rename_i q t e
        rw [e] at ih
        rcases List.mem_cons.1 hp with rfl | hp
        · rw [clean_cons, h.1, ih q (by simp)]; rfl
        · exact ih p (by simp [hp])
      · rename_i e; exact absurd e (cutL_ne 47 r)
structure MayP (s : List UInt8) : Prop where
  clean : Cm.clean s = true
  short : s.length ≤ 200
  slash : slash s = true
  ok : ∀ p ∈ parts s, okP p = true
theorem may_parts {s : List UInt8} (h : mayP s = true) : MayP s := by
  unfold mayP at h
  simp only [Bool.and_eq_true, decide_eq_true_eq, List.all_eq_true] at h
  exact ⟨h.1, h.2.1, h.2.2.1, h.2.2.2⟩
theorem may_of {s : List UInt8} (h : MayP s) : mayP s = true := by
  unfold mayP
  simp only [Bool.and_eq_true, decide_eq_true_eq, List.all_eq_true]
  exact ⟨h.clean, h.short, h.slash, h.ok⟩
theorem slash_form {s : List UInt8} (h : slash s = true) : ∃ r, s = 47 :: r := by
  unfold slash at h
  cases s with
  | nil => simp at h
  | cons b r => exact ⟨r, by simp at h; rw [h]⟩
theorem parts_slash (r : List UInt8) : parts (47 :: r) = if r = [] then [] else cutL 47 r := by
  unfold parts
  cases r with
  | nil => rfl
  | cons b r => rw [if_neg (by simp), if_neg (by simp)]; rfl
theorem good_parts {s : List UInt8} (h : mayP s = true) : Good (parts s) := by
  have m := may_parts h
  obtain ⟨r, rfl⟩ := slash_form m.slash
  have hc := m.clean
  rw [clean_cons, Bool.and_eq_true] at hc
  refine ⟨m.ok, ?_, ?_⟩
  · intro p hp
    rw [parts_slash] at hp
    split at hp
    · cases hp
    · exact cutL_free 47 r p hp
  · intro p hp
    rw [parts_slash] at hp
    split at hp
    · cases hp
    · exact cut_clean r hc.2 p hp
/-- a path that may be is what its parts make -/
theorem path_parts {s : List UInt8} (h : slash s = true) : pathOf (parts s) = s := by
  obtain ⟨r, rfl⟩ := slash_form h
  rw [parts_slash]
  split
  · rename_i e; subst e; rfl
  · rw [pathOf_ne (cutL_ne 47 r), whole_cut]
theorem parts_path {l : Ps} (h : Good l) : parts (pathOf l) = l := by
  cases l with
  | nil => rfl
  | cons p l =>
    rw [pathOf_ne (by simp), whole_cons, parts_slash, if_neg]
    · exact cut_whole p l h.free
    · intro e
      have hp := (okP_iff p).1 (h.ok p (by simp))
      exact hp.1 (List.append_eq_nil_iff.1 e).1
theorem clean_whole {l : Ps} (h : Good l) : clean (whole l) = true := by
  induction l with
  | nil => rfl
  | cons p l ih =>
    rw [whole_cons, clean_cons, clean_append, h.clean p (by simp), ih (h.sub (by simp +contextual))]
    rfl
theorem slash_path (l : Ps) : slash (pathOf l) = true := by
  cases l with
  | nil => rfl
  | cons p l => rw [pathOf_ne (by simp), whole_cons]; rfl
theorem may_path {l : Ps} (h : Good l) (hl : (pathOf l).length ≤ 200) : mayP (pathOf l) = true := by
  refine may_of ⟨?_, hl, slash_path l, ?_⟩
  · cases l with
    | nil => rfl
    | cons p l => rw [pathOf_ne (by simp)]; exact clean_whole h
  · rw [parts_path h]; exact h.ok

/-! where an argument leads -/
theorem step_good {l : Ps} {p : List UInt8} (h : Good l) (hf : (47 : UInt8) ∉ p) (hc : clean p = true) : Good (step l p) := by
  unfold step
  split
  · exact h
  · rename_i h1
    split
    · exact h.dropLast
    · rename_i h2
      refine h.append ⟨?_, ?_, ?_⟩ <;> (intro q hq; rw [List.mem_singleton] at hq; subst hq)
      · rw [okP_iff]
        simp only [Bool.or_eq_true, beq_iff_eq, not_or] at h1 h2
        exact ⟨h1.1, h1.2, h2⟩
      · exact hf
      · exact hc
theorem steps_good : ∀ (m : Ps) (l : Ps), Good l → (∀ p ∈ m, (47 : UInt8) ∉ p) → (∀ p ∈ m, clean p = true) → Good (m.foldl step l)
  | [], _, h, _, _ => h
  | p :: m, l, h, hf, hc => steps_good m (step l p) (step_good h (hf p (by simp)) (hc p (by simp))) (fun q hq => hf q (by simp [hq])) (fun q hq => hc q (by simp [hq]))
theorem start_good {cwd arg : List UInt8} (h : mayP cwd = true) : Good (start cwd arg) := by
  unfold start; split
  · exact Good.nil
  · exact good_parts h
theorem lead_good {cwd arg : List UInt8} (h : mayP cwd = true) (hc : clean arg = true) : Good (lead cwd arg) :=
  steps_good _ _ (start_good h) (cutL_free 47 arg) (cut_clean arg hc)
theorem step_ok {l : Ps} {p : List UInt8} (h : okP p = true) : step l p = l ++ [p] := by
  rw [okP_iff] at h
  unfold step
  rw [if_neg (by simp [h.1, h.2.1]), if_neg (by simp [h.2.2])]
theorem steps_ok : ∀ (m l : Ps), (∀ p ∈ m, okP p = true) → m.foldl step l = l ++ m
  | [], l, _ => by simp
  | p :: m, l, h => by
    rw [List.foldl_cons, step_ok (h p (by simp)), steps_ok m _ (fun q hq => h q (by simp [hq]))]
    simp
theorem step_none (l : Ps) : step l [] = l := rfl
theorem step_dot (l : Ps) : step l [46] = l := rfl
theorem step_up (l : Ps) : step l [46, 46] = l.dropLast := rfl

/-! join -/
theorem join_arg {cwd arg : List UInt8} (h : mayP cwd = false) : join cwd arg = ([], 1) := by unfold join; rw [h]; rfl
theorem join_form {cwd arg : List UInt8} (h : mayP cwd = true) (hc : clean arg = false) : join cwd arg = ([], 2) := by unfold join; rw [h, hc]; rfl
theorem join_over {cwd arg : List UInt8} (h : mayP cwd = true) (hc : clean arg = true) (hl : ¬ (pathOf (lead cwd arg)).length ≤ 200) : join cwd arg = ([], 5) := by unfold join; rw [h, hc, if_pos rfl, if_pos rfl, if_neg hl]
theorem join_ok {cwd arg : List UInt8} (h : mayP cwd = true) (hc : clean arg = true) (hl : (pathOf (lead cwd arg)).length ≤ 200) : join cwd arg = (pathOf (lead cwd arg), 0) := by unfold join; rw [h, hc, if_pos rfl, if_pos rfl, if_pos hl]
structure Led (cwd arg : List UInt8) : Prop where
  may : mayP cwd = true
  clean : Cm.clean arg = true
  short : (pathOf (lead cwd arg)).length ≤ 200
  eq : join cwd arg = (pathOf (lead cwd arg), 0)
theorem led {cwd arg : List UInt8} (h : (join cwd arg).2 = 0) : Led cwd arg := by
  cases hm : mayP cwd with
  | false => rw [join_arg hm] at h; cases h
  | true =>
    cases hc : clean arg with
    | false => rw [join_form hm hc] at h; cases h
    | true =>
      by_cases hl : (pathOf (lead cwd arg)).length ≤ 200
      · exact ⟨hm, hc, hl, join_ok hm hc hl⟩
      · rw [join_over hm hc hl] at h; cases h
theorem join_err {cwd arg : List UInt8} (h : (join cwd arg).2 ≠ 0) : (join cwd arg).1 = [] := by
  unfold join at h ⊢
  split
  · split
    · split
      · rename_i h1 h2 h3; rw [if_pos h1, if_pos h2, if_pos h3] at h; exact absurd rfl h
      · rfl
    · rfl
  · rfl
theorem Led.good {cwd arg : List UInt8} (h : Led cwd arg) : Good (lead cwd arg) := lead_good h.may h.clean
theorem Led.mayP {cwd arg : List UInt8} (h : Led cwd arg) : mayP (join cwd arg).1 = true := by rw [h.eq]; exact may_path h.good h.short
theorem Led.parts {cwd arg : List UInt8} (h : Led cwd arg) : parts (join cwd arg).1 = lead cwd arg := by rw [h.eq]; exact parts_path h.good

/-- what leads to the parts of a path that may be -/
theorem join_to {cwd arg s : List UInt8} (h : mayP cwd = true) (hc : clean arg = true) (hs : mayP s = true) (hl : lead cwd arg = parts s) : join cwd arg = (s, 0) := by
  have e : pathOf (lead cwd arg) = s := by rw [hl]; exact path_parts (may_parts hs).slash
  rw [join_ok h hc (by rw [e]; exact (may_parts hs).short), e]
theorem may_root : mayP [47] = true := by decide
theorem parts_root : parts [47] = [] := rfl
theorem cut_slash (r : List UInt8) : cutL 47 (47 :: r) = [] :: cutL 47 r := by simp [cutL]
/-- a path that may be leads to itself, from wherever -/
theorem lead_self {cwd s : List UInt8} (hs : mayP s = true) : lead cwd s = parts s := by
  have m := may_parts hs
  obtain ⟨r, rfl⟩ := slash_form m.slash
  unfold lead start
  rw [m.slash, if_pos rfl, cut_slash, List.foldl_cons, step_none]
  have ho := m.ok
  rw [parts_slash] at ho ⊢
  by_cases hr : r = []
  · subst hr; rfl
  · rw [if_neg hr] at ho ⊢
    rw [steps_ok _ _ ho]; rfl
theorem join_self {cwd s : List UInt8} (h : mayP cwd = true) (hs : mayP s = true) : join cwd s = (s, 0) :=
  join_to h (may_parts hs).clean hs (lead_self hs)
theorem join_none {s : List UInt8} (hs : mayP s = true) : join s [] = (s, 0) := join_to hs rfl hs rfl
theorem join_dot {s : List UInt8} (hs : mayP s = true) : join s [46] = (s, 0) := join_to hs rfl hs rfl

/-- an argument that goes on behind a stroke -/
theorem slash_append {a b : List UInt8} (ha : a ≠ []) : slash (a ++ b) = slash a := by
  cases a with
  | nil => exact absurd rfl ha
  | cons x a => rfl
theorem lead_append {cwd a b : List UInt8} (ha : a ≠ []) : lead cwd (a ++ 47 :: b) = (cutL 47 b).foldl step (lead cwd a) := by
  unfold lead start
  rw [slash_append ha, cut_append, List.foldl_append]
theorem clean_slash (a b : List UInt8) : clean (a ++ 47 :: b) = (clean a && clean b) := by
  rw [clean_append, clean_cons]; rfl
theorem self_dot {cwd arg : List UInt8} (h : mayP cwd = true) (ha : mayP arg = true) : join cwd (arg ++ [47, 46]) = (arg, 0) := by
  have m := may_parts ha
  refine join_to h ?_ ha ?_
  · rw [clean_slash, m.clean]; rfl
  · obtain ⟨r, rfl⟩ := slash_form m.slash
    rw [lead_append (by simp), lead_self ha]; rfl

/-! one part more -/
structure Part (p : List UInt8) : Prop where
  ok : okP p = true
  free : (47 : UInt8) ∉ p
  clean : Cm.clean p = true
theorem part_of {p : List UInt8} (hm : mayP (47 :: p) = true) (hn : p ≠ []) (hf : (47 : UInt8) ∉ p) : Part p := by
  have m := may_parts hm
  have hp := m.ok
  rw [parts_slash, if_neg hn, cutL_whole hf] at hp
  have hc := m.clean
  rw [clean_cons, Bool.and_eq_true] at hc
  exact ⟨hp p (by simp), hf, hc.2⟩
theorem part_slash {p : List UInt8} (h : Part p) : slash p = false := by
  cases p with
  | nil => rfl
  | cons b r =>
    unfold slash
    have hb : b ≠ 47 := fun e => h.free (by rw [e]; simp)
    simpa using hb
theorem lead_part {cwd p : List UInt8} (h : Part p) : lead cwd p = parts cwd ++ [p] := by
  unfold lead start
  rw [part_slash h, if_neg (by decide), cutL_whole h.free, List.foldl_cons, List.foldl_nil, step_ok h.ok]
theorem part_ne {p : List UInt8} (h : Part p) : p ≠ [] := ((okP_iff p).1 h.ok).1
theorem join_back {cwd p : List UInt8} (hm : mayP cwd = true) (h : Part p) : join cwd (p ++ [47, 46, 46]) = (cwd, 0) := by
  refine join_to hm ?_ hm ?_
  · rw [clean_slash, h.clean]; rfl
  · rw [lead_append (part_ne h), lead_part h]
    show (cutL 47 [46, 46]).foldl step _ = _
    rw [show cutL 47 ([46, 46] : List UInt8) = [[46, 46]] from rfl, List.foldl_cons, List.foldl_nil, step_up, List.dropLast_concat]
theorem join_up {s cwd : List UInt8} {p : List UInt8} (hs : mayP s = true) (hm : mayP cwd = true) (hp : parts s = parts cwd ++ [p]) : join s [46, 46] = (cwd, 0) := by
  refine join_to hs rfl hm ?_
  unfold lead start
  rw [if_neg (by decide), show cutL 47 ([46, 46] : List UInt8) = [[46, 46]] from rfl, List.foldl_cons, List.foldl_nil, step_up, hp, List.dropLast_concat]
theorem path_len (l : Ps) (p : List UInt8) (h : whole l ≠ []) : (pathOf (l ++ [p])).length = (pathOf l).length + p.length + 1 := by
  have hl : l ≠ [] := fun e => h (by rw [e]; rfl)
  rw [pathOf_ne (by simp), pathOf_ne hl, whole_append, whole_one, List.length_append, List.length_cons]; omega
/-- a part more leads too far just where it is too long -/
theorem part_over {cwd p : List UInt8} (hm : mayP cwd = true) (h : Part p) (hp : mayP (47 :: p) = true) (he : (join cwd p).2 ≠ 0) : (join cwd p).2 = 5 ∧ 200 ≤ cwd.length + p.length := by
  by_cases hl : (pathOf (lead cwd p)).length ≤ 200
  · rw [join_ok hm h.clean hl] at he; exact absurd rfl he
  · refine ⟨by rw [join_over hm h.clean hl], ?_⟩
    rw [lead_part h] at hl
    have hc := path_parts (may_parts hm).slash
    by_cases hw : parts cwd = []
    · rw [hw, List.nil_append, pathOf_ne (by simp), whole_one] at hl
      exact absurd (may_parts hp).short hl
    · rw [path_len _ _ (whole_ne hw), hc] at hl
      omega
theorem up_root : join [47] [46, 46] = ([47], 0) := by decide

/-! below -/
theorem under_may {a b : List UInt8} (ha : mayP a = true) (hb : mayP b = true) : under a b = (parts a).isPrefixOf (parts b) := by unfold under; rw [ha, hb]; rfl
theorem under_no {a b : List UInt8} (ha : mayP a = false) : under a b = false ∧ under b a = false := by
  unfold under; rw [ha]; simp
theorem under_parts {a b : List UInt8} (h : under a b = true) : mayP a = true ∧ mayP b = true ∧ parts a <+: parts b := by
  unfold under at h
  simp only [Bool.and_eq_true, List.isPrefixOf_iff_prefix] at h
  exact h
theorem under_of {a b : List UInt8} (ha : mayP a = true) (hb : mayP b = true) (h : parts a <+: parts b) : under a b = true := by
  unfold under; rw [ha, hb]; simp [h]
theorem under_root {a : List UInt8} (ha : mayP a = true) : under [47] a = true := under_of may_root ha (by rw [parts_root]; exact List.nil_prefix)
theorem under_self {a : List UInt8} (ha : mayP a = true) : under a a = true := under_of ha ha (List.prefix_refl _)
theorem under_trans {a b c : List UInt8} (h : under a b = true) (k : under b c = true) : under a c = true := by
  obtain ⟨h1, h2, h3⟩ := under_parts h
  obtain ⟨_, k2, k3⟩ := under_parts k
  exact under_of h1 k2 (h3.trans k3)
theorem parts_inj {a b : List UInt8} (ha : mayP a = true) (hb : mayP b = true) (h : parts a = parts b) : a = b := by
  rw [← path_parts (may_parts ha).slash, ← path_parts (may_parts hb).slash, h]
theorem under_both {a b : List UInt8} (h : under a b = true) (k : under b a = true) : a = b := by
  obtain ⟨h1, h2, h3⟩ := under_parts h
  obtain ⟨_, _, k3⟩ := under_parts k
  exact parts_inj h1 h2 (h3.eq_of_length (Nat.le_antisymm h3.length_le k3.length_le))

/-! PathTwice -/
theorem twice_slash {s b : List UInt8} (hb : slash b = true) (h : (join s b).2 = 0) : join [47] b = join s b := by
  have m := led h
  have e : lead [47] b = lead s b := by unfold lead start; rw [hb, if_pos rfl, if_pos rfl]
  rw [m.eq, join_ok may_root m.clean (by rw [e]; exact m.short), e]
theorem twice_none {cwd : List UInt8} (h : (join cwd []).2 = 0) : (join cwd []).1 = cwd := by
  rw [join_none (led h).may]
theorem twice_more {cwd a b : List UInt8} (ha : a ≠ []) (hb : slash b = false) (h : (join cwd a).2 = 0) (k : (join (join cwd a).1 b).2 = 0) : join cwd (a ++ 47 :: b) = join (join cwd a).1 b := by
  have m := led h
  have n := led k
  have e : lead cwd (a ++ 47 :: b) = lead (join cwd a).1 b := by
    rw [lead_append ha]
    conv => rhs; unfold lead start
    rw [hb, if_neg (by decide), m.parts]
  rw [n.eq, join_ok m.may (by rw [clean_slash, m.clean, n.clean]; rfl) (by rw [e]; exact n.short), e]

/-! PathDown -/
theorem down_slash {cwd a : List UInt8} (ha : a ≠ []) : join cwd (a ++ [47]) = join cwd a := by
  have e : lead cwd (a ++ [47]) = lead cwd a := by rw [lead_append ha]; rfl
  have hc : clean (a ++ [47]) = clean a := by rw [clean_slash]; simp [clean]
  unfold join
  rw [hc, e]
theorem nodot_steps : ∀ (m l : Ps), (∀ p ∈ m, (46 : UInt8) ∉ p) → l <+: m.foldl step l
  | [], l, _ => List.prefix_refl l
  | p :: m, l, h => by
    have hp := h p (by simp)
    have h1 : l <+: step l p := by
      unfold step
      split
      · exact List.prefix_refl l
      · split
        · rename_i h2
          rw [beq_iff_eq] at h2
          exact absurd (by rw [h2]; simp) hp
        · exact List.prefix_append _ _
    exact h1.trans (nodot_steps m _ (fun q hq => h q (by simp [hq])))
theorem cut_sub : ∀ (s : List UInt8) (p : List UInt8), p ∈ cutL 47 s → ∀ c ∈ p, c ∈ s
  | [], p, hp, c, hc => by simp only [cutL, List.mem_singleton] at hp; subst hp; exact hc
  | b :: r, p, hp, c, hc => by
    have ih := cut_sub r
    simp only [cutL] at hp
    split at hp
    · rcases List.mem_cons.1 hp with rfl | hp
      · cases hc
      · exact List.mem_cons_of_mem _ (ih p hp c hc)
    · split at hp
      · rename_i q t e
        rw [e] at ih
        rcases List.mem_cons.1 hp with rfl | hp
        · rcases List.mem_cons.1 hc with rfl | hc
          · simp
          · exact List.mem_cons_of_mem _ (ih q (by simp) c hc)
        · exact List.mem_cons_of_mem _ (ih p (by simp [hp]) c hc)
      · rename_i e; exact absurd e (cutL_ne 47 r)
theorem down_under {cwd a : List UInt8} (hd : (46 : UInt8) ∉ a) (hs : slash a = false) (h : (join cwd a).2 = 0) : under cwd (join cwd a).1 = true := by
  have m := led h
  refine under_of m.may m.mayP ?_
  rw [m.parts]
  unfold lead start
  rw [hs, if_neg (by decide)]
  exact nodot_steps _ _ (fun p hp hc => hd (cut_sub a p hp _ hc))

/-! PathLong -/
def longP (n : Nat) : List UInt8 := 47 :: List.replicate (n - 1) 120
theorem clean_x (k : Nat) : clean (List.replicate k 120) = true := by
  refine List.all_eq_true.2 fun c hc => ?_
  rw [List.eq_of_mem_replicate hc]; rfl
theorem free_x (k : Nat) : (47 : UInt8) ∉ List.replicate k 120 := fun h => absurd (List.eq_of_mem_replicate h) (by decide)
theorem okP_x {k : Nat} (h : 0 < k) : okP (List.replicate k 120) = true := by
  rw [okP_iff]
  cases k with
  | zero => omega
  | succ k => rw [List.replicate_succ]; simp
theorem parts_long {n : Nat} (h : 1 ≤ n) : parts (longP n) = if n = 1 then [] else [List.replicate (n - 1) 120] := by
  unfold longP
  rw [parts_slash]
  by_cases h1 : n = 1
  · subst h1; rfl
  · rw [if_neg h1, if_neg, cutL_whole (free_x _)]
    rw [List.replicate_eq_nil_iff]; omega
theorem may_long {n : Nat} (h : 1 ≤ n) : mayP (longP n) = decide (n ≤ 200) := by
  by_cases hn : n ≤ 200
  · rw [decide_eq_true hn]
    refine may_of ⟨?_, ?_, rfl, ?_⟩
    · unfold longP; rw [clean_cons, clean_x]; rfl
    · unfold longP; rw [List.length_cons, List.length_replicate]; omega
    · rw [parts_long h]
      split
      · intro p hp; cases hp
      · intro p hp; rw [List.mem_singleton] at hp; subst hp; exact okP_x (by omega)
  · rw [decide_eq_false hn]
    cases hc : mayP (longP n) with
    | false => rfl
    | true =>
      have := (may_parts hc).short
      unfold longP at this
      rw [List.length_cons, List.length_replicate] at this
      omega
theorem join_long {n : Nat} (h : 1 ≤ n) : (join (longP n) [121]).2 = if n ≤ 200 then (if n = 1 ∨ n + 2 ≤ 200 then 0 else 5) else 1 := by
  have hp : Part [121] := ⟨by decide, by decide, by decide⟩
  by_cases hn : n ≤ 200
  · rw [if_pos hn]
    have hm : mayP (longP n) = true := by rw [may_long h, decide_eq_true hn]
    have hl : (pathOf (lead (longP n) [121])).length = if n = 1 then 2 else n + 2 := by
      rw [lead_part hp, parts_long h]
      by_cases h1 : n = 1
      · rw [if_pos h1, if_pos h1]; rfl
      · rw [if_neg h1, if_neg h1, pathOf_ne (by simp), List.singleton_append, whole_cons, whole_one]
        simp; omega
    by_cases h1 : n = 1
    · rw [if_pos h1] at hl
      rw [if_pos (Or.inl h1), join_ok hm rfl (by omega)]
    · rw [if_neg h1] at hl
      by_cases h2 : n + 2 ≤ 200
      · rw [if_pos (Or.inr h2), join_ok hm rfl (by omega)]
      · rw [if_neg (by omega), join_over hm rfl (by omega)]
  · rw [if_neg hn, join_arg (by rw [may_long h, decide_eq_false hn])]

#print axioms join_self
#print axioms part_over
#print axioms twice_more
#print axioms down_under
#print axioms join_long
end Go.Proofs.YtojpahnfhhbnoaaDoor.Pt
