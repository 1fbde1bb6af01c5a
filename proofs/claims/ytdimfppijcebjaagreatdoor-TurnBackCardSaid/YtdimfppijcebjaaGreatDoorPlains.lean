/- VerbPlain, CmdPlain, QuadPlain, QuadFacts, SixPlain, SixFacts, ExtPlain, ExtFacts, ReplyPlain, TurnPlain, in one text. -/
import Derived.Lib.ItoaNum
import Derived.Lib.Atoi
import Derived.Lib.AtoiBound
import Derived.Lib.Split
import Derived.Lib.SplitLaws
import Derived.Lib.Join
import Derived.Lib.IndexMore
import Derived.Lib.Strings

/- Plain facts on the verbs (layer 7): the table, names in great letters, who is found. No program in this text. -/
namespace Go.Proofs.YtdimfppijcebjaaGreatDoor.Vb

structure Vb where
  name : List UInt8
  kind : Int
  arg : Int
  path : Bool
deriving DecidableEq
def noVb : Vb := ⟨[], 0, 0, false⟩
def verbs : List Vb := [
  ⟨[65, 66, 79, 82], 9, 0, false⟩,
  ⟨[65, 67, 67, 84], 0, 2, false⟩,
  ⟨[65, 76, 76, 79], 1, 2, false⟩,
  ⟨[65, 80, 80, 69], 3, 2, true⟩,
  ⟨[67, 68, 85, 80], 2, 0, false⟩,
  ⟨[67, 87, 68], 2, 2, true⟩,
  ⟨[68, 69, 76, 69], 1, 2, true⟩,
  ⟨[69, 80, 82, 84], 5, 2, false⟩,
  ⟨[69, 80, 83, 86], 4, 0, false⟩,
  ⟨[70, 69, 65, 84], 1, 0, false⟩,
  ⟨[72, 69, 76, 80], 1, 1, false⟩,
  ⟨[76, 73, 83, 84], 3, 1, true⟩,
  ⟨[77, 68, 84, 77], 1, 2, true⟩,
  ⟨[77, 75, 68], 1, 2, true⟩,
  ⟨[77, 76, 83, 68], 3, 1, true⟩,
  ⟨[77, 76, 83, 84], 1, 1, true⟩,
  ⟨[77, 79, 68, 69], 1, 2, false⟩,
  ⟨[78, 76, 83, 84], 3, 1, true⟩,
  ⟨[78, 79, 79, 80], 1, 0, false⟩,
  ⟨[80, 65, 83, 83], 0, 1, false⟩,
  ⟨[80, 65, 83, 86], 4, 0, false⟩,
  ⟨[80, 79, 82, 84], 5, 2, false⟩,
  ⟨[80, 87, 68], 1, 0, false⟩,
  ⟨[81, 85, 73, 84], 10, 0, false⟩,
  ⟨[82, 69, 83, 84], 8, 2, false⟩,
  ⟨[82, 69, 84, 82], 3, 2, true⟩,
  ⟨[82, 77, 68], 1, 2, true⟩,
  ⟨[82, 78, 70, 82], 6, 2, true⟩,
  ⟨[82, 78, 84, 79], 7, 2, true⟩,
  ⟨[83, 73, 90, 69], 1, 2, true⟩,
  ⟨[83, 84, 65, 84], 1, 1, true⟩,
  ⟨[83, 84, 79, 82], 3, 2, true⟩,
  ⟨[83, 84, 82, 85], 1, 2, false⟩,
  ⟨[83, 89, 83, 84], 1, 0, false⟩,
  ⟨[84, 89, 80, 69], 1, 2, false⟩,
  ⟨[85, 83, 69, 82], 0, 2, false⟩]
def upB (c : UInt8) : UInt8 := if 97 ≤ c.toNat ∧ c.toNat ≤ 122 then UInt8.ofNat (c.toNat - 32) else c
def upper (l : List UInt8) : List UInt8 := l.map upB
def hasIn (vs : List Vb) (n : List UInt8) : Vb × Bool := match vs.find? (fun v => v.name == n) with
  | some v => (v, true)
  | none => (noVb, false)
/-- who has this name -/
def has (n : List UInt8) : Vb × Bool := hasIn verbs n
def found (s : List UInt8) : Vb × Bool := has (upper s)

theorem verbs_len : verbs.length = 36 := rfl
set_option maxRecDepth 100000 in
theorem up_up (c : UInt8) : upB (upB c) = upB c := by
  have h : ∀ n : Fin 256, upB (upB (UInt8.ofNat n.val)) = upB (UInt8.ofNat n.val) := by decide
  have := h ⟨c.toNat, UInt8.toNat_lt c⟩
  simpa using this
theorem upper_upper (l : List UInt8) : upper (upper l) = upper l := by
  unfold upper
  rw [List.map_map]
  exact List.map_congr_left (fun c _ => up_up c)
set_option maxRecDepth 100000 in
theorem up_not (c : UInt8) : ¬ (97 ≤ (upB c).toNat ∧ (upB c).toNat ≤ 122) := by
  have h : ∀ n : Fin 256, ¬ (97 ≤ (upB (UInt8.ofNat n.val)).toNat ∧ (upB (UInt8.ofNat n.val)).toNat ≤ 122) := by decide
  have := h ⟨c.toNat, UInt8.toNat_lt c⟩
  simpa using this
theorem upper_length (l : List UInt8) : (upper l).length = l.length := by simp [upper]
theorem upper_take (l : List UInt8) (n : Nat) : upper (l.take n) = (upper l).take n := by unfold upper; rw [List.map_take]
theorem found_upper (s : List UInt8) : found (upper s) = found s := by unfold found; rw [upper_upper]
/-- who is found has the name -/
theorem has_name {n : List UInt8} (h : (has n).2 = true) : (has n).1.name = n := by
  unfold has hasIn at h ⊢
  split
  · rename_i v hv
    have := List.find?_some hv
    simpa using this
  · rename_i hv; rw [hv] at h; cases h
/-- who is found by a name in great letters has it -/
theorem found_name {n : List UInt8} (hu : upper n = n) (h : (found n).2 = true) : (found n).1.name = n := by
  have := has_name (n := upper n) h
  rw [hu] at this
  unfold found
  rw [hu]; exact this
/-- each of them is found by its name -/
theorem has_each : ∀ v ∈ verbs, has v.name = (v, true) := by decide
theorem up_each : ∀ v ∈ verbs, upper v.name = v.name := by decide
set_option maxRecDepth 100000 in
theorem path_each : ∀ v ∈ verbs, (v.path = true → v.arg ≠ 0) ∧ 0 ≤ v.arg ∧ v.arg ≤ 2 ∧ 0 ≤ v.kind ∧ v.kind < 11 := by decide
theorem len_each : ∀ v ∈ verbs, v.name.length = 3 ∨ v.name.length = 4 := by decide
set_option maxRecDepth 100000 in
theorem kind_each : ∀ v ∈ verbs, (v.kind = 3 → v.path = true ∧ 0 < v.arg) ∧ (v.kind = 4 ∨ v.kind = 9 ∨ v.kind = 10 → v.arg = 0 ∧ v.path = false) ∧ (v.kind = 5 ∨ v.kind = 8 → v.arg = 2 ∧ v.path = false) ∧ (v.kind = 6 ∨ v.kind = 7 → v.arg = 2 ∧ v.path = true) ∧ (v.kind = 0 → v.path = false ∧ 0 < v.arg) := by decide

set_option maxRecDepth 100000 in
theorem kinds_cases : ∀ v ∈ verbs, (v.kind = 0 ∧ v.path = false ∧ 0 < v.arg) ∨ v.kind = 1 ∨ v.kind = 2 ∨ (v.kind = 3 ∧ v.path = true ∧ 0 < v.arg) ∨ (v.kind = 4 ∧ v.path = false ∧ v.arg = 0) ∨ (v.kind = 5 ∧ v.path = false ∧ v.arg = 2) ∨ (v.kind = 6 ∧ v.path = true ∧ v.arg = 2) ∨ (v.kind = 7 ∧ v.path = true ∧ v.arg = 2) ∨ (v.kind = 8 ∧ v.path = false ∧ v.arg = 2) ∨ (v.kind = 9 ∧ v.path = false ∧ v.arg = 0) ∨ (v.kind = 10 ∧ v.path = false ∧ v.arg = 0) := by decide

theorem letters_each : ∀ v ∈ verbs, ∀ c ∈ v.name, 65 ≤ c.toNat ∧ c.toNat ≤ 90 := by decide
set_option maxRecDepth 100000 in
theorem names_apart : ∀ i : Fin 36, ∀ j : Fin 36, i ≠ j → (verbs[i.val]'i.isLt).name ≠ (verbs[j.val]'j.isLt).name := by decide
theorem names_ne {i j : Nat} (hi : i < verbs.length) (hj : j < verbs.length) (h : i ≠ j) : verbs[i].name ≠ verbs[j].name :=
  names_apart ⟨i, hi⟩ ⟨j, hj⟩ (fun e => h (Fin.mk.inj e))
theorem up_big {c : UInt8} (h1 : 65 ≤ c.toNat) (h2 : c.toNat ≤ 90) : (c + 32).toNat = c.toNat + 32 ∧ upB (c + 32) = c := by
  have h : (c + 32).toNat = c.toNat + 32 := by
    rw [UInt8.toNat_add]
    show (c.toNat + 32) % 256 = _
    omega
  refine ⟨h, ?_⟩
  unfold upB
  rw [if_pos (by omega), h]
  apply UInt8.toNat.inj
  rw [UInt8.toNat_ofNat_of_lt' (by show c.toNat + 32 - 32 < 256; omega)]
  omega
theorem up_letter {c : UInt8} (h1 : 65 ≤ c.toNat) (h2 : c.toNat ≤ 90) : upB c = c := by
  unfold upB
  rw [if_neg (by omega)]

/-- the rest of a search: none of the first k has the name -/
theorem has_step {vs : List Vb} {n : List UInt8} {k : Nat} (hk : k < vs.length) (h : vs[k].name ≠ n) : hasIn (vs.drop k) n = hasIn (vs.drop (k + 1)) n := by
  unfold hasIn
  rw [List.drop_eq_getElem_cons hk, List.find?_cons_of_neg (by simpa using h)]
theorem has_hit {vs : List Vb} {n : List UInt8} {k : Nat} (hk : k < vs.length) (h : vs[k].name = n) : hasIn (vs.drop k) n = (vs[k], true) := by
  unfold hasIn
  rw [List.drop_eq_getElem_cons hk, List.find?_cons_of_pos (by simpa using h)]
theorem has_end (vs : List Vb) (n : List UInt8) : hasIn (vs.drop vs.length) n = (noVb, false) := by
  unfold hasIn
  rw [List.drop_length]; rfl

#print axioms has_each
end Go.Proofs.YtdimfppijcebjaaGreatDoor.Vb

/- Plain facts on commands (layer 8): clean bytes, which may be, printed, read. No program in this text. -/
namespace Go.Proofs.YtdimfppijcebjaaGreatDoor.Cm
open Go.Proofs.YtdimfppijcebjaaGreatDoor.Vb

def cleanB (c : UInt8) : Bool := decide (32 ≤ c.toNat ∧ c.toNat ≤ 126)
def clean (l : List UInt8) : Bool := l.all cleanB
def may (v a : List UInt8) : Bool := (found v).2 && ((found v).1.name == v) && clean a && !(decide ((found v).1.arg = 0) && (a != [])) && !(decide ((found v).1.arg = 2) && (a == []))
def line (v a : List UInt8) : List UInt8 := if a = [] then v else v ++ 32 :: a
def print (v a : List UInt8) : List UInt8 × Bool := if may v a then (line v a, true) else ([], false)
/-- what stands ahead of the first blank; what stands behind it -/
def head (s : List UInt8) : List UInt8 := s.takeWhile (fun c => c != 32)
def rest (s : List UInt8) : List UInt8 := s.drop ((head s).length + 1)
def letters (n : List UInt8) : Bool := n.all fun c => decide (65 ≤ c.toNat ∧ c.toNat ≤ 90)
def formed (s : List UInt8) : Bool := clean s && (decide (3 ≤ (head s).length) && (decide ((head s).length ≤ 4) && letters (upper (head s))))
def read (s : List UInt8) : (List UInt8 × List UInt8) × Int :=
  if formed s then (if (found (upper (head s))).2 then (if may (upper (head s)) (rest s) then ((upper (head s), rest s), 0) else (([], []), 1)) else (([], []), 3)) else (([], []), 2)

theorem letters_of {n : List UInt8} (h : letters n = true) : ∀ c ∈ n, 65 ≤ c.toNat ∧ c.toNat ≤ 90 := by
  intro c hc
  have := List.all_eq_true.1 h c hc
  exact of_decide_eq_true this
theorem letters_each : ∀ v ∈ verbs, letters v.name = true := by decide +kernel
theorem no_blank {n : List UInt8} (h : letters n = true) : ∀ c ∈ n, (c != 32) = true := by
  intro c hc
  have := letters_of h c hc
  simp only [bne_iff_ne, ne_eq]
  rintro rfl
  exact absurd this.1 (by decide)
theorem letters_clean {n : List UInt8} (h : letters n = true) : clean n = true := by
  refine List.all_eq_true.2 fun c hc => ?_
  have := letters_of h c hc
  exact decide_eq_true (by omega)
theorem clean_append (a b : List UInt8) : clean (a ++ b) = (clean a && clean b) := List.all_append
theorem clean_cons (c : UInt8) (b : List UInt8) : clean (c :: b) = (cleanB c && clean b) := List.all_cons
theorem head_blank {n a : List UInt8} (h : ∀ c ∈ n, (c != 32) = true) : head (n ++ 32 :: a) = n := by
  unfold head
  rw [List.takeWhile_append_of_pos h]
  simp
theorem head_all {n : List UInt8} (h : ∀ c ∈ n, (c != 32) = true) : head n = n := by
  have := List.takeWhile_append_of_pos (l₂ := []) h
  simpa [head] using this
theorem rest_blank {n a : List UInt8} (h : ∀ c ∈ n, (c != 32) = true) : rest (n ++ 32 :: a) = a := by
  unfold rest
  rw [head_blank h]
  simp [List.drop_append]
theorem rest_all {n : List UInt8} (h : ∀ c ∈ n, (c != 32) = true) : rest n = [] := by
  unfold rest
  rw [head_all h]
  exact List.drop_eq_nil_of_le (by omega)
theorem head_le (s : List UInt8) : (head s).length ≤ s.length := (List.takeWhile_prefix _).length_le
theorem take_head (s : List UInt8) : s.take (head s).length = head s := (List.prefix_iff_eq_take.1 (List.takeWhile_prefix _)).symm
/-- a text is its head, or that, a blank and its rest -/
theorem apart (s : List UInt8) : s = head s ∧ rest s = [] ∨ s = head s ++ 32 :: rest s := by
  unfold rest
  have e := List.takeWhile_append_dropWhile (p := fun c : UInt8 => c != 32) (l := s)
  cases hd : s.dropWhile (fun c => c != 32) with
  | nil =>
    rw [hd, List.append_nil] at e
    left
    have : head s = s := e
    rw [this]
    exact ⟨rfl, List.drop_eq_nil_of_le (by omega)⟩
  | cons c r =>
    right
    have hc : c = 32 := by
      have := List.head?_dropWhile_not (fun c : UInt8 => c != 32) s
      rw [hd] at this
      simpa using this
    subst hc
    have e' : s = head s ++ 32 :: r := by rw [hd] at e; exact e.symm
    have hr : s.drop ((head s).length + 1) = r := by
      have : (head s ++ 32 :: r).drop ((head s).length + 1) = r := by simp [List.drop_append]
      rw [← e'] at this
      exact this
    rw [hr]
    exact e'
theorem may_parts {v a : List UInt8} (h : may v a = true) : ∃ x ∈ verbs, x.name = v ∧ clean a = true ∧ (x.arg = 0 → a = []) ∧ (x.arg = 2 → a ≠ []) := by
  unfold may at h
  simp only [Bool.and_eq_true, Bool.not_eq_true', Bool.and_eq_false_iff, decide_eq_false_iff_not, beq_iff_eq, bne_eq_false_iff_eq, beq_eq_false_iff_ne] at h
  obtain ⟨⟨⟨⟨h1, h2⟩, h3⟩, h4⟩, h5⟩ := h
  refine ⟨(found v).1, ?_, h2, h3, fun e => h4.resolve_left (fun n => n e), fun e => h5.resolve_left (fun n => n e)⟩
  unfold found has hasIn at h1 ⊢
  cases hf : verbs.find? (fun x => x.name == upper v) with
  | none => rw [hf] at h1; cases h1
  | some x => exact List.mem_of_find?_eq_some hf
theorem found_each {x : Vb} (hx : x ∈ verbs) : found x.name = (x, true) := by
  unfold found
  rw [up_each x hx]
  exact has_each x hx
theorem may_each {x : Vb} (hx : x ∈ verbs) (a : List UInt8) : may x.name a = (clean a && !(decide (x.arg = 0) && (a != [])) && !(decide (x.arg = 2) && (a == []))) := by
  unfold may
  rw [found_each hx]
  simp
theorem found_in {v : List UInt8} (h : (found v).2 = true) : ∃ x ∈ verbs, found v = (x, true) ∧ x.name = upper v := by
  unfold found has hasIn at h ⊢
  cases hf : verbs.find? (fun x => x.name == upper v) with
  | none => rw [hf] at h; cases h
  | some x => exact ⟨x, List.mem_of_find?_eq_some hf, rfl, by simpa using List.find?_some hf⟩

/-! what is printed is read -/
theorem read_line {x : Vb} (hx : x ∈ verbs) {n a : List UInt8} (hn : upper n = x.name) (hl : ∀ c ∈ n, (c != 32) = true) (hc : clean n = true) (s : List UInt8) (hs : s = n ∧ a = [] ∨ s = n ++ 32 :: a) :
    read s = if clean a then (if may x.name a then ((x.name, a), 0) else (([], []), 1)) else (([], []), 2) := by
  have hhead : head s = n := by
    rcases hs with ⟨rfl, _⟩ | rfl
    · exact head_all hl
    · exact head_blank hl
  have hrest : rest s = a := by
    rcases hs with ⟨rfl, e⟩ | rfl
    · rw [e]; exact rest_all hl
    · exact rest_blank hl
  have hclean : clean s = clean a := by
    rcases hs with ⟨rfl, rfl⟩ | rfl
    · rw [hc]; rfl
    · rw [clean_append, clean_cons, hc]
      simp [show cleanB 32 = true from by decide]
  have hlen : n.length = x.name.length := by rw [← hn, upper_length]
  have hform : formed s = clean a := by
    unfold formed
    rw [hclean, hhead, hn, letters_each x hx, hlen]
    rcases len_each x hx with h | h <;> simp [h]
  unfold read
  rw [hform, hhead, hrest, hn, found_each hx]
  simp
theorem printed_read {v a : List UInt8} (h : may v a = true) : read (line v a) = ((v, a), 0) ∧ clean (line v a) = true := by
  obtain ⟨x, hx, rfl, hc, _, _⟩ := may_parts h
  have hl := letters_each x hx
  have hs : line x.name a = x.name ∧ a = [] ∨ line x.name a = x.name ++ 32 :: a := by
    unfold line
    by_cases ha : a = []
    · left; rw [if_pos ha]; exact ⟨rfl, ha⟩
    · right; rw [if_neg ha]
  constructor
  · rw [read_line hx (up_each x hx) (no_blank hl) (letters_clean hl) _ hs, if_pos hc, if_pos h]
  · rcases hs with ⟨e, _⟩ | e <;> rw [e]
    · exact letters_clean hl
    · rw [clean_append, clean_cons, letters_clean hl, hc]; decide

/-! what is read -/
theorem read_err {s : List UInt8} (h : (read s).2 ≠ 0) : (read s).1 = ([], []) := by
  unfold read at h ⊢
  split
  · split
    · split
      · rename_i h1 h2 h3
        rw [if_pos h1, if_pos h2, if_pos h3] at h
        exact absurd rfl h
      · rfl
    · rfl
  · rfl
theorem read_ok {s : List UInt8} (h : (read s).2 = 0) : (read s).1 = (upper (head s), rest s) ∧ may (upper (head s)) (rest s) = true := by
  unfold read at h ⊢
  split
  · split
    · split
      · rename_i h1 h2 h3
        exact ⟨rfl, h3⟩
      · rename_i h1 h2 h3
        rw [if_pos h1, if_pos h2, if_neg h3] at h
        cases h
    · rename_i h1 h2
      rw [if_pos h1, if_neg h2] at h
      cases h
  · rename_i h1
    rw [if_neg h1] at h
    cases h
theorem read_errs (s : List UInt8) : (read s).2 = 0 ∨ (read s).2 = 1 ∨ (read s).2 = 2 ∨ (read s).2 = 3 := by
  unfold read
  split
  · split
    · split <;> simp
    · simp
  · simp
/-- two that may be are printed alike only if they are the same -/
theorem line_eq {v a v' a' : List UInt8} (h : may v a = true) (h' : may v' a' = true) (e : line v a = line v' a') : v = v' ∧ a = a' := by
  have h1 := (printed_read h).1
  have h2 := (printed_read h').1
  rw [e, h2] at h1
  injection h1 with h1 _
  injection h1 with h1 h3
  exact ⟨h1.symm, h3.symm⟩

theorem head_ne {s : List UInt8} {k : Nat} (h : k < (head s).length) (h' : k < s.length) : s[k] ≠ 32 := by
  have e : (head s)[k] = s[k] := (List.takeWhile_prefix (fun c : UInt8 => c != 32)).getElem h
  have hm : (head s)[k] ∈ head s := List.getElem_mem h
  have : ((head s)[k] != 32) = true := by
    have := List.all_takeWhile (p := fun c : UInt8 => c != 32) (l := s)
    exact List.all_eq_true.1 this _ hm
  rw [e] at this
  simpa using this
theorem head_stop {s : List UInt8} (h : (head s).length < s.length) : s[(head s).length] = 32 := by
  rcases apart s with ⟨e, _⟩ | e
  · rw [← e] at h; omega
  · have h1 : s[(head s).length]? = some 32 := by
      have : (head s ++ 32 :: rest s)[(head s).length]? = some 32 := by simp
      rw [← e] at this
      exact this
    rw [List.getElem?_eq_getElem h] at h1
    exact Option.some.inj h1
theorem letters_next {u : List UInt8} {k : Nat} (hk : k < u.length) : letters (u.take (k + 1)) = (letters (u.take k) && decide (65 ≤ u[k].toNat ∧ u[k].toNat ≤ 90)) := by
  unfold letters
  rw [List.take_succ_eq_append_getElem hk, List.all_append]
  simp only [List.all_cons, List.all_nil, Bool.and_true]
theorem letters_no {u : List UInt8} {k : Nat} (hk : k < u.length) (h : ¬ (65 ≤ u[k].toNat ∧ u[k].toNat ≤ 90)) : letters u = false := by
  cases hc : letters u with
  | false => rfl
  | true => exact absurd (letters_of hc u[k] (List.getElem_mem hk)) h
theorem read_eq (s : List UInt8) : read s = if (clean s && (decide (3 ≤ (head s).length) && (decide ((head s).length ≤ 4) && letters (upper (head s))))) then (if (found (upper (head s))).2 then (if may (upper (head s)) (rest s) then ((upper (head s), rest s), 0) else (([], []), 1)) else (([], []), 3)) else (([], []), 2) := rfl

theorem line_le (v a : List UInt8) : (line v a).length ≤ v.length + a.length + 1 := by
  unfold line
  by_cases h : a = []
  · rw [if_pos h]; omega
  · rw [if_neg h, List.length_append, List.length_cons]; omega
/-- what is read stands in its line: the same behind the verb, or a blank more -/
theorem back_ok {s : List UInt8} (h : (read s).2 = 0) : may (read s).1.1 (read s).1.2 = true ∧ ∃ hd y, upper hd = (read s).1.1 ∧ ((s = hd ++ y ∧ line (read s).1.1 (read s).1.2 = (read s).1.1 ++ y) ∨ (s = hd ++ [32] ∧ line (read s).1.1 (read s).1.2 = (read s).1.1)) := by
  obtain ⟨e, hm⟩ := read_ok h
  rw [e]
  simp only
  refine ⟨hm, ?_⟩
  rcases apart s with ⟨h1, h2⟩ | h1
  · refine ⟨head s, [], rfl, Or.inl ⟨by rw [List.append_nil]; exact h1, ?_⟩⟩
    unfold line
    rw [if_pos h2, List.append_nil]
  · by_cases hr : rest s = []
    · refine ⟨head s, [], rfl, Or.inr ⟨?_, ?_⟩⟩
      · rw [hr] at h1; exact h1
      · unfold line; rw [if_pos hr]
    · refine ⟨head s, 32 :: rest s, rfl, Or.inl ⟨h1, ?_⟩⟩
      unfold line
      rw [if_neg hr]

/-! a verb told in whatever letters -/
def letterB (c : UInt8) : Bool := decide (65 ≤ (upB c).toNat ∧ (upB c).toNat ≤ 90)
def fine (n : List UInt8) : Bool := decide (n.length = 3 ∨ n.length = 4) && letters (upper n)
theorem letter_eq (c : UInt8) : letterB c = (decide (97 ≤ c.toNat ∧ c.toNat ≤ 122) || decide (65 ≤ c.toNat ∧ c.toNat ≤ 90)) := by
  unfold letterB upB
  by_cases h : 97 ≤ c.toNat ∧ c.toNat ≤ 122
  · rw [if_pos h, decide_eq_true h, Bool.true_or]
    refine decide_eq_true ?_
    rw [UInt8.toNat_ofNat']
    omega
  · rw [if_neg h, decide_eq_false h, Bool.false_or]
theorem letters_up {n : List UInt8} {k : Nat} (hk : k < n.length) : letters (upper (n.take (k + 1))) = (letters (upper (n.take k)) && letterB n[k]) := by
  have hu : k < (upper n).length := by rw [upper_length]; exact hk
  have e := letters_next hu
  rw [upper_take, upper_take, e]
  have : (upper n)[k] = upB n[k] := by simp [upper]
  rw [this]
  rfl
theorem upper_plain {n : List UInt8} (h : letters (upper n) = true) : (∀ c ∈ n, (c != 32) = true) ∧ clean n = true := by
  have hl : ∀ c ∈ n, 65 ≤ c.toNat ∧ c.toNat ≤ 122 := by
    intro c hc
    have h1 := letters_of h (upB c) (List.mem_map.2 ⟨c, hc, rfl⟩)
    have h2 := letter_eq c
    rw [show letterB c = true from decide_eq_true h1] at h2
    simp only [Bool.true_eq, Bool.or_eq_true, decide_eq_true_eq] at h2
    omega
  constructor
  · intro c hc
    have := hl c hc
    simp only [bne_iff_ne, ne_eq]
    rintro rfl
    exact absurd this.1 (by decide)
  · refine List.all_eq_true.2 fun c hc => ?_
    have := hl c hc
    exact decide_eq_true (by omega)
/-- any name without a blank, a blank, and anything -/
theorem read_forms {n a : List UInt8} (hb : ∀ c ∈ n, (c != 32) = true) : read (n ++ 32 :: a) = if fine n && clean a then (if (found n).2 then (if may (upper n) a then ((upper n, a), 0) else (([], []), 1)) else (([], []), 3)) else (([], []), 2) := by
  have hf : formed (n ++ 32 :: a) = (fine n && clean a) := by
    unfold formed fine
    rw [head_blank hb, clean_append, clean_cons, show cleanB 32 = true from by decide, Bool.true_and]
    cases hl : letters (upper n) with
    | false => simp
    | true =>
      rw [(upper_plain hl).2]
      by_cases h3 : n.length = 3
      · rw [h3]; simp
      · by_cases h4 : n.length = 4
        · rw [h4]; simp
        · have : ¬ (3 ≤ n.length ∧ n.length ≤ 4) := by omega
          have h5 : (decide (3 ≤ n.length) && decide (n.length ≤ 4)) = false := by
            rw [← Bool.decide_and]; exact decide_eq_false this
          simp [h3, h4]
          intro _ h6
          omega
  unfold read
  rw [hf, head_blank hb, rest_blank hb, found_upper]
theorem read_letters {x : Vb} (hx : x ∈ verbs) {n a : List UInt8} (hn : upper n = x.name) : read (n ++ 32 :: a) = if may x.name a then ((x.name, a), 0) else (([], []), if clean a then 1 else 2) := by
  have hl : letters (upper n) = true := by rw [hn]; exact letters_each x hx
  obtain ⟨h1, h2⟩ := upper_plain hl
  rw [read_line hx hn h1 h2 _ (Or.inr rfl)]
  cases hm : may x.name a with
  | true =>
    obtain ⟨_, _, _, hc, _, _⟩ := may_parts hm
    rw [hc]; rfl
  | false => cases clean a <;> rfl

theorem noblank_next {s : List UInt8} {k : Nat} (hk : k < s.length) (h : ∀ c ∈ s.take k, (c != 32) = true) (hc : s[k] ≠ 32) : ∀ c ∈ s.take (k + 1), (c != 32) = true := by
  intro c hm
  rw [List.take_succ_eq_append_getElem hk, List.mem_append, List.mem_singleton] at hm
  rcases hm with hm | rfl
  · exact h c hm
  · simpa using hc
theorem byte_ne_32 {c : UInt8} (h : c ≠ 32) : ((c.toNat : Int) == 32) = false := by
  simp only [beq_eq_false_iff_ne, ne_eq]
  intro e
  exact h (UInt8.toNat_inj.1 (by show c.toNat = 32; omega))

#print axioms line_eq
#print axioms read_line
end Go.Proofs.YtdimfppijcebjaaGreatDoor.Cm

/- Plain facts on numbers as they are written and read, on addresses, and on cutting a text at a byte. No program in this text. -/
namespace Go.Proofs.YtdimfppijcebjaaGreatDoor.Quad
open Go

/-! numbers as they are written -/
theorem decFrom_append (l r : List UInt8) : ∀ (acc n : Nat), Lib.decFrom acc l = some n → Lib.decFrom acc (l ++ r) = Lib.decFrom n r := by
  induction l with
  | nil => intro acc n h; simp only [Lib.decFrom, Option.some.injEq] at h; subst h; rfl
  | cons b t ih =>
    intro acc n h
    simp only [Lib.decFrom, List.cons_append] at h ⊢
    cases hd : Lib.digitVal b with
    | none => simp [hd] at h
    | some d => simp only [hd] at h ⊢; exact ih _ _ h
theorem digitVal_dig (d : Nat) (h : d < 10) : Lib.digitVal (UInt8.ofNat (48 + d)) = some d := by
  have e : (UInt8.ofNat (48 + d)).toNat = 48 + d := by simp [UInt8.toNat_ofNat']; omega
  unfold Lib.digitVal; rw [e, if_pos (by omega)]; congr 1; omega
theorem decFrom_digits (u : Nat) : Lib.decFrom 0 (Lib.decDigits u) = some u := by
  induction u using Nat.strongRecOn with
  | _ u ih =>
    by_cases h : u < 10
    · rw [Lib.decDigits_one h]; simp only [Lib.decFrom, digitVal_dig u h, Option.some.injEq]; omega
    · rw [Lib.decDigits, dif_neg h, decFrom_append _ _ _ _ (ih (u / 10) (by omega))]
      simp only [Lib.decFrom, digitVal_dig (u % 10) (by omega), Option.some.injEq]; omega
theorem digits_length (u : Nat) : 1 ≤ (Lib.decDigits u).length := by rw [Lib.decDigits_length]; exact Lib.nDigits_pos u
theorem digits_ne (u : Nat) : Lib.decDigits u ≠ [] := by
  intro e; have := digits_length u; rw [e] at this; simp at this
theorem decNat_digits (u : Nat) : Lib.decNat (Lib.decDigits u) = some u := by
  unfold Lib.decNat
  rw [if_neg (by simpa using digits_ne u)]; exact decFrom_digits u
theorem digits_inj {u v : Nat} (h : Lib.decDigits u = Lib.decDigits v) : u = v := by
  have a := decNat_digits u; rw [h, decNat_digits v] at a; exact (Option.some.inj a).symm
theorem digits_dig {u : Nat} {c : UInt8} (h : c ∈ Lib.decDigits u) : 48 ≤ c.toNat ∧ c.toNat ≤ 57 := by
  obtain ⟨k, hk, e⟩ := List.getElem_of_mem h
  obtain ⟨d, hd⟩ := Lib.digit_of_decFrom _ 0 u (decFrom_digits u) k c (by rw [List.getElem?_eq_getElem hk, e])
  unfold Lib.digitVal at hd
  split at hd
  · assumption
  · cases hd
theorem itoa_nat (n : Nat) : Lib.itoa (n : Int) = Lib.decDigits n := by unfold Lib.itoa; rw [if_neg (by omega)]; simp
theorem itoa_pos {n : Int} (h : 0 ≤ n) : Lib.itoa n = Lib.decDigits n.toNat := by unfold Lib.itoa; rw [if_neg (by omega)]
theorem itoa_neg {n : Int} (h : n < 0) : Lib.itoa n = 45 :: Lib.decDigits n.natAbs := by unfold Lib.itoa; rw [if_pos h]
theorem itoa_ne (n : Int) : Lib.itoa n ≠ [] := by
  by_cases h : n < 0
  · rw [itoa_neg h]; simp
  · rw [itoa_pos (by omega)]; exact digits_ne _
theorem digits_head (u : Nat) : ∃ b r, Lib.decDigits u = b :: r ∧ 48 ≤ b.toNat ∧ b.toNat ≤ 57 := by
  cases h : Lib.decDigits u with
  | nil => exact absurd h (digits_ne u)
  | cons b r => exact ⟨b, r, rfl, digits_dig (u := u) (by rw [h]; simp)⟩
theorem itoa_inj {a b : Int} (h : Lib.itoa a = Lib.itoa b) : a = b := by
  by_cases ha : a < 0 <;> by_cases hb : b < 0
  · rw [itoa_neg ha, itoa_neg hb] at h; have := digits_inj (List.cons.inj h).2; omega
  · rw [itoa_neg ha, itoa_pos (by omega)] at h
    obtain ⟨c, r, e, h0, _⟩ := digits_head b.toNat
    rw [e] at h; have := (List.cons.inj h).1; subst this; simp at h0
  · rw [itoa_pos (by omega), itoa_neg hb] at h
    obtain ⟨c, r, e, h0, _⟩ := digits_head a.toNat
    rw [e] at h; have := (List.cons.inj h).1; subst this; simp at h0
  · rw [itoa_pos (by omega), itoa_pos (by omega)] at h; have := digits_inj h; omega
theorem atoi_digits (u : Nat) : Lib.atoi (Lib.decDigits u) = some (u : Int) := by
  obtain ⟨b, r, e, h0, h1⟩ := digits_head u
  have hn := decNat_digits u
  rw [e] at hn ⊢
  have a : (b == 45) = false := by rw [beq_eq_false_iff_ne]; rintro rfl; simp at h0
  have c : (b == 43) = false := by rw [beq_eq_false_iff_ne]; rintro rfl; simp at h0
  simp [Lib.atoi, a, c, hn]

/-! Get -/
/-- the number that a text is -/
def getO (l : List UInt8) : Option Nat := if l.length ≤ 18 then (match Lib.decNat l with | some n => if Lib.decDigits n = l then some n else none | none => none) else none
def getB (l : List UInt8) (most : Int) : Bool := match getO l with | some n => decide ((n : Int) ≤ most) | none => false
def getV (l : List UInt8) (most : Int) : Int := if getB l most then ((getO l).getD 0 : Nat) else 0

theorem getO_iff (l : List UInt8) (n : Nat) : getO l = some n ↔ Lib.decDigits n = l ∧ l.length ≤ 18 := by
  unfold getO
  constructor
  · intro h
    split at h
    · rename_i hl
      cases e : Lib.decNat l with
      | none => rw [e] at h; cases h
      | some m =>
        rw [e] at h; simp only at h
        split at h
        · rename_i hm; cases h; exact ⟨hm, hl⟩
        · cases h
    · cases h
  · rintro ⟨rfl, hl⟩
    rw [if_pos hl, decNat_digits]; simp
theorem getO_none {l : List UInt8} (h : ∀ n, Lib.decDigits n = l → ¬ l.length ≤ 18) : getO l = none := by
  cases e : getO l with
  | none => rfl
  | some n => exact absurd ((getO_iff l n).1 e).2 (h n ((getO_iff l n).1 e).1)
theorem getB_some {l : List UInt8} {n : Nat} (h : getO l = some n) (most : Int) : getB l most = decide ((n : Int) ≤ most) := by unfold getB; rw [h]
theorem getB_none {l : List UInt8} (h : getO l = none) (most : Int) : getB l most = false := by unfold getB; rw [h]
theorem getV_yes {l : List UInt8} {n : Nat} (h : getO l = some n) {most : Int} (hm : (n : Int) ≤ most) : getV l most = n := by
  unfold getV; rw [getB_some h, if_pos (by simpa using hm), h]; rfl
theorem getV_no {l : List UInt8} {most : Int} (h : getB l most = false) : getV l most = 0 := by unfold getV; rw [h]; rfl
theorem getB_iff (l : List UInt8) (most : Int) : getB l most = true ↔ ∃ n : Nat, Lib.decDigits n = l ∧ l.length ≤ 18 ∧ (n : Int) ≤ most ∧ getV l most = n := by
  constructor
  · intro h
    cases e : getO l with
    | none => rw [getB_none e] at h; cases h
    | some n =>
      rw [getB_some e] at h
      have hm : (n : Int) ≤ most := by simpa using h
      exact ⟨n, ((getO_iff l n).1 e).1, ((getO_iff l n).1 e).2, hm, getV_yes e hm⟩
  · rintro ⟨n, h1, h2, h3, _⟩
    rw [getB_some ((getO_iff l n).2 ⟨h1, h2⟩)]; simpa using h3
theorem getV_lo (l : List UInt8) (most : Int) : 0 ≤ getV l most := by
  unfold getV; split <;> omega
theorem getV_hi {l : List UInt8} {most : Int} (h : 0 ≤ most) : getV l most ≤ most := by
  cases e : getB l most with
  | false => rw [getV_no e]; exact h
  | true => obtain ⟨n, _, _, h3, h4⟩ := (getB_iff l most).1 e; omega
theorem getV_big {l : List UInt8} {most : Int} : getV l most < 1000000000000000000 := by
  cases e : getB l most with
  | false => rw [getV_no e]; omega
  | true =>
    obtain ⟨n, h1, h2, h3, h4⟩ := (getB_iff l most).1 e
    have := (Lib.atoi_bound (by rw [← h1]; exact atoi_digits n) h2).2
    omega

/-- what the code does, way by way -/
theorem code_long {l : List UInt8} (h : 18 < l.length) (most : Int) : getB l most = false :=
  getB_none (getO_none fun _ _ => by omega) _
theorem code_none {l : List UInt8} (h : Lib.atoi l = none) (most : Int) : getB l most = false := by
  refine getB_none (getO_none fun n hn => ?_) _
  rw [← hn, atoi_digits] at h; cases h
theorem code_some {l : List UInt8} {n : Int} (h : Lib.atoi l = some n) (hl : l.length ≤ 18) (most : Int) :
    (n < 0 ∧ getB l most = false) ∨ (0 ≤ n ∧ most < n ∧ getB l most = false) ∨ (0 ≤ n ∧ n ≤ most ∧ Lib.itoa n ≠ l ∧ getB l most = false) ∨ (0 ≤ n ∧ n ≤ most ∧ Lib.itoa n = l ∧ getB l most = true ∧ getV l most = n) := by
  have key : ∀ m : Nat, Lib.decDigits m = l → n = m := fun m hm => by
    rw [← hm, atoi_digits] at h; exact (Option.some.inj h).symm
  by_cases h0 : n < 0
  · exact Or.inl ⟨h0, getB_none (getO_none fun m hm => by have := key m hm; omega) _⟩
  · by_cases e : Lib.itoa n = l
    · have e' := e
      rw [itoa_pos (by omega)] at e'
      have g := (getO_iff l n.toNat).2 ⟨e', hl⟩
      by_cases hm : n ≤ most
      · exact Or.inr (Or.inr (Or.inr ⟨by omega, hm, e, by rw [getB_some g]; simp; omega, by rw [getV_yes g (by omega)]; omega⟩))
      · exact Or.inr (Or.inl ⟨by omega, by omega, by rw [getB_some g]; simp; omega⟩)
    · have g : getO l = none := getO_none fun m hm => by
        have := key m hm; subst this
        rw [itoa_nat] at e; exact absurd hm e
      by_cases hm : n ≤ most
      · exact Or.inr (Or.inr (Or.inl ⟨by omega, hm, e, getB_none g _⟩))
      · exact Or.inr (Or.inl ⟨by omega, by omega, getB_none g _⟩)
/-- what the document's answer does -/
theorem ref_odd {l : List UInt8} {k : Nat} {c : UInt8} (h : l[k]? = some c) (hd : c.toNat < 48 ∨ 57 < c.toNat) (most : Int) : getB l most = false := by
  refine getB_none (getO_none fun n hn => ?_) _
  have := digits_dig (u := n) (c := c) (by rw [hn]; exact List.mem_of_getElem? h)
  omega
theorem ref_all {l : List UInt8} {n : Nat} (h : Lib.decFrom 0 l = some n) (hl : l.length ≤ 18) (most : Int) :
    (most < n ∧ getB l most = false) ∨ ((n : Int) ≤ most ∧ Lib.itoa n ≠ l ∧ getB l most = false) ∨ ((n : Int) ≤ most ∧ Lib.itoa n = l ∧ getB l most = true ∧ getV l most = n) := by
  have key : ∀ m : Nat, Lib.decDigits m = l → n = m := fun m hm => by
    rw [← hm, decFrom_digits] at h; exact (Option.some.inj h).symm
  rw [itoa_nat]
  by_cases e : Lib.decDigits n = l
  · have g := (getO_iff l n).2 ⟨e, hl⟩
    by_cases hm : (n : Int) ≤ most
    · exact Or.inr (Or.inr ⟨hm, e, by rw [getB_some g]; simp; omega, getV_yes g hm⟩)
    · exact Or.inl ⟨by omega, by rw [getB_some g]; simp; omega⟩
  · have g : getO l = none := getO_none fun m hm => by
      have := key m hm; subst this; exact absurd hm e
    by_cases hm : (n : Int) ≤ most
    · exact Or.inr (Or.inl ⟨hm, e, getB_none g _⟩)
    · exact Or.inl ⟨by omega, getB_none g _⟩
theorem ref_empty (most : Int) : getB [] most = false :=
  getB_none (getO_none fun n hn => absurd hn (digits_ne n)) _
theorem decFrom_small : ∀ (l : List UInt8) (acc n k : Nat), Lib.decFrom acc l = some n → acc < 10 ^ k → n < 10 ^ (k + l.length)
  | [], acc, n, k, h, ha => by simp only [Lib.decFrom, Option.some.injEq] at h; subst h; simpa using ha
  | b :: r, acc, n, k, h, ha => by
    simp only [Lib.decFrom] at h
    cases hd : Lib.digitVal b with
    | none => simp [hd] at h
    | some d =>
      simp only [hd] at h
      have hd9 : d ≤ 9 := by unfold Lib.digitVal at hd; split at hd <;> simp at hd; omega
      have := decFrom_small r _ n (k + 1) h (by rw [Nat.pow_succ]; omega)
      rw [List.length_cons, show k + (r.length + 1) = k + 1 + r.length from by omega]; exact this
theorem decFrom_lt {l : List UInt8} {n : Nat} (h : Lib.decFrom 0 l = some n) (hl : l.length ≤ 18) : n < 1000000000000000000 := by
  have h1 := decFrom_small l 0 n 0 h (by simp)
  have h2 : 10 ^ (0 + l.length) ≤ 10 ^ 18 := Nat.pow_le_pow_right (by omega) (by omega)
  omega

/-! cutting -/
def cutL (c : UInt8) : List UInt8 → List (List UInt8)
  | [] => [[]]
  | b :: r => if b = c then [] :: cutL c r else match cutL c r with
    | h :: t => (b :: h) :: t
    | [] => [[b]]
theorem cutL_ne (c : UInt8) (l : List UInt8) : cutL c l ≠ [] := by
  cases l with
  | nil => simp [cutL]
  | cons b r =>
    simp only [cutL]; split
    · simp
    · split <;> simp
theorem cutL_whole {c : UInt8} : ∀ {p : List UInt8}, c ∉ p → cutL c p = [p]
  | [], _ => rfl
  | b :: r, h => by
    have hb : b ≠ c := fun e => h (by simp [e])
    have hr : c ∉ r := fun e => h (by simp [e])
    simp only [cutL, if_neg hb, cutL_whole hr]
theorem cutL_at {c : UInt8} : ∀ {p : List UInt8} (r : List UInt8), c ∉ p → cutL c (p ++ c :: r) = p :: cutL c r
  | [], r, _ => by simp [cutL]
  | b :: q, r, h => by
    have hb : b ≠ c := fun e => h (by simp [e])
    have hq : c ∉ q := fun e => h (by simp [e])
    simp only [List.cons_append, cutL, if_neg hb, cutL_at r hq]
theorem first_at (c : UInt8) : ∀ (l : List UInt8), (c ∉ l) ∨ ∃ p r, l = p ++ c :: r ∧ c ∉ p
  | [] => Or.inl (by simp)
  | b :: t => by
    by_cases hb : b = c
    · exact Or.inr ⟨[], t, by simp [hb], by simp⟩
    · rcases first_at c t with h | ⟨p, r, rfl, hp⟩
      · exact Or.inl (by simp only [List.mem_cons, not_or]; exact ⟨fun e => hb e.symm, h⟩)
      · exact Or.inr ⟨b :: p, r, by simp, by simp only [List.mem_cons, not_or]; exact ⟨fun e => hb e.symm, hp⟩⟩
theorem cutL_length_le (c : UInt8) : ∀ (l : List UInt8), (cutL c l).length ≤ l.length + 1
  | [] => by simp [cutL]
  | b :: r => by
    have := cutL_length_le c r
    simp only [cutL]; split
    · simp; omega
    · split
      · rename_i h t e; rw [e] at this; simp at this ⊢; omega
      · simp
theorem cutL_free (c : UInt8) : ∀ (l : List UInt8) (p : List UInt8), p ∈ cutL c l → c ∉ p
  | [], p, h => by simp only [cutL, List.mem_singleton] at h; subst h; simp
  | b :: r, p, h => by
    simp only [cutL] at h
    split at h
    · rcases List.mem_cons.1 h with rfl | h
      · simp
      · exact cutL_free c r p h
    · rename_i hb
      split at h
      · rename_i q t e
        have hq := cutL_free c r q (by rw [e]; simp)
        rcases List.mem_cons.1 h with rfl | h
        · simp only [List.mem_cons, not_or]; exact ⟨fun x => hb x.symm, hq⟩
        · exact cutL_free c r p (by rw [e]; simp [h])
      · rename_i e; exact absurd e (cutL_ne c r)
theorem occAt_one (l : List UInt8) (c : UInt8) (i : Nat) : Lib.occAt l [c] i = (l[i]? == some c) := by
  by_cases h : i + 1 ≤ l.length
  · rw [Lib.occAt_iff_take l [c] i (by simpa using h)]
    have e : (l.drop i).take [c].length = [l[i]] := by
      rw [List.drop_eq_getElem_cons (by omega)]; rfl
    rw [e, List.getElem?_eq_getElem (by omega)]
    simp
  · rw [List.getElem?_eq_none (by omega)]
    cases e : Lib.occAt l [c] i with
    | false => rfl
    | true => rcases Lib.occAt_room e with h' | h' <;> simp at h'; omega
theorem index_no {l : List UInt8} {c : UInt8} (h : c ∉ l) : Lib.index l [c] = -1 :=
  Lib.index_none fun j _ => by
    rw [occAt_one, beq_eq_false_iff_ne]; exact fun e => h (List.mem_of_getElem? e)
theorem index_at {p r : List UInt8} {c : UInt8} (h : c ∉ p) : Lib.index (p ++ c :: r) [c] = p.length :=
  Lib.index_first (by simp) (by rw [occAt_one]; simp) fun j hj => by
    rw [occAt_one, beq_eq_false_iff_ne, List.getElem?_append_left hj]; exact fun e => h (List.mem_of_getElem? e)
theorem splitK_no {l : List UInt8} {c : UInt8} (h : c ∉ l) (k : Nat) : Lib.splitK [c] 0 k l = [l] := by
  cases k with
  | zero => rfl
  | succ k => simp only [Lib.splitK, index_no h]; simp
theorem splitK_at {p r : List UInt8} {c : UInt8} (h : c ∉ p) (k : Nat) : Lib.splitK [c] 0 (k + 1) (p ++ c :: r) = p :: Lib.splitK [c] 0 k r := by
  have e : ((p.length : Int) == -1) = false := by rw [beq_eq_false_iff_ne]; omega
  simp only [Lib.splitK, index_at h, e]
  simp
theorem splitK_few {c : UInt8} : ∀ (k : Nat) (l : List UInt8), (cutL c l).length ≤ k + 1 → Lib.splitK [c] 0 k l = cutL c l
  | 0, l, h => by
    rcases first_at c l with h' | ⟨p, r, rfl, hp⟩
    · rw [splitK_no h', cutL_whole h']
    · rw [cutL_at r hp] at h
      have := cutL_ne c r
      cases e : cutL c r with
      | nil => exact absurd e this
      | cons a b => rw [e] at h; simp at h
  | k + 1, l, h => by
    rcases first_at c l with h' | ⟨p, r, rfl, hp⟩
    · rw [splitK_no h', cutL_whole h']
    · rw [cutL_at r hp] at h ⊢
      rw [splitK_at hp, splitK_few k r (by simpa using h)]
theorem splitK_all {c : UInt8} : ∀ (k : Nat) (l : List UInt8), (∀ x ∈ Lib.splitK [c] 0 k l, c ∉ x) → Lib.splitK [c] 0 k l = cutL c l
  | 0, l, h => by
    have : c ∉ l := h l (by simp [Lib.splitK])
    rw [splitK_no this, cutL_whole this]
  | k + 1, l, h => by
    rcases first_at c l with h' | ⟨p, r, rfl, hp⟩
    · rw [splitK_no h', cutL_whole h']
    · rw [splitK_at hp] at h ⊢
      rw [cutL_at r hp, splitK_all k r fun x hx => h x (by simp [hx])]
theorem splitK_length (c : UInt8) : ∀ (k : Nat) (l : List UInt8), 1 ≤ (Lib.splitK [c] 0 k l).length ∧ (Lib.splitK [c] 0 k l).length ≤ k + 1
  | 0, l => by simp [Lib.splitK]
  | k + 1, l => by
    rcases first_at c l with h' | ⟨p, r, rfl, hp⟩
    · rw [splitK_no h']; simp
    · rw [splitK_at hp]; have := splitK_length c k r; simp; omega

/-! addresses -/
def octB (p : List UInt8) : Bool := getB p 255
def oct (p : List UInt8) : Int := getV p 255
def readB (l : List UInt8) : Bool := (cutL 46 l).length == 4 && (cutL 46 l).all octB
def readH (l : List UInt8) (i : Nat) : Int := if readB l then oct ((cutL 46 l).getD i []) else 0
def textL (a b c d : Int) : List UInt8 := Lib.itoa a ++ 46 :: (Lib.itoa b ++ 46 :: (Lib.itoa c ++ 46 :: Lib.itoa d))

theorem oct_lo (p : List UInt8) : 0 ≤ oct p := getV_lo _ _
theorem oct_hi (p : List UInt8) : oct p ≤ 255 := getV_hi (by omega)
theorem readH_lo (l : List UInt8) (i : Nat) : 0 ≤ readH l i := by unfold readH; split; exact oct_lo _; omega
theorem readH_hi (l : List UInt8) (i : Nat) : readH l i ≤ 255 := by unfold readH; split; exact oct_hi _; omega
theorem readH_no {l : List UInt8} (h : readB l = false) (i : Nat) : readH l i = 0 := by unfold readH; rw [h]; rfl
theorem octB_iff (p : List UInt8) : octB p = true ↔ Lib.itoa (oct p) = p := by
  unfold octB oct
  constructor
  · intro h
    obtain ⟨n, h1, _, _, h4⟩ := (getB_iff p 255).1 h
    rw [h4, itoa_nat]; exact h1
  · intro h
    have h0 := getV_lo p 255
    have h1 := getV_hi (l := p) (most := 255) (by omega)
    rw [itoa_pos h0] at h
    refine (getB_iff p 255).2 ⟨(getV p 255).toNat, h, ?_, by omega, by omega⟩
    rw [← h, Lib.decDigits_length]
    have h2 : (getV p 255).toNat < 256 := by omega
    generalize (getV p 255).toNat = u at h2 ⊢
    rcases Nat.lt_or_ge u 10 with a | a
    · rw [Lib.nDigits_small a]; omega
    · rw [Lib.nDigits_big (by omega)]
      rcases Nat.lt_or_ge (u / 10) 10 with b | b
      · rw [Lib.nDigits_small b]; omega
      · rw [Lib.nDigits_big (by omega), Lib.nDigits_small (by omega)]; omega
theorem itoa_short {n : Int} (h0 : 0 ≤ n) (h1 : n ≤ 255) : (Lib.itoa n).length ≤ 3 := by
  rw [itoa_pos h0, Lib.decDigits_length]
  have h2 : n.toNat < 256 := by omega
  generalize n.toNat = u at h2 ⊢
  rcases Nat.lt_or_ge u 10 with a | a
  · rw [Lib.nDigits_small a]; omega
  · rw [Lib.nDigits_big (by omega)]
    rcases Nat.lt_or_ge (u / 10) 10 with b | b
    · rw [Lib.nDigits_small b]; omega
    · rw [Lib.nDigits_big (by omega), Lib.nDigits_small (by omega)]; omega
theorem itoa_long (n : Int) : 1 ≤ (Lib.itoa n).length := by
  cases h : Lib.itoa n with
  | nil => exact absurd h (itoa_ne n)
  | cons a b => simp
theorem text_length {a b c d : Int} (ha : 0 ≤ a ∧ a ≤ 255) (hb : 0 ≤ b ∧ b ≤ 255) (hc : 0 ≤ c ∧ c ≤ 255) (hd : 0 ≤ d ∧ d ≤ 255) : 7 ≤ (textL a b c d).length ∧ (textL a b c d).length ≤ 15 := by
  have a1 := itoa_short ha.1 ha.2; have b1 := itoa_short hb.1 hb.2; have c1 := itoa_short hc.1 hc.2; have d1 := itoa_short hd.1 hd.2
  have a0 := itoa_long a; have b0 := itoa_long b; have c0 := itoa_long c; have d0 := itoa_long d
  unfold textL; simp only [List.length_append, List.length_cons]; omega
theorem dotless (n : Int) : (46 : UInt8) ∉ Lib.itoa n := by
  intro h
  by_cases hn : n < 0
  · rw [itoa_neg hn] at h
    rcases List.mem_cons.1 h with e | e
    · revert e; decide
    · have := digits_dig e; revert this; decide
  · rw [itoa_pos (by omega)] at h
    have := digits_dig h; revert this; decide
theorem cut_text (a b c d : Int) : cutL 46 (textL a b c d) = [Lib.itoa a, Lib.itoa b, Lib.itoa c, Lib.itoa d] := by
  unfold textL
  rw [cutL_at _ (dotless a), cutL_at _ (dotless b), cutL_at _ (dotless c), cutL_whole (dotless d)]
theorem text_inj {a b c d a' b' c' d' : Int} (h : textL a b c d = textL a' b' c' d') : a = a' ∧ b = b' ∧ c = c' ∧ d = d' := by
  have e := cut_text a b c d
  rw [h, cut_text] at e
  simp only [List.cons.injEq, and_true] at e
  exact ⟨itoa_inj e.1.symm, itoa_inj e.2.1.symm, itoa_inj e.2.2.1.symm, itoa_inj e.2.2.2.symm⟩
theorem cut_join (c : UInt8) (n : Nat) : ∀ (l : List UInt8), l.length ≤ n → [c].intercalate (cutL c l) = l := by
  induction n with
  | zero => intro l hl; obtain rfl : l = [] := List.length_eq_zero_iff.1 (by omega); rfl
  | succ n IH =>
    intro l hl
    rcases first_at c l with h | ⟨p, r, rfl, hp⟩
    · rw [cutL_whole h]; simp [List.intercalate]
    · rw [cutL_at r hp]
      have ih := IH r (by simp at hl; omega)
      have e := Lib.join_cons p (cutL c r) [c]
      unfold Lib.join at e; rw [e]
      cases hc : cutL c r with
      | nil => exact absurd hc (cutL_ne c r)
      | cons x t =>
        rw [hc] at ih
        have e2 := Lib.join_cons x t [c]
        unfold Lib.join at e2; rw [e2] at ih
        simp only [Lib.joinTail, List.map_cons, List.flatten_cons] at ih ⊢
        rw [List.append_assoc, ih]; simp
theorem read_yes {l : List UInt8} (h : readB l = true) : textL (readH l 0) (readH l 1) (readH l 2) (readH l 3) = l := by
  have hj := cut_join 46 l.length l (Nat.le_refl _)
  unfold readH; rw [h]; simp only [if_true]
  unfold readB at h
  rw [Bool.and_eq_true, beq_iff_eq, List.all_eq_true] at h
  obtain ⟨h4, ha⟩ := h
  match hc : cutL 46 l, h4 with
  | [p, q, r, s], _ =>
    rw [hc] at hj ha
    have e1 := (octB_iff p).1 (ha p (by simp))
    have e2 := (octB_iff q).1 (ha q (by simp))
    have e3 := (octB_iff r).1 (ha r (by simp))
    have e4 := (octB_iff s).1 (ha s (by simp))
    simp only [List.getD_cons_zero, List.getD_cons_succ]
    unfold textL; rw [e1, e2, e3, e4, ← hj]
    simp [List.intercalate]
theorem octB_itoa {n : Int} (h0 : 0 ≤ n) (h1 : n ≤ 255) : octB (Lib.itoa n) = true ∧ oct (Lib.itoa n) = n := by
  have g : getO (Lib.itoa n) = some n.toNat := by
    refine (getO_iff _ _).2 ⟨(itoa_pos h0).symm, ?_⟩
    rw [itoa_pos h0, Lib.decDigits_length]
    have h2 : n.toNat < 256 := by omega
    generalize n.toNat = u at h2 ⊢
    rcases Nat.lt_or_ge u 10 with a | a
    · rw [Lib.nDigits_small a]; omega
    · rw [Lib.nDigits_big (by omega)]
      rcases Nat.lt_or_ge (u / 10) 10 with b | b
      · rw [Lib.nDigits_small b]; omega
      · rw [Lib.nDigits_big (by omega), Lib.nDigits_small (by omega)]; omega
  refine ⟨?_, ?_⟩
  · unfold octB; rw [getB_some g]; simp; omega
  · unfold oct; rw [getV_yes g (by omega)]; omega
theorem read_text {a b c d : Int} (ha : 0 ≤ a ∧ a ≤ 255) (hb : 0 ≤ b ∧ b ≤ 255) (hc : 0 ≤ c ∧ c ≤ 255) (hd : 0 ≤ d ∧ d ≤ 255) :
    readB (textL a b c d) = true ∧ readH (textL a b c d) 0 = a ∧ readH (textL a b c d) 1 = b ∧ readH (textL a b c d) 2 = c ∧ readH (textL a b c d) 3 = d := by
  have e := cut_text a b c d
  have oa := octB_itoa ha.1 ha.2; have ob := octB_itoa hb.1 hb.2; have oc := octB_itoa hc.1 hc.2; have od := octB_itoa hd.1 hd.2
  have hB : readB (textL a b c d) = true := by unfold readB; rw [e]; simp [oa.1, ob.1, oc.1, od.1]
  refine ⟨hB, ?_, ?_, ?_, ?_⟩ <;> (unfold readH; rw [hB, e]; simp [oa.2, ob.2, oc.2, od.2])

/-! the four texts that the code holds against each other -/
/-- the parts that a text is split into, four of them -/
def four (l : List UInt8) : List (List UInt8) := (Lib.splitK [46] 0 (min 4 (l.length + 1) - 1) l) ++ List.replicate (4 - (Lib.splitK [46] 0 (min 4 (l.length + 1) - 1) l).length) []
theorem four_parts (l : List UInt8) : ∃ p q r s, four l = [p, q, r, s] ∧ Lib.splitK [46] 0 (min 4 (l.length + 1) - 1) l ++ List.replicate (4 - (Lib.splitK [46] 0 (min 4 (l.length + 1) - 1) l).length) [] = [p, q, r, s] := by
  have h : (four l).length = 4 := by
    have := splitK_length 46 (min 4 (l.length + 1) - 1) l
    unfold four; simp; omega
  match e : four l, h with
  | [p, q, r, s], _ => exact ⟨p, q, r, s, rfl, e⟩
theorem four_length (l : List UInt8) : (four l).length = 4 := by
  have := splitK_length 46 (min 4 (l.length + 1) - 1) l
  unfold four; simp; omega
theorem four_yes {l : List UInt8} (h : ∀ x ∈ four l, Lib.itoa (oct x) = x) : readB l = true ∧ cutL 46 l = four l := by
  have hl := splitK_length 46 (min 4 (l.length + 1) - 1) l
  have h4 : 4 - (Lib.splitK [46] 0 (min 4 (l.length + 1) - 1) l).length = 0 := by
    rcases Nat.eq_zero_or_pos (4 - (Lib.splitK [46] 0 (min 4 (l.length + 1) - 1) l).length) with e | e
    · exact e
    · have := h [] (by unfold four; rw [List.mem_append]; exact Or.inr (by rw [List.mem_replicate]; exact ⟨by omega, rfl⟩))
      exact absurd this (itoa_ne _)
  have hf : four l = Lib.splitK [46] 0 (min 4 (l.length + 1) - 1) l := by unfold four; rw [h4]; simp
  have hc : cutL 46 l = four l := by
    rw [hf]; symm
    refine splitK_all _ _ fun x hx => ?_
    rw [← h x (by rw [hf]; exact hx)]; exact dotless _
  refine ⟨?_, hc⟩
  unfold readB
  rw [hc, four_length, Bool.and_eq_true, List.all_eq_true]
  exact ⟨rfl, fun x hx => (octB_iff x).2 (h x hx)⟩
theorem four_no {l : List UInt8} (h : ¬ ∀ x ∈ four l, Lib.itoa (oct x) = x) : readB l = false := by
  cases e : readB l with
  | false => rfl
  | true =>
    exfalso; apply h
    unfold readB at e
    rw [Bool.and_eq_true, beq_iff_eq, List.all_eq_true] at e
    obtain ⟨h4, ha⟩ := e
    have hle := cutL_length_le 46 l
    have hs := splitK_few (c := 46) (min 4 (l.length + 1) - 1) l (by omega)
    have hf : four l = cutL 46 l := by unfold four; rw [hs, h4]; simp
    rw [hf]; exact fun x hx => (octB_iff x).1 (ha x hx)

#print axioms four_no
#print axioms read_text
end Go.Proofs.YtdimfppijcebjaaGreatDoor.Quad

/- Plain facts on what numbers and addresses look like as they are written. No program in this text. -/
namespace Go.Proofs.YtdimfppijcebjaaGreatDoor.Quad
open Go

theorem text_bytes {a b c d : Int} (ha : 0 ≤ a) (hb : 0 ≤ b) (hc : 0 ≤ c) (hd : 0 ≤ d) {x : UInt8} (h : x ∈ textL a b c d) : x = 46 ∨ (48 ≤ x.toNat ∧ x.toNat ≤ 57) := by
  unfold textL at h
  rw [itoa_pos ha, itoa_pos hb, itoa_pos hc, itoa_pos hd] at h
  simp only [List.mem_append, List.mem_cons] at h
  rcases h with h | h | h | h | h | h | h
  · exact Or.inr (digits_dig h)
  · exact Or.inl h
  · exact Or.inr (digits_dig h)
  · exact Or.inl h
  · exact Or.inr (digits_dig h)
  · exact Or.inl h
  · exact Or.inr (digits_dig h)
theorem text_dots (a b c d : Int) : (textL a b c d).count 46 = 3 := by
  have z : ∀ n : Int, (Lib.itoa n).count 46 = 0 := fun n => List.count_eq_zero.2 (dotless n)
  unfold textL
  simp [List.count_append, z]
theorem digits_front (u : Nat) (h : 1 ≤ u) : ∃ b r, Lib.decDigits u = b :: r ∧ b.toNat ≠ 48 := by
  induction u using Nat.strongRecOn with
  | _ u ih =>
    by_cases h10 : u < 10
    · refine ⟨UInt8.ofNat (48 + u), [], Lib.decDigits_one h10, ?_⟩
      have e : (UInt8.ofNat (48 + u)).toNat = 48 + u := by simp [UInt8.toNat_ofNat']; omega
      omega
    · obtain ⟨b, r, e, hb⟩ := ih (u / 10) (by omega) (by omega)
      exact ⟨b, r ++ [UInt8.ofNat (48 + u % 10)], by rw [Lib.decDigits, dif_neg h10, e]; rfl, hb⟩
theorem itoa_front (n : Int) : (n = 0 ∧ Lib.itoa n = [48]) ∨ (n ≠ 0 ∧ ∃ b r, Lib.itoa n = b :: r ∧ b.toNat ≠ 48) := by
  by_cases h0 : n = 0
  · subst h0; exact Or.inl ⟨rfl, by rw [itoa_pos (by omega)]; exact Lib.decDigits_one (i := 0) (by omega)⟩
  · refine Or.inr ⟨h0, ?_⟩
    by_cases h : n < 0
    · exact ⟨45, _, itoa_neg h, by decide⟩
    · rw [itoa_pos (by omega)]; exact digits_front n.toNat (by omega)
theorem nDigits_le : ∀ (k u : Nat), u < 10 ^ (k + 1) → Lib.nDigits u ≤ k + 1
  | 0, u, h => by rw [Lib.nDigits_small (by simpa using h)]; omega
  | k + 1, u, h => by
    by_cases h10 : u < 10
    · rw [Lib.nDigits_small h10]; omega
    · rw [Lib.nDigits_big h10]
      have := nDigits_le k (u / 10) (by rw [Nat.div_lt_iff_lt_mul (by omega)]; rw [Nat.pow_succ] at h; exact h)
      omega
theorem itoa_most {n : Int} (h0 : -9223372036854775808 ≤ n) (h1 : n ≤ 9223372036854775807) : (Lib.itoa n).length ≤ 20 := by
  have p : (10 : Nat) ^ (18 + 1) = 10000000000000000000 := by decide
  by_cases h : n < 0
  · rw [itoa_neg h, List.length_cons, Lib.decDigits_length]
    have := nDigits_le 18 n.natAbs (by rw [p]; omega)
    omega
  · rw [itoa_pos (by omega), Lib.decDigits_length]
    have := nDigits_le 18 n.toNat (by rw [p]; omega)
    omega
theorem count_snoc (l : List UInt8) (k : Nat) (h : k < l.length) : (l.take (k + 1)).count 46 = (l.take k).count 46 + (if l[k].toNat = 46 then 1 else 0) := by
  rw [List.take_succ_eq_append_getElem h, List.count_append]
  congr 1
  by_cases e : l[k].toNat = 46
  · rw [if_pos e, show l[k] = 46 from UInt8.toNat.inj e]; rfl
  · rw [if_neg e]
    have : l[k] ≠ 46 := fun e' => e (by rw [e']; rfl)
    simp [this]
/-- no text is both a number and an address -/
theorem not_both {l : List UInt8} {most : Int} (h : readB l = true) (g : getB l most = true) : False := by
  have e := read_yes h
  obtain ⟨n, hn, _⟩ := (getB_iff l most).1 g
  have hm : (46 : UInt8) ∈ l := by rw [← e]; unfold textL; simp
  rw [← hn] at hm
  have := digits_dig hm
  revert this; decide

end Go.Proofs.YtdimfppijcebjaaGreatDoor.Quad

/- Plain facts on ends of six numbers: as they are written, read, and found between brackets. No program in this text. -/
namespace Go.Proofs.YtdimfppijcebjaaGreatDoor.Six
open Go Go.Proofs.YtdimfppijcebjaaGreatDoor.Quad

/-! an end as it is written and read -/
def sixL (a b c d p : Int) : List UInt8 := Lib.itoa a ++ 44 :: (Lib.itoa b ++ 44 :: (Lib.itoa c ++ 44 :: (Lib.itoa d ++ 44 :: (Lib.itoa (p / 256) ++ 44 :: Lib.itoa (p % 256)))))
def sixB (l : List UInt8) : Bool := (cutL 44 l).length == 6 && (cutL 44 l).all octB
def sixN (l : List UInt8) (i : Nat) : Int := if sixB l then oct ((cutL 44 l).getD i []) else 0
def sixP (l : List UInt8) : Int := sixN l 4 * 256 + sixN l 5

theorem sixN_lo (l : List UInt8) (i : Nat) : 0 ≤ sixN l i := by unfold sixN; split; exact oct_lo _; omega
theorem sixN_hi (l : List UInt8) (i : Nat) : sixN l i ≤ 255 := by unfold sixN; split; exact oct_hi _; omega
theorem sixN_no {l : List UInt8} (h : sixB l = false) (i : Nat) : sixN l i = 0 := by unfold sixN; rw [h]; rfl
theorem sixP_no {l : List UInt8} (h : sixB l = false) : sixP l = 0 := by unfold sixP; rw [sixN_no h, sixN_no h]; rfl
theorem sixP_lo (l : List UInt8) : 0 ≤ sixP l := by have := sixN_lo l 4; have := sixN_lo l 5; unfold sixP; omega
theorem sixP_hi (l : List UInt8) : sixP l ≤ 65535 := by have := sixN_hi l 4; have := sixN_hi l 5; unfold sixP; omega
theorem digit_out {u : Nat} {c : UInt8} (h : c.toNat < 48 ∨ 57 < c.toNat) : c ∉ Lib.decDigits u := fun e => by
  have := digits_dig e; omega
theorem commaless (n : Int) : (44 : UInt8) ∉ Lib.itoa n := by
  by_cases h : n < 0
  · rw [itoa_neg h]; simp only [List.mem_cons, not_or]; exact ⟨by decide, digit_out (by decide)⟩
  · rw [itoa_pos (by omega)]; exact digit_out (by decide)
theorem cut_six (a b c d p : Int) : cutL 44 (sixL a b c d p) = [Lib.itoa a, Lib.itoa b, Lib.itoa c, Lib.itoa d, Lib.itoa (p / 256), Lib.itoa (p % 256)] := by
  unfold sixL
  rw [cutL_at _ (commaless a), cutL_at _ (commaless b), cutL_at _ (commaless c), cutL_at _ (commaless d), cutL_at _ (commaless _), cutL_whole (commaless _)]
theorem six_inj {a b c d p a' b' c' d' p' : Int} (h : sixL a b c d p = sixL a' b' c' d' p') : a = a' ∧ b = b' ∧ c = c' ∧ d = d' ∧ p = p' := by
  have e := cut_six a b c d p
  rw [h, cut_six] at e
  simp only [List.cons.injEq, and_true] at e
  have e5 := itoa_inj e.2.2.2.2.1; have e6 := itoa_inj e.2.2.2.2.2
  exact ⟨itoa_inj e.1.symm, itoa_inj e.2.1.symm, itoa_inj e.2.2.1.symm, itoa_inj e.2.2.2.1.symm, by omega⟩
theorem six_yes {l : List UInt8} (h : sixB l = true) : sixL (sixN l 0) (sixN l 1) (sixN l 2) (sixN l 3) (sixP l) = l := by
  have hj := cut_join 44 l.length l (Nat.le_refl _)
  have l4 := sixN_lo l 4; have h4 := sixN_hi l 4; have l5 := sixN_lo l 5; have h5 := sixN_hi l 5
  have hp1 : sixP l / 256 = sixN l 4 := by unfold sixP; omega
  have hp2 : sixP l % 256 = sixN l 5 := by unfold sixP; omega
  unfold sixL; rw [hp1, hp2]
  unfold sixN; rw [h]; simp only [if_true]
  unfold sixB at h
  rw [Bool.and_eq_true, beq_iff_eq, List.all_eq_true] at h
  obtain ⟨h6, ha⟩ := h
  match hc : cutL 44 l, h6 with
  | [p, q, r, s, t, u], _ =>
    rw [hc] at hj ha
    have e1 := (octB_iff p).1 (ha p (by simp))
    have e2 := (octB_iff q).1 (ha q (by simp))
    have e3 := (octB_iff r).1 (ha r (by simp))
    have e4 := (octB_iff s).1 (ha s (by simp))
    have e5 := (octB_iff t).1 (ha t (by simp))
    have e6 := (octB_iff u).1 (ha u (by simp))
    simp only [List.getD_cons_zero, List.getD_cons_succ]
    rw [e1, e2, e3, e4, e5, e6, ← hj]
    simp [List.intercalate]
theorem six_text {a b c d p : Int} (ha : 0 ≤ a ∧ a ≤ 255) (hb : 0 ≤ b ∧ b ≤ 255) (hc : 0 ≤ c ∧ c ≤ 255) (hd : 0 ≤ d ∧ d ≤ 255) (hp : 0 ≤ p ∧ p ≤ 65535) :
    sixB (sixL a b c d p) = true ∧ sixN (sixL a b c d p) 0 = a ∧ sixN (sixL a b c d p) 1 = b ∧ sixN (sixL a b c d p) 2 = c ∧ sixN (sixL a b c d p) 3 = d ∧ sixP (sixL a b c d p) = p := by
  have e := cut_six a b c d p
  have oa := octB_itoa ha.1 ha.2; have ob := octB_itoa hb.1 hb.2; have oc := octB_itoa hc.1 hc.2; have od := octB_itoa hd.1 hd.2
  have oe := octB_itoa (n := p / 256) (by omega) (by omega); have of := octB_itoa (n := p % 256) (by omega) (by omega)
  have hB : sixB (sixL a b c d p) = true := by unfold sixB; rw [e]; simp [oa.1, ob.1, oc.1, od.1, oe.1, of.1]
  have n4 : sixN (sixL a b c d p) 4 = p / 256 := by unfold sixN; rw [hB, e]; simp [oe.2]
  have n5 : sixN (sixL a b c d p) 5 = p % 256 := by unfold sixN; rw [hB, e]; simp [of.2]
  refine ⟨hB, ?_, ?_, ?_, ?_, by unfold sixP; rw [n4, n5]; omega⟩ <;> (unfold sixN; rw [hB, e]; simp [oa.2, ob.2, oc.2, od.2])
theorem six_bytes {a b c d p : Int} (ha : 0 ≤ a) (hb : 0 ≤ b) (hc : 0 ≤ c) (hd : 0 ≤ d) (hp : 0 ≤ p) {x : UInt8} (h : x ∈ sixL a b c d p) : x = 44 ∨ (48 ≤ x.toNat ∧ x.toNat ≤ 57) := by
  unfold sixL at h
  rw [itoa_pos ha, itoa_pos hb, itoa_pos hc, itoa_pos hd, itoa_pos (n := p / 256) (by omega), itoa_pos (n := p % 256) (by omega)] at h
  simp only [List.mem_append, List.mem_cons] at h
  rcases h with h | h | h | h | h | h | h | h | h | h | h
  · exact Or.inr (digits_dig h)
  · exact Or.inl h
  · exact Or.inr (digits_dig h)
  · exact Or.inl h
  · exact Or.inr (digits_dig h)
  · exact Or.inl h
  · exact Or.inr (digits_dig h)
  · exact Or.inl h
  · exact Or.inr (digits_dig h)
  · exact Or.inl h
  · exact Or.inr (digits_dig h)
theorem six_length {a b c d p : Int} (ha : 0 ≤ a ∧ a ≤ 255) (hb : 0 ≤ b ∧ b ≤ 255) (hc : 0 ≤ c ∧ c ≤ 255) (hd : 0 ≤ d ∧ d ≤ 255) (hp : 0 ≤ p ∧ p ≤ 65535) : (sixL a b c d p).length ≤ 23 := by
  have := itoa_short ha.1 ha.2; have := itoa_short hb.1 hb.2; have := itoa_short hc.1 hc.2; have := itoa_short hd.1 hd.2
  have := itoa_short (n := p / 256) (by omega) (by omega); have := itoa_short (n := p % 256) (by omega) (by omega)
  unfold sixL; simp only [List.length_append, List.length_cons]; omega
theorem six_empty : sixB [] = false := rfl
theorem six_shut {l : List UInt8} (h : sixB l = true) {x : UInt8} (hx : x = 40 ∨ x = 41) : x ∉ l := fun hm => by
  have e := six_yes h
  rw [← e] at hm
  have := six_bytes (sixN_lo l 0) (sixN_lo l 1) (sixN_lo l 2) (sixN_lo l 3) (sixP_lo l) hm
  rcases hx with rfl | rfl <;> revert this <;> decide

/-! the parts that SplitN hands back, up to seven -/
def parts7 (l : List UInt8) : List (List UInt8) := Lib.splitK [44] 0 (min 7 (l.length + 1) - 1) l
theorem parts7_le (l : List UInt8) : (parts7 l).length ≤ 7 := by
  have := splitK_length 44 (min 7 (l.length + 1) - 1) l
  unfold parts7; omega
theorem cutL_le (c : UInt8) : ∀ (l p : List UInt8), p ∈ cutL c l → p.length ≤ l.length
  | [], p, h => by simp only [cutL, List.mem_singleton] at h; subst h; simp
  | b :: r, p, h => by
    simp only [cutL] at h
    split at h
    · rcases List.mem_cons.1 h with rfl | h
      · simp
      · have := cutL_le c r p h; simp; omega
    · split at h
      · rename_i q t e
        rcases List.mem_cons.1 h with rfl | h
        · have := cutL_le c r q (by rw [e]; simp); simp; omega
        · have := cutL_le c r p (by rw [e]; simp [h]); simp; omega
      · rename_i e; exact absurd e (cutL_ne c r)
/-- with as many parts as may be, or more, a text is split into no fewer than k parts -/
theorem splitK_count (c : UInt8) : ∀ (k : Nat) (l : List UInt8), (Lib.splitK [c] 0 k l).length = min (k + 1) (cutL c l).length
  | 0, l => by
    have : 1 ≤ (cutL c l).length := List.length_pos_iff.2 (cutL_ne c l)
    simp [Lib.splitK]; omega
  | k + 1, l => by
    rcases first_at c l with h' | ⟨p, r, rfl, hp⟩
    · rw [splitK_no h', cutL_whole h']; simp
    · rw [splitK_at hp, cutL_at r hp, List.length_cons, List.length_cons, splitK_count c k r]; omega
theorem parts7_six (l : List UInt8) : (parts7 l).length = 6 ↔ (cutL 44 l).length = 6 := by
  have h := splitK_count 44 (min 7 (l.length + 1) - 1) l
  have h1 := cutL_length_le 44 l
  unfold parts7
  rw [h]; omega
theorem parts7_is {l : List UInt8} (h : (parts7 l).length = 6) : parts7 l = cutL 44 l := by
  have h1 := cutL_length_le 44 l
  have h2 := (parts7_six l).1 h
  unfold parts7
  exact splitK_few _ _ (by omega)
theorem six_few {l : List UInt8} (h : (parts7 l).length ≠ 6) : sixB l = false := by
  unfold sixB
  rw [beq_eq_false_iff_ne.2 (fun e => h ((parts7_six l).2 e))]; rfl
theorem six_all {l p q r s t u : List UInt8} (h : cutL 44 l = [p, q, r, s, t, u]) : sixB l = (octB p && octB q && octB r && octB s && octB t && octB u) := by
  unfold sixB; rw [h]; simp [Bool.and_assoc]

/-! between brackets -/
def upto : List UInt8 → Option (List UInt8)
  | [] => none
  | b :: r => if b = 41 then some [] else (upto r).map (b :: ·)
def insO : List UInt8 → Option (List UInt8)
  | [] => none
  | b :: r => if b = 40 then upto r else insO r
/-- what stands between the first brackets; nothing, if there are not both -/
def insL (l : List UInt8) : List UInt8 := (insO l).getD []

theorem upto_no : ∀ {l : List UInt8}, (41 : UInt8) ∉ l → upto l = none
  | [], _ => rfl
  | b :: r, h => by
    have hb : b ≠ 41 := fun e => h (by simp [e])
    have hr : (41 : UInt8) ∉ r := fun e => h (by simp [e])
    simp only [upto, if_neg hb, upto_no hr, Option.map_none]
theorem upto_at : ∀ {q : List UInt8} (r : List UInt8), (41 : UInt8) ∉ q → upto (q ++ 41 :: r) = some q
  | [], r, _ => by simp [upto]
  | b :: q, r, h => by
    have hb : b ≠ 41 := fun e => h (by simp [e])
    have hq : (41 : UInt8) ∉ q := fun e => h (by simp [e])
    simp only [List.cons_append, upto, if_neg hb, upto_at r hq, Option.map_some]
theorem insO_no : ∀ {l : List UInt8}, (40 : UInt8) ∉ l → insO l = none
  | [], _ => rfl
  | b :: r, h => by
    have hb : b ≠ 40 := fun e => h (by simp [e])
    have hr : (40 : UInt8) ∉ r := fun e => h (by simp [e])
    simp only [insO, if_neg hb, insO_no hr]
theorem insO_at : ∀ {q : List UInt8} (r : List UInt8), (40 : UInt8) ∉ q → insO (q ++ 40 :: r) = upto r
  | [], r, _ => by simp [insO]
  | b :: q, r, h => by
    have hb : b ≠ 40 := fun e => h (by simp [e])
    have hq : (40 : UInt8) ∉ q := fun e => h (by simp [e])
    simp only [List.cons_append, insO, if_neg hb, insO_at r hq]
theorem upto_le : ∀ {l q : List UInt8}, upto l = some q → q.length ≤ l.length
  | [], q, h => by cases h
  | b :: r, q, h => by
    simp only [upto] at h
    split at h
    · cases h; simp
    · cases e : upto r with
      | none => rw [e] at h; cases h
      | some q' => rw [e] at h; cases h; have := upto_le e; simp; omega
theorem insO_le : ∀ {l q : List UInt8}, insO l = some q → q.length ≤ l.length
  | [], q, h => by cases h
  | b :: r, q, h => by
    simp only [insO] at h
    split at h
    · have := upto_le h; simp; omega
    · have := insO_le h; simp; omega
theorem insL_le (l : List UInt8) : (insL l).length ≤ l.length := by
  unfold insL
  cases e : insO l with
  | none => simp
  | some q => have := insO_le e; simpa using this
theorem upto_more : ∀ {l q : List UInt8} (m : List UInt8), upto l = some q → upto (l ++ m) = some q
  | [], q, m, h => by cases h
  | b :: r, q, m, h => by
    simp only [upto, List.cons_append] at h ⊢
    split at h
    · rename_i hb; rw [if_pos hb]; exact h
    · rename_i hb
      rw [if_neg hb]
      cases e : upto r with
      | none => rw [e] at h; cases h
      | some q' => rw [e] at h; rw [upto_more m e]; exact h
theorem insO_more : ∀ {l q : List UInt8} (m : List UInt8), insO l = some q → insO (l ++ m) = some q
  | [], q, m, h => by cases h
  | b :: r, q, m, h => by
    simp only [insO, List.cons_append] at h ⊢
    split at h
    · rename_i hb; rw [if_pos hb]; exact upto_more m h
    · rename_i hb; rw [if_neg hb]; exact insO_more m h
theorem find_some {l : List UInt8} (h : sixB (insL l) = true) : ∃ q, insO l = some q := by
  unfold insL at h
  cases e : insO l with
  | none => rw [e] at h; cases h
  | some q => exact ⟨q, rfl⟩
theorem find_more {l : List UInt8} (h : sixB (insL l) = true) (m : List UInt8) : insL (l ++ m) = insL l := by
  obtain ⟨q, e⟩ := find_some h
  unfold insL; rw [e, insO_more m e]
theorem find_written {ahead t behind : List UInt8} (h : (40 : UInt8) ∉ ahead) (ht : (41 : UInt8) ∉ t) : insL (ahead ++ [40] ++ t ++ [41] ++ behind) = t := by
  have e : ahead ++ [40] ++ t ++ [41] ++ behind = ahead ++ 40 :: (t ++ 41 :: behind) := by simp
  unfold insL; rw [e, insO_at _ h, upto_at _ ht]; rfl

/-! what the loops know at place k -/
theorem drop_at' {l : List UInt8} {fr k : Nat} (hf : fr ≤ k) (hk : k < l.length) : l.drop fr = (l.drop fr).take (k - fr) ++ l[k] :: l.drop (k + 1) := by
  have e : (l.drop fr).drop (k - fr) = l[k] :: l.drop (k + 1) := by
    rw [List.drop_drop, show fr + (k - fr) = k from by omega, List.drop_eq_getElem_cons hk]
  rw [← e, List.take_append_drop]
theorem split_at {l : List UInt8} {k : Nat} (hk : k < l.length) : l = l.take k ++ l[k] :: l.drop (k + 1) := by
  rw [← List.drop_eq_getElem_cons hk, List.take_append_drop]
theorem no_next {c : UInt8} {l : List UInt8} {fr k : Nat} (hn : c ∉ (l.drop fr).take (k - fr)) (hf : fr ≤ k) (hk : k < l.length) (hc : l[k] ≠ c) : c ∉ (l.drop fr).take (k + 1 - fr) := by
  rw [show k + 1 - fr = (k - fr) + 1 from by omega, List.take_succ_eq_append_getElem (by simp; omega)]
  simp only [List.mem_append, List.mem_singleton, not_or]
  refine ⟨hn, fun e => hc ?_⟩
  rw [e, List.getElem_drop]
  congr 1; omega
theorem no_next0 {c : UInt8} {l : List UInt8} {k : Nat} (hn : c ∉ l.take k) (hk : k < l.length) (hc : l[k] ≠ c) : c ∉ l.take (k + 1) := by
  rw [List.take_succ_eq_append_getElem hk]
  simp only [List.mem_append, List.mem_singleton, not_or]
  exact ⟨hn, fun e => hc e.symm⟩
/-- the first ( is ahead of fr -/
def Opened (l : List UInt8) (fr : Nat) : Prop := insO l = upto (l.drop fr)
theorem opened {l : List UInt8} {k : Nat} (hn : (40 : UInt8) ∉ l.take k) (hk : k < l.length) (hc : l[k] = 40) : Opened l (k + 1) := by
  have e := split_at hk
  rw [hc] at e
  have h := insO_at (l.drop (k + 1)) hn
  rw [← e] at h
  exact h
theorem found {l : List UInt8} {fr k : Nat} (h : Opened l fr) (hn : (41 : UInt8) ∉ (l.drop fr).take (k - fr)) (hf : fr ≤ k) (hk : k < l.length) (hc : l[k] = 41) : insO l = some ((l.drop fr).take (k - fr)) := by
  have e := drop_at' hf hk
  rw [hc] at e
  unfold Opened at h
  have h2 := upto_at (l.drop (k + 1)) hn
  rw [← e] at h2
  rw [h, h2]
theorem missed {l : List UInt8} {fr : Nat} (h : Opened l fr) (hn : (41 : UInt8) ∉ (l.drop fr).take (l.length - fr)) : insO l = none := by
  rw [List.take_of_length_le (by simp)] at hn
  unfold Opened at h
  rw [h, upto_no hn]

#print axioms six_yes
#print axioms found
end Go.Proofs.YtdimfppijcebjaaGreatDoor.Six

/- Plain facts on what an end looks like as it is written, and on brackets, as a loop meets them. No program in this text. -/
namespace Go.Proofs.YtdimfppijcebjaaGreatDoor.Six
open Go Go.Proofs.YtdimfppijcebjaaGreatDoor.Quad

/-! SixParts: commas, the port's upper part, the number that goes on -/
structure Seen where
  commas : Nat
  port : Nat
  n : Nat
def seeOne (s : Seen) (b : UInt8) : Seen :=
  if b = 44 then ⟨s.commas + 1, if s.commas + 1 = 5 then 256 * s.n else s.port, 0⟩ else ⟨s.commas, s.port, 10 * s.n + (b.toNat - 48)⟩
def see (l : List UInt8) : Seen := l.foldl seeOne ⟨0, 0, 0⟩
theorem see_next {l : List UInt8} {k : Nat} (h : k < l.length) : see (l.take (k + 1)) = seeOne (see (l.take k)) l[k] := by
  unfold see; rw [List.take_succ_eq_append_getElem h, List.foldl_append]; rfl

theorem decFrom_le : ∀ (l : List UInt8) (acc n : Nat), Lib.decFrom acc l = some n → acc ≤ n
  | [], acc, n, h => by simp only [Lib.decFrom, Option.some.injEq] at h; omega
  | b :: r, acc, n, h => by
    simp only [Lib.decFrom] at h
    cases hd : Lib.digitVal b with
    | none => simp [hd] at h
    | some d => simp only [hd] at h; have := decFrom_le r _ n h; omega
theorem digit_is {b : UInt8} {d : Nat} (h : Lib.digitVal b = some d) : b ≠ 44 ∧ b.toNat - 48 = d := by
  unfold Lib.digitVal at h
  split at h
  · rename_i hb
    refine ⟨?_, by simpa using h⟩
    rintro rfl; revert hb; decide
  · cases h
/-- digits alone are taken as a number -/
theorem see_digits : ∀ (l : List UInt8) (c p acc n : Nat), Lib.decFrom acc l = some n → l.foldl seeOne ⟨c, p, acc⟩ = ⟨c, p, n⟩
  | [], c, p, acc, n, h => by simp only [Lib.decFrom, Option.some.injEq] at h; subst h; rfl
  | b :: r, c, p, acc, n, h => by
    simp only [Lib.decFrom] at h
    cases hd : Lib.digitVal b with
    | none => simp [hd] at h
    | some d =>
      simp only [hd] at h
      obtain ⟨h1, h2⟩ := digit_is hd
      rw [List.foldl_cons]
      have e : seeOne ⟨c, p, acc⟩ b = ⟨c, p, acc * 10 + d⟩ := by
        unfold seeOne; rw [if_neg h1, h2]; simp only [Nat.mul_comm]
      rw [e]; exact see_digits r c p _ n h
theorem see_prefix (l : List UInt8) (k c p n : Nat) (h : Lib.decFrom 0 l = some n) : ∃ m, m ≤ n ∧ (l.take k).foldl seeOne ⟨c, p, 0⟩ = ⟨c, p, m⟩ := by
  have key : ∀ (l : List UInt8) (k acc : Nat), Lib.decFrom acc l = some n → ∃ m, m ≤ n ∧ Lib.decFrom acc (l.take k) = some m := by
    intro l
    induction l with
    | nil => intro k acc h; exact ⟨n, Nat.le_refl _, by simpa using h⟩
    | cons b r ih =>
      intro k acc h
      cases k with
      | zero => exact ⟨acc, decFrom_le _ _ _ h, rfl⟩
      | succ k =>
        simp only [Lib.decFrom, List.take_succ_cons] at h ⊢
        cases hd : Lib.digitVal b with
        | none => simp [hd] at h
        | some d => simp only [hd] at h ⊢; exact ih k _ h
  obtain ⟨m, hm, e⟩ := key l k 0 h
  exact ⟨m, hm, see_digits _ _ _ _ _ e⟩
theorem itoa_from {n : Int} (h : 0 ≤ n) : Lib.decFrom 0 (Lib.itoa n) = some n.toNat := by rw [itoa_pos h]; exact decFrom_digits _

/-- wherever a reader stands, the numbers are small -/
def Small (c p : Nat) (l : List UInt8) : Prop := ∀ k, ((l.take k).foldl seeOne ⟨c, p, 0⟩).n ≤ 255 ∧ ((l.take k).foldl seeOne ⟨c, p, 0⟩).port ≤ 65280 ∧ ((l.take k).foldl seeOne ⟨c, p, 0⟩).commas ≤ 5
theorem small_last {c p : Nat} {n : Int} (h0 : 0 ≤ n) (h1 : n ≤ 255) (hc : c ≤ 5) (hp : p ≤ 65280) : Small c p (Lib.itoa n) := fun k => by
  obtain ⟨m, hm, e⟩ := see_prefix (Lib.itoa n) k c p n.toNat (itoa_from h0)
  rw [e]; exact ⟨by show m ≤ 255; omega, hp, hc⟩
theorem small_next {c p : Nat} {n : Int} {r : List UInt8} (h0 : 0 ≤ n) (h1 : n ≤ 255) (hc : c < 5) (hp : p ≤ 65280) (hr : ∀ q, q ≤ 65280 → Small (c + 1) q r) : Small c p (Lib.itoa n ++ 44 :: r) := fun k => by
  have hs := see_digits (Lib.itoa n) c p 0 n.toNat (itoa_from h0)
  by_cases hk : k ≤ (Lib.itoa n).length
  · rw [List.take_append_of_le_length hk]
    exact small_last h0 h1 (by omega) hp k
  · obtain ⟨j, rfl⟩ : ∃ j, k = (Lib.itoa n).length + (j + 1) := ⟨k - (Lib.itoa n).length - 1, by omega⟩
    rw [List.take_length_add_append, List.foldl_append, hs, List.take_succ_cons, List.foldl_cons]
    have e : seeOne ⟨c, p, n.toNat⟩ 44 = ⟨c + 1, if c + 1 = 5 then 256 * n.toNat else p, 0⟩ := rfl
    rw [e]
    exact hr _ (by split <;> omega) j
theorem see_part {c p : Nat} {n : Int} {r : List UInt8} (h0 : 0 ≤ n) : (Lib.itoa n ++ 44 :: r).foldl seeOne ⟨c, p, 0⟩ = r.foldl seeOne ⟨c + 1, if c + 1 = 5 then 256 * n.toNat else p, 0⟩ := by
  rw [List.foldl_append, see_digits (Lib.itoa n) c p 0 n.toNat (itoa_from h0), List.foldl_cons]; rfl
theorem six_small {a b c d p : Int} (ha : 0 ≤ a ∧ a ≤ 255) (hb : 0 ≤ b ∧ b ≤ 255) (hc : 0 ≤ c ∧ c ≤ 255) (hd : 0 ≤ d ∧ d ≤ 255) (hp : 0 ≤ p ∧ p ≤ 65535) (k : Nat) :
    (see ((sixL a b c d p).take k)).n ≤ 255 ∧ (see ((sixL a b c d p).take k)).port ≤ 65280 ∧ (see ((sixL a b c d p).take k)).commas ≤ 5 := by
  have : Small 0 0 (sixL a b c d p) := by
    unfold sixL
    refine small_next ha.1 ha.2 (by omega) (by omega) fun _ h1 => small_next hb.1 hb.2 (by omega) h1 fun _ h2 => small_next hc.1 hc.2 (by omega) h2 fun _ h3 => small_next hd.1 hd.2 (by omega) h3 fun _ h4 => small_next (by omega) (by omega) (by omega) h4 fun _ h5 => small_last (by omega) (by omega) (by omega) h5
  exact this k
theorem six_seen {a b c d p : Int} (ha : 0 ≤ a) (hb : 0 ≤ b) (hc : 0 ≤ c) (hd : 0 ≤ d) (hp : 0 ≤ p) :
    (see (sixL a b c d p)).commas = 5 ∧ (((see (sixL a b c d p)).port + (see (sixL a b c d p)).n : Nat) : Int) = p := by
  have e : see (sixL a b c d p) = ⟨5, 256 * (p / 256).toNat, (p % 256).toNat⟩ := by
    unfold see sixL
    rw [see_part ha, see_part hb, see_part hc, see_part hd, see_part (n := p / 256) (by omega), see_digits _ _ _ _ _ (itoa_from (n := p % 256) (by omega))]
    rfl
  rw [e]
  refine ⟨rfl, ?_⟩
  show ((256 * (p / 256).toNat + (p % 256).toNat : Nat) : Int) = p
  omega

/-! SixOnly: whether a ( was there, and a ) behind it -/
def mark (s : Bool × Bool) (b : UInt8) : Bool × Bool := (s.1 || decide (b = 40), s.2 || (s.1 && decide (b = 41)))
def marks (l : List UInt8) : Bool × Bool := l.foldl mark (false, false)
theorem marks_next {l : List UInt8} {k : Nat} (h : k < l.length) : marks (l.take (k + 1)) = mark (marks (l.take k)) l[k] := by
  unfold marks; rw [List.take_succ_eq_append_getElem h, List.foldl_append]; rfl
theorem mark_stays : ∀ (l : List UInt8) (o : Bool), (l.foldl mark (o, true)).2 = true
  | [], _ => rfl
  | b :: r, o => by
    rw [List.foldl_cons]
    have e : mark (o, true) b = (o || decide (b = 40), true) := rfl
    rw [e]; exact mark_stays r _
theorem mark_upto : ∀ (l q : List UInt8), upto l = some q → (l.foldl mark (true, false)).2 = true
  | [], _, h => by cases h
  | b :: r, q, h => by
    simp only [upto] at h
    rw [List.foldl_cons]
    split at h
    · rename_i hb
      have e : mark (true, false) b = (true, true) := by unfold mark; simp [hb]
      rw [e]; exact mark_stays r _
    · rename_i hb
      have e : mark (true, false) b = (true, false) := by unfold mark; simp [hb]
      rw [e]
      cases e' : upto r with
      | none => rw [e'] at h; cases h
      | some q' => exact mark_upto r q' e'
theorem mark_ins : ∀ (l q : List UInt8), insO l = some q → (marks l).2 = true
  | [], _, h => by cases h
  | b :: r, q, h => by
    simp only [insO] at h
    unfold marks
    rw [List.foldl_cons]
    split at h
    · rename_i hb
      have e : mark (false, false) b = (true, false) := by unfold mark; simp [hb]
      rw [e]; exact mark_upto r q h
    · rename_i hb
      have e : mark (false, false) b = (false, false) := by unfold mark; simp [hb]
      rw [e]; exact mark_ins r q h

#print axioms six_seen
#print axioms six_small
#print axioms mark_ins
end Go.Proofs.YtdimfppijcebjaaGreatDoor.Six

/- Plain facts on ends and ports as EPRT and EPSV tell them: written, read, found. No program in this text. -/
namespace Go.Proofs.YtdimfppijcebjaaGreatDoor.Ext
open Go Go.Proofs.YtdimfppijcebjaaGreatDoor.Quad Go.Proofs.YtdimfppijcebjaaGreatDoor.Six

/-! what is written -/
def extL (a b c d p : Int) : List UInt8 := [124, 49, 124] ++ textL a b c d ++ [124] ++ Lib.itoa p ++ [124]
def portL (n : Int) : List UInt8 := [40, 124, 124, 124] ++ Lib.itoa n ++ [124, 41]
/-- a mark -/
def markB (c : UInt8) : Bool := decide (33 ≤ c.toNat) && decide (c.toNat ≤ 126) && !(decide (48 ≤ c.toNat) && decide (c.toNat ≤ 57))

/-! what is read: the error's number, and the end -/
def five (c : UInt8) (l : List UInt8) : Bool := markB c && ((cutL c l).length == 5 && (cutL c l).getD 4 [] == [])
def kindB (p : List UInt8) : Bool := getB p 9 && decide (1 ≤ getV p 9)
def portB (p : List UInt8) : Bool := getB p 65535 && decide (1 ≤ getV p 65535)
def extC : List UInt8 → Int
  | [] => 2
  | c :: r =>
    if five c (c :: r) then
      if kindB ((cutL c (c :: r)).getD 1 []) then
        if getV ((cutL c (c :: r)).getD 1 []) 9 = 1 then
          if readB ((cutL c (c :: r)).getD 2 []) && portB ((cutL c (c :: r)).getD 3 []) then 0 else 2
        else 8
      else 2
    else 2
theorem extC_cons (c : UInt8) (r : List UInt8) : extC (c :: r) = (if five c (c :: r) then (if kindB ((cutL c (c :: r)).getD 1 []) then (if getV ((cutL c (c :: r)).getD 1 []) 9 = 1 then (if readB ((cutL c (c :: r)).getD 2 []) && portB ((cutL c (c :: r)).getD 3 []) then 0 else 2) else 8) else 2) else 2) := rfl
def partOf (l : List UInt8) (i : Nat) : List UInt8 := match l with
  | [] => []
  | c :: r => (cutL c (c :: r)).getD i []
def extH (l : List UInt8) (i : Nat) : Int := if extC l = 0 then readH (partOf l 2) i else 0
def extP (l : List UInt8) : Int := if extC l = 0 then getV (partOf l 3) 65535 else 0
theorem extH_no {l : List UInt8} (h : extC l ≠ 0) (i : Nat) : extH l i = 0 := by unfold extH; rw [if_neg h]
theorem extP_no {l : List UInt8} (h : extC l ≠ 0) : extP l = 0 := by unfold extP; rw [if_neg h]
theorem extC_mem (l : List UInt8) : extC l = 0 ∨ extC l = 2 ∨ extC l = 8 := by
  cases l with
  | nil => exact Or.inr (Or.inl rfl)
  | cons c r =>
    rw [extC_cons]
    split
    · split
      · split
        · split
          · exact Or.inl rfl
          · exact Or.inr (Or.inl rfl)
        · exact Or.inr (Or.inr rfl)
      · exact Or.inr (Or.inl rfl)
    · exact Or.inr (Or.inl rfl)
theorem extP_some {l : List UInt8} (h : extC l = 0) : 1 ≤ extP l ∧ extP l ≤ 65535 := by
  unfold extP; rw [if_pos h]
  cases l with
  | nil => cases h
  | cons c r =>
    rw [extC_cons] at h
    split at h
    · split at h
      · split at h
        · split at h
          · rename_i h4
            rw [Bool.and_eq_true] at h4
            have h5 := h4.2
            unfold portB at h5
            rw [Bool.and_eq_true, decide_eq_true_eq] at h5
            exact ⟨h5.2, getV_hi (by omega)⟩
          · cases h
        · cases h
      · cases h
    · cases h
theorem extH_lo (l : List UInt8) (i : Nat) : 0 ≤ extH l i := by unfold extH; split; exact readH_lo _ _; omega
theorem extH_hi (l : List UInt8) (i : Nat) : extH l i ≤ 255 := by unfold extH; split; exact readH_hi _ _; omega
theorem extP_lo (l : List UInt8) : 0 ≤ extP l := by
  by_cases h : extC l = 0
  · have := (extP_some h).1; omega
  · rw [extP_no h]; omega
theorem extP_hi (l : List UInt8) : extP l ≤ 65535 := by
  by_cases h : extC l = 0
  · exact (extP_some h).2
  · rw [extP_no h]; omega

/-- a text of five parts, way by way -/
theorem cut_five {c : UInt8} {k h p : List UInt8} (hk : c ∉ k) (hh : c ∉ h) (hp : c ∉ p) : cutL c (c :: (k ++ c :: (h ++ c :: (p ++ [c])))) = [[], k, h, p, []] := by
  have e1 := cutL_at (c := c) (p := []) (k ++ c :: (h ++ c :: (p ++ [c]))) (by simp)
  rw [List.nil_append] at e1
  rw [e1, cutL_at _ hk, cutL_at _ hh, cutL_at _ hp]; rfl
theorem read_parts {c : UInt8} {k h p : List UInt8} (hm : markB c = true) (hk : c ∉ k) (hh : c ∉ h) (hp : c ∉ p) :
    extC (c :: (k ++ c :: (h ++ c :: (p ++ [c])))) = (if kindB k then if getV k 9 = 1 then if readB h && portB p then 0 else 2 else 8 else 2) ∧
    partOf (c :: (k ++ c :: (h ++ c :: (p ++ [c])))) 2 = h ∧ partOf (c :: (k ++ c :: (h ++ c :: (p ++ [c])))) 3 = p := by
  have e := cut_five (c := c) hk hh hp
  refine ⟨?_, by unfold partOf; simp only [e]; rfl, by unfold partOf; simp only [e]; rfl⟩
  rw [extC_cons]
  unfold five
  simp only [e, hm]
  simp

theorem markless_text {a b c d : Int} (ha : 0 ≤ a) (hb : 0 ≤ b) (hc : 0 ≤ c) (hd : 0 ≤ d) : (124 : UInt8) ∉ textL a b c d := fun h => by
  have := text_bytes ha hb hc hd h
  revert this; decide
theorem digitless {n : Int} (h : 0 ≤ n) {c : UInt8} (hc : c.toNat < 48 ∨ 57 < c.toNat) : c ∉ Lib.itoa n := by rw [itoa_pos h]; exact digit_out hc
theorem extL_shape (a b c d p : Int) : extL a b c d p = 124 :: ([49] ++ 124 :: (textL a b c d ++ 124 :: (Lib.itoa p ++ [124]))) := by unfold extL; simp
theorem get_itoa {n most : Int} (h0 : 0 ≤ n) (h1 : n ≤ 65535) (hm : n ≤ most) : getB (Lib.itoa n) most = true ∧ getV (Lib.itoa n) most = n := by
  have g : getO (Lib.itoa n) = some n.toNat := by
    refine (getO_iff _ _).2 ⟨(itoa_pos h0).symm, ?_⟩
    rw [itoa_pos h0, Lib.decDigits_length]
    have := nDigits_le 4 n.toNat (by omega)
    omega
  exact ⟨by rw [getB_some g]; simp; omega, by rw [getV_yes g (by omega)]; omega⟩
theorem itoa1' : Lib.itoa 1 = [49] := by rw [itoa_pos (by omega)]; exact Lib.decDigits_one (i := 1) (by omega)
theorem kind_one : kindB [49] = true ∧ getV [49] 9 = 1 := by
  have h := get_itoa (n := 1) (most := 9) (by omega) (by omega) (by omega)
  rw [itoa1'] at h
  exact ⟨by unfold kindB; rw [h.1, h.2]; rfl, h.2⟩
theorem ext_text {a b c d p : Int} (ha : 0 ≤ a ∧ a ≤ 255) (hb : 0 ≤ b ∧ b ≤ 255) (hc : 0 ≤ c ∧ c ≤ 255) (hd : 0 ≤ d ∧ d ≤ 255) (hp : 1 ≤ p ∧ p ≤ 65535) :
    extC (extL a b c d p) = 0 ∧ extH (extL a b c d p) 0 = a ∧ extH (extL a b c d p) 1 = b ∧ extH (extL a b c d p) 2 = c ∧ extH (extL a b c d p) 3 = d ∧ extP (extL a b c d p) = p := by
  obtain ⟨e0, e2, e3⟩ := read_parts (c := 124) (k := [49]) (h := textL a b c d) (p := Lib.itoa p) (by decide) (by decide) (markless_text ha.1 hb.1 hc.1 hd.1) (digitless (by omega) (by decide))
  rw [← extL_shape] at e0 e2 e3
  obtain ⟨r, r0, r1, r2, r3⟩ := read_text ha hb hc hd
  have g := get_itoa (n := p) (most := 65535) (by omega) hp.2 hp.2
  have hpB : portB (Lib.itoa p) = true := by unfold portB; rw [g.1, g.2]; simp; omega
  rw [kind_one.1, kind_one.2, r, hpB] at e0
  simp at e0
  refine ⟨e0, ?_, ?_, ?_, ?_, ?_⟩
  · unfold extH; rw [if_pos e0, e2]; exact r0
  · unfold extH; rw [if_pos e0, e2]; exact r1
  · unfold extH; rw [if_pos e0, e2]; exact r2
  · unfold extH; rw [if_pos e0, e2]; exact r3
  · unfold extP; rw [if_pos e0, e3]; exact g.2

/-! a beginning is none -/
theorem cutL_count (c : UInt8) : ∀ (l : List UInt8), (cutL c l).length = l.count c + 1
  | [] => rfl
  | b :: r => by
    have ih := cutL_count c r
    simp only [cutL]
    by_cases h : b = c
    · subst h; simp [ih]
    · rw [if_neg h, List.count_cons_of_ne h]
      cases e : cutL c r with
      | nil => exact absurd e (cutL_ne c r)
      | cons x t => rw [e] at ih; simpa using ih
theorem extL_count {a b c d p : Int} (ha : 0 ≤ a) (hb : 0 ≤ b) (hc : 0 ≤ c) (hd : 0 ≤ d) (hp : 0 ≤ p) : (extL a b c d p).count 124 = 4 := by
  have h1 : (textL a b c d).count 124 = 0 := List.count_eq_zero.2 (markless_text ha hb hc hd)
  have h2 : (Lib.itoa p).count 124 = 0 := List.count_eq_zero.2 (digitless hp (by decide))
  unfold extL
  simp [List.count_append, h1, h2]
theorem ext_cut {a b c d p : Int} (ha : 0 ≤ a) (hb : 0 ≤ b) (hc : 0 ≤ c) (hd : 0 ≤ d) (hp : 0 ≤ p) {k : Nat} (hk : k < (extL a b c d p).length) : extC ((extL a b c d p).take k) = 2 := by
  have hcnt := extL_count ha hb hc hd hp
  have hs : extL a b c d p = (extL a b c d p).take k ++ (extL a b c d p).drop k := (List.take_append_drop k _).symm
  have hlast : (124 : UInt8) ∈ (extL a b c d p).drop k := by
    have e : extL a b c d p = ([124, 49, 124] ++ textL a b c d ++ [124] ++ Lib.itoa p) ++ [124] := rfl
    have hl : k ≤ ([124, 49, 124] ++ textL a b c d ++ [124] ++ Lib.itoa p).length := by
      rw [e, List.length_append] at hk; simp only [List.length_singleton] at hk; omega
    rw [e, List.drop_append_of_le_length hl]; simp
  have h3 : ((extL a b c d p).take k).count 124 ≤ 3 := by
    have h1 := List.count_pos_iff.2 hlast
    have h2 := hcnt
    rw [hs, List.count_append] at h2
    omega
  cases k with
  | zero => rfl
  | succ k =>
    have e : (extL a b c d p).take (k + 1) = 124 :: ([49, 124] ++ textL a b c d ++ [124] ++ Lib.itoa p ++ [124]).take k := by unfold extL; simp
    rw [e] at h3 ⊢
    have hn := cutL_count 124 (124 :: ([49, 124] ++ textL a b c d ++ [124] ++ Lib.itoa p ++ [124]).take k)
    generalize ([49, 124] ++ textL a b c d ++ [124] ++ Lib.itoa p ++ [124]).take k = r at h3 hn ⊢
    have hf : five 124 (124 :: r) = false := by
      unfold five
      have : ((cutL 124 (124 :: r)).length == 5) = false := by rw [beq_eq_false_iff_ne]; omega
      rw [this]; simp
    rw [extC_cons, hf]; rfl

/-! kinds -/
theorem kind_byte (k : UInt8) : (kindB [k] = true ↔ 49 ≤ k.toNat ∧ k.toNat ≤ 57) ∧ (kindB [k] = true → getV [k] 9 = (k.toNat : Int) - 48) := by
  by_cases h : 48 ≤ k.toNat ∧ k.toNat ≤ 57
  · have g : getO [k] = some (k.toNat - 48) := by
      refine (getO_iff _ _).2 ⟨?_, by simp⟩
      rw [Lib.decDigits_one (by omega)]
      congr 1
      apply UInt8.toNat.inj
      rw [UInt8.toNat_ofNat']
      omega
    have hv : getV [k] 9 = ((k.toNat - 48 : Nat) : Int) := getV_yes g (by omega)
    have hB : getB [k] 9 = true := by rw [getB_some g]; simp; omega
    unfold kindB
    rw [hB, hv]
    refine ⟨?_, fun _ => by omega⟩
    simp; omega
  · have hB : getB [k] 9 = false := ref_odd (k := 0) (c := k) rfl (by omega) 9
    unfold kindB
    rw [hB]
    refine ⟨?_, fun h' => by cases h'⟩
    simp; omega
theorem ext_kind {k : UInt8} {h : List UInt8} (hk : k ≠ 124) (hh : (124 : UInt8) ∉ h) :
    (50 ≤ k.toNat ∧ k.toNat ≤ 57 → extC (124 :: ([k] ++ 124 :: (h ++ 124 :: ([56, 48] ++ [124])))) = 8) ∧ (k.toNat < 49 ∨ 57 < k.toNat → extC (124 :: ([k] ++ 124 :: (h ++ 124 :: ([56, 48] ++ [124])))) = 2) := by
  obtain ⟨e0, _, _⟩ := read_parts (c := 124) (k := [k]) (h := h) (p := [56, 48]) (by decide) (by simpa using fun e => hk e.symm) hh (by decide)
  obtain ⟨b1, b2⟩ := kind_byte k
  rw [e0]
  constructor
  · rintro ⟨h1, h2⟩
    have hb := b1.2 ⟨by omega, h2⟩
    rw [if_pos hb, if_neg (by rw [b2 hb]; omega)]
  · intro h1
    rw [if_neg (fun hb => by have := b1.1 hb; omega)]

/-! what is found -/
def mid (t : List UInt8) : List UInt8 := (t.drop 3).take (t.length - 1 - 3)
def holdB (t : List UInt8) : Bool := decide (5 ≤ t.length) && (markB (t.getD 0 0) && (t.getD 1 0 == t.getD 0 0 && (t.getD 2 0 == t.getD 0 0 && (t.getD (t.length - 1) 0 == t.getD 0 0 && portB (mid t)))))
def holdN (t : List UInt8) : Int := if holdB t then getV (mid t) 65535 else 0
theorem holdN_no {t : List UInt8} (h : holdB t = false) : holdN t = 0 := by unfold holdN; rw [h]; rfl
theorem hold_short {t : List UInt8} (h : t.length < 5) : holdB t = false := by
  unfold holdB; rw [decide_eq_false (by omega)]; rfl
theorem hold_port {n : Int} (h0 : 1 ≤ n) (h1 : n ≤ 65535) : holdB ([124, 124, 124] ++ Lib.itoa n ++ [124]) = true ∧ holdN ([124, 124, 124] ++ Lib.itoa n ++ [124]) = n := by
  have g := get_itoa (n := n) (most := 65535) (by omega) h1 h1
  have hl := itoa_long n
  have hm : mid ([124, 124, 124] ++ Lib.itoa n ++ [124]) = Lib.itoa n := by unfold mid; simp
  have hB : holdB ([124, 124, 124] ++ Lib.itoa n ++ [124]) = true := by
    unfold holdB portB
    rw [hm, g.1, g.2]
    simp [markB]
    omega
  exact ⟨hB, by unfold holdN; rw [hB, hm]; exact g.2⟩
theorem find_port {ahead : List UInt8} {n : Int} (h : (40 : UInt8) ∉ ahead) (h0 : 0 ≤ n) : insL (ahead ++ portL n ++ [46]) = [124, 124, 124] ++ Lib.itoa n ++ [124] := by
  have e : ahead ++ portL n ++ [46] = ahead ++ [40] ++ ([124, 124, 124] ++ Lib.itoa n ++ [124]) ++ [41] ++ [46] := by unfold portL; simp
  rw [e]
  refine find_written h ?_
  simp only [List.mem_append, not_or]
  exact ⟨⟨by decide, digitless h0 (by decide)⟩, by decide⟩

#print axioms ext_text
#print axioms ext_cut
#print axioms ext_kind
#print axioms hold_port
end Go.Proofs.YtdimfppijcebjaaGreatDoor.Ext

/- Plain facts on how ext's code reads: ports, kinds, the five parts, what stands between brackets, the marks ahead and behind. No program in this text. -/
namespace Go.Proofs.YtdimfppijcebjaaGreatDoor.Ext
open Go Go.Proofs.YtdimfppijcebjaaGreatDoor.Quad Go.Proofs.YtdimfppijcebjaaGreatDoor.Six

def portN (n : Int) : Bool := decide (1 ≤ n) && decide (n ≤ 65535)
def markN (n : Int) : Bool := decide (33 ≤ n) && decide (n ≤ 126) && (decide (n < 48) || decide (57 < n))
theorem mark_is (c : UInt8) : markN (c.toNat : Int) = markB c := by
  unfold markN markB
  rw [Bool.eq_iff_iff]
  simp
  omega
theorem port_is (l : List UInt8) : portN (getV l 65535) = portB l := by
  unfold portN portB
  have h1 := getV_hi (l := l) (most := 65535) (by omega)
  cases hB : getB l 65535 with
  | false => rw [getV_no hB]; rfl
  | true => simp [h1]
theorem port_some {l : List UInt8} (h : portB l = true) : 1 ≤ getV l 65535 ∧ getV l 65535 ≤ 65535 := by
  rw [← port_is] at h
  unfold portN at h
  simpa using h
theorem kind_no {l : List UInt8} (h : kindB l = false) : getV l 9 = 0 := by
  have h0 := getV_lo l 9
  cases hB : getB l 9 with
  | false => exact getV_no hB
  | true =>
    unfold kindB at h
    rw [hB] at h
    simp at h
    omega
theorem kind_yes {l : List UInt8} (h : kindB l = true) : 1 ≤ getV l 9 := by
  unfold kindB at h
  simp at h
  exact h.2

/-! five parts -/
def parts5 (c : UInt8) (l : List UInt8) : List (List UInt8) := Lib.splitK [c] 0 (min 5 (l.length + 1) - 1) l
theorem splitK_more (c : UInt8) : ∀ (k : Nat) (l : List UInt8), k + 1 < (cutL c l).length → (Lib.splitK [c] 0 k l).getD k [] ≠ []
  | 0, l, h => by
    have e : Lib.splitK [c] 0 0 l = [l] := by simp [Lib.splitK]
    rw [e]
    intro h2
    have h3 : l = [] := by simpa using h2
    subst h3
    simp [cutL] at h
  | k + 1, l, h => by
    rcases first_at c l with h' | ⟨p, r, rfl, hp⟩
    · rw [cutL_whole h'] at h; simp at h
    · rw [cutL_at r hp] at h
      rw [splitK_at hp]
      simpa using splitK_more c k r (by simpa using h)
theorem parts5_count (c : UInt8) (l : List UInt8) : (parts5 c l).length = min 5 (cutL c l).length := by
  have h := splitK_count c (min 5 (l.length + 1) - 1) l
  have h1 := cutL_length_le c l
  unfold parts5
  rw [h]; omega
theorem parts5_is {c : UInt8} {l : List UInt8} (h : (cutL c l).length = 5) : parts5 c l = cutL c l := by
  have h1 := cutL_length_le c l
  unfold parts5
  exact splitK_few _ _ (by omega)
theorem parts5_more {c : UInt8} {l : List UInt8} (h : 5 < (cutL c l).length) : (parts5 c l).getD 4 [] ≠ [] := by
  have h1 := cutL_length_le c l
  have e : min 5 (l.length + 1) - 1 = 4 := by omega
  unfold parts5
  rw [e]
  exact splitK_more c 4 l (by omega)
def fiveL : List UInt8 → Bool
  | [] => false
  | c :: r => five c (c :: r)
theorem five_yes {c : UInt8} {l : List UInt8} (h : five c l = true) : markB c = true ∧ ∃ x k h q, cutL c l = [x, k, h, q, []] ∧ parts5 c l = [x, k, h, q, []] := by
  unfold five at h
  simp only [Bool.and_eq_true, beq_iff_eq] at h
  obtain ⟨hm, h5, h4⟩ := h
  refine ⟨hm, ?_⟩
  match hc : cutL c l, h5 with
  | [x, k, h, q, z], _ =>
    rw [hc] at h4
    simp at h4
    subst h4
    exact ⟨x, k, h, q, rfl, by rw [parts5_is (by rw [hc]; rfl), hc]⟩
/-- what the code sees of a text that begins by a mark, and has not five parts -/
theorem five_no {c : UInt8} {l : List UInt8} (hm : markB c = true) (h : five c l = false) : (parts5 c l).length ≠ 5 ∨ ∃ x k h q z, parts5 c l = [x, k, h, q, z] ∧ z ≠ [] := by
  by_cases h5 : (parts5 c l).length = 5
  · right
    have hc := parts5_count c l
    have hz : (parts5 c l).getD 4 [] ≠ [] := by
      by_cases h6 : (cutL c l).length = 5
      · unfold five at h
        rw [hm, h6] at h
        rw [parts5_is h6]
        simpa using h
      · exact parts5_more (by omega)
    match hp : parts5 c l, h5 with
    | [x, k, h, q, z], _ =>
      rw [hp] at hz
      exact ⟨x, k, h, q, z, rfl, by simpa using hz⟩
  · exact Or.inl h5
theorem fiveL_no {l : List UInt8} (h : fiveL l = false) : extC l = 2 := by
  cases l with
  | nil => rfl
  | cons c r => rw [extC_cons, show five c (c :: r) = false from h]; rfl
theorem extC_parts {c : UInt8} {r x k h q : List UInt8} (hf : five c (c :: r) = true) (hc : cutL c (c :: r) = [x, k, h, q, []]) :
    extC (c :: r) = (if kindB k then if getV k 9 = 1 then if readB h && portB q then 0 else 2 else 8 else 2) ∧ partOf (c :: r) 2 = h ∧ partOf (c :: r) 3 = q := by
  refine ⟨?_, by unfold partOf; simp only [hc]; rfl, by unfold partOf; simp only [hc]; rfl⟩
  rw [extC_cons, hf, hc]
  simp

/-! what stands between brackets -/
theorem cut_no {l : List UInt8} {c : UInt8} (h : c ∉ l) : Lib.cut l [c] = (l, [], false) := by
  unfold Lib.cut; rw [index_no h]; rfl
theorem cut_at {p r : List UInt8} {c : UInt8} (h : c ∉ p) : Lib.cut (p ++ c :: r) [c] = (p, r, true) := by
  unfold Lib.cut; rw [index_at h, if_pos (by omega)]; simp
theorem ins_no {l : List UInt8} (h : (40 : UInt8) ∉ l) : insL l = [] := by unfold insL; rw [insO_no h]; rfl
theorem ins_half {p r : List UInt8} (hp : (40 : UInt8) ∉ p) (hr : (41 : UInt8) ∉ r) : insL (p ++ 40 :: r) = [] := by unfold insL; rw [insO_at r hp, upto_no hr]; rfl
theorem ins_both {p q r : List UInt8} (hp : (40 : UInt8) ∉ p) (hq : (41 : UInt8) ∉ q) : insL (p ++ 40 :: (q ++ 41 :: r)) = q := by unfold insL; rw [insO_at _ hp, upto_at r hq]; rfl

/-! the marks ahead and behind -/
theorem suffix_one (v : List UInt8) (z c : UInt8) : Lib.hasSuffix (v ++ [z]) [c] = (c == z) := by
  unfold Lib.hasSuffix List.isSuffixOf
  simp [List.isPrefixOf]
theorem hold_is {c : UInt8} {r : List UInt8} (hm : markB c = true) :
    holdB (c :: r) = (Lib.hasPrefix (c :: r) [c, c, c] && (Lib.hasSuffix ((c :: r).drop 3) [c] && portB (((c :: r).drop 3).take (((c :: r).drop 3).length - 1)))) := by
  match r with
  | [] => simp [holdB, Lib.hasPrefix, List.isPrefixOf]
  | [d] => simp [holdB, Lib.hasPrefix, List.isPrefixOf]
  | d :: e :: u =>
    rcases List.eq_nil_or_concat u with rfl | ⟨v, z, rfl⟩
    · simp [holdB, Lib.hasSuffix, List.isSuffixOf]
    · have e0 : (c :: d :: e :: (v ++ [z])).drop 3 = v ++ [z] := rfl
      have e1 : (v ++ [z]).take ((v ++ [z]).length - 1) = v := by simp
      have e2 : mid (c :: d :: e :: (v ++ [z])) = v := by unfold mid; rw [e0]; simp
      have e3 : (c :: d :: e :: (v ++ [z])).getD ((c :: d :: e :: (v ++ [z])).length - 1) 0 = z := by
        simp [List.getD]
      simp only [List.concat_eq_append]
      rw [e0, e1, suffix_one]
      unfold holdB
      rw [e2, e3]
      simp only [List.getD_cons_zero, List.getD_cons_succ, hm, Lib.hasPrefix, List.isPrefixOf]
      cases v with
      | nil =>
        have : portB [] = false := by unfold portB; rw [ref_empty]; rfl
        simp [this]
      | cons y t =>
        have h5 : decide (5 ≤ (c :: d :: e :: (y :: t ++ [z])).length) = true := by simp
        rw [h5]
        rw [Bool.eq_iff_iff]
        simp
        constructor
        · rintro ⟨h1, h2, h3, h4⟩; exact ⟨⟨h1.symm, h2.symm⟩, h3.symm, h4⟩
        · rintro ⟨⟨h1, h2⟩, h3, h4⟩; exact ⟨h1.symm, h2.symm, h3.symm, h4⟩
theorem hold_mid {c : UInt8} {r : List UInt8} : mid (c :: r) = ((c :: r).drop 3).take (((c :: r).drop 3).length - 1) := by
  unfold mid
  congr 1
  simp
  omega
theorem hold_markless {c : UInt8} {r : List UInt8} (hm : markB c = false) : holdB (c :: r) = false := by
  unfold holdB
  simp [hm]

#print axioms hold_is
#print axioms five_no
end Go.Proofs.YtdimfppijcebjaaGreatDoor.Ext

/- Plain facts on replies (layer 9): what ends one, which may be, printed, taken. No program in this text. -/
namespace Go.Proofs.YtdimfppijcebjaaGreatDoor.Rp
open Go Go.Proofs.YtdimfppijcebjaaGreatDoor.Cm Go.Proofs.YtdimfppijcebjaaGreatDoor.Quad

abbrev Ls := List (List UInt8)
/-- does a line end a reply of a code? -/
def ends (code : Int) (s : List UInt8) : Bool := (s == Lib.itoa code) || (decide ((Lib.itoa code).length + 1 ≤ s.length) && (s.take ((Lib.itoa code).length + 1) == Lib.itoa code ++ [32]))
/-- may the line at i be, of n? -/
def okAt (code : Int) (n i : Nat) (s : List UInt8) : Bool := clean s && decide (s.length ≤ 500) && !(decide (0 < i) && decide (i + 1 < n) && ends code s)
def okUpto (code : Int) (l : Ls) (k : Nat) : Bool := (List.range k).all fun i => okAt code l.length i (l.getD i [])
def mayB (code : Int) (l : Ls) : Bool := decide (100 ≤ code) && decide (code ≤ 599) && decide (1 ≤ l.length) && decide (l.length ≤ 20) && okUpto code l l.length
/-- the line at i, of n, as it is sent -/
def lineAt (code : Int) (n i : Nat) (s : List UInt8) : List UInt8 := if i + 1 = n then Lib.itoa code ++ 32 :: s else if i = 0 then Lib.itoa code ++ 45 :: s else s
def linesUpto (code : Int) (l : Ls) (k : Nat) : Ls := (List.range k).map fun i => lineAt code l.length i (l.getD i [])
def linesOf (code : Int) (l : Ls) : Ls := linesUpto code l l.length
def print (code : Int) (l : Ls) : Ls × Bool := if mayB code l then (linesOf code l, true) else ([], false)
def same (c : Int) (l : Ls) (c' : Int) (l' : Ls) : Bool := decide (c = c' ∧ l = l')

theorem getD_at {l : Ls} {i : Nat} (h : i < l.length) : l.getD i [] = l[i] := by simp [List.getD, h]
theorem ok_next {code : Int} {l : Ls} {k : Nat} (h : k < l.length) : okUpto code l (k + 1) = (okUpto code l k && okAt code l.length k l[k]) := by
  unfold okUpto
  rw [List.range_succ, List.all_append, List.all_cons, List.all_nil, Bool.and_true, getD_at h]
theorem ok_zero (code : Int) (l : Ls) : okUpto code l 0 = true := rfl
theorem ok_at {code : Int} {l : Ls} {k i : Nat} (h : okUpto code l k = true) (hi : i < k) (hl : i < l.length) : okAt code l.length i l[i] = true := by
  have := List.all_eq_true.1 h i (List.mem_range.2 hi)
  rwa [getD_at hl] at this
theorem ok_no {code : Int} {l : Ls} {k i : Nat} (hl : i < l.length) (hi : i < k) (h : okAt code l.length i l[i] = false) : okUpto code l k = false := by
  cases hc : okUpto code l k with
  | false => rfl
  | true => rw [ok_at hc hi hl] at h; cases h
theorem lines_next {code : Int} {l : Ls} {k : Nat} (h : k < l.length) : linesUpto code l (k + 1) = linesUpto code l k ++ [lineAt code l.length k l[k]] := by
  unfold linesUpto
  rw [List.range_succ, List.map_append, List.map_cons, List.map_nil, getD_at h]
theorem lines_len (code : Int) (l : Ls) (k : Nat) : (linesUpto code l k).length = k := by unfold linesUpto; simp
theorem lines_at {code : Int} {l : Ls} {k i : Nat} (hi : i < (linesUpto code l k).length) (hl : i < l.length) : (linesUpto code l k)[i] = lineAt code l.length i l[i] := by
  have hk : i < k := by rw [lines_len] at hi; exact hi
  have e : (linesUpto code l k)[i]? = some (lineAt code l.length i l[i]) := by
    unfold linesUpto
    rw [List.getElem?_map, List.getElem?_range hk, Option.map_some, getD_at hl]
  rw [List.getElem?_eq_getElem hi] at e
  exact Option.some.inj e

structure May (code : Int) (l : Ls) : Prop where
  lo : 100 ≤ code
  hi : code ≤ 599
  one : 1 ≤ l.length
  few : l.length ≤ 20
  clean : ∀ i (h : i < l.length), Cm.clean l[i] = true
  short : ∀ i (h : i < l.length), l[i].length ≤ 500
  mid : ∀ i (h : i < l.length), 0 < i → i + 1 < l.length → ends code l[i] = false
theorem may_parts {code : Int} {l : Ls} (h : mayB code l = true) : May code l := by
  unfold mayB at h
  simp only [Bool.and_eq_true, decide_eq_true_eq] at h
  obtain ⟨⟨⟨⟨h1, h2⟩, h3⟩, h4⟩, h5⟩ := h
  have hk : ∀ i (h : i < l.length), (Cm.clean l[i] = true ∧ l[i].length ≤ 500) ∧ (0 < i → i + 1 < l.length → ends code l[i] = false) := fun i hi => by
    have := ok_at h5 hi hi
    unfold okAt at this
    simp only [Bool.and_eq_true, decide_eq_true_eq, Bool.not_eq_true', Bool.and_eq_false_iff, decide_eq_false_iff_not] at this
    refine ⟨this.1, fun a b => ?_⟩
    rcases this.2 with (h | h) | h
    · exact absurd a h
    · exact absurd b h
    · exact h
  exact ⟨h1, h2, h3, h4, fun i h => (hk i h).1.1, fun i h => (hk i h).1.2, fun i h => (hk i h).2⟩
theorem may_of {code : Int} {l : Ls} (h : May code l) : mayB code l = true := by
  unfold mayB
  simp only [Bool.and_eq_true, decide_eq_true_eq]
  refine ⟨⟨⟨⟨h.lo, h.hi⟩, h.one⟩, h.few⟩, ?_⟩
  refine List.all_eq_true.2 fun i hi => ?_
  have hi := List.mem_range.1 hi
  rw [getD_at hi]
  unfold okAt
  simp only [Bool.and_eq_true, decide_eq_true_eq, Bool.not_eq_true', Bool.and_eq_false_iff, decide_eq_false_iff_not]
  refine ⟨⟨h.clean i hi, h.short i hi⟩, ?_⟩
  by_cases a : 0 < i
  · by_cases b : i + 1 < l.length
    · exact Or.inr (h.mid i hi a b)
    · exact Or.inl (Or.inr b)
  · exact Or.inl (Or.inl a)

/-! codes of three digits -/
theorem code_digits : ∀ k : Nat, k < 500 → Lib.itoa ((k + 100 : Nat) : Int) = [UInt8.ofNat (48 + (k + 100) / 100), UInt8.ofNat (48 + (k + 100) / 10 % 10), UInt8.ofNat (48 + (k + 100) % 10)] := by decide +kernel
theorem code_three {code : Int} (lo : 100 ≤ code) (hi : code ≤ 599) : Lib.itoa code = [UInt8.ofNat (48 + code.toNat / 100), UInt8.ofNat (48 + code.toNat / 10 % 10), UInt8.ofNat (48 + code.toNat % 10)] := by
  have h := code_digits (code.toNat - 100) (by omega)
  have e : code.toNat - 100 + 100 = code.toNat := by omega
  rw [e] at h
  rw [show (code.toNat : Int) = code from by omega] at h
  exact h
theorem code_len {code : Int} (lo : 100 ≤ code) (hi : code ≤ 599) : (Lib.itoa code).length = 3 := by rw [code_three lo hi]; rfl
theorem code_clean {code : Int} (lo : 100 ≤ code) (hi : code ≤ 599) : Cm.clean (Lib.itoa code) = true := by
  refine List.all_eq_true.2 fun c hc => ?_
  rw [itoa_pos (by omega)] at hc
  have := digits_dig hc
  exact decide_eq_true (by omega)
theorem code_get {code : Int} (lo : 100 ≤ code) (hi : code ≤ 599) : getB (Lib.itoa code) 599 = true ∧ getV (Lib.itoa code) 599 = code := by
  obtain ⟨n, rfl⟩ : ∃ n : Nat, code = (n : Int) := ⟨code.toNat, by omega⟩
  have hb : getB (Lib.itoa (n : Int)) 599 = true := (getB_iff _ _).2 ⟨n, (itoa_nat n).symm, by rw [code_len lo hi]; decide, hi, by
    have hg : getO (Lib.itoa (n : Int)) = some n := (getO_iff _ _).2 ⟨(itoa_nat n).symm, by rw [code_len lo hi]; decide⟩
    exact getV_yes hg hi⟩
  refine ⟨hb, ?_⟩
  obtain ⟨m, h1, _, _, h4⟩ := (getB_iff _ _).1 hb
  rw [itoa_nat] at h1
  rw [digits_inj h1] at h4
  exact h4

/-! what is taken -/
/-- what has come of a reply: its code, lines, and whether it goes on -/
structure Ga where
  code : Int
  lines : Ls
  isOpen : Bool
  deriving DecidableEq
abbrev Ga.none : Ga := ⟨0, [], false⟩
/-- what is answered: the gather, the reply's code and lines, whether it was taken, the error -/
structure Tk where
  g : Ga
  code : Int
  lines : Ls
  done : Bool
  err : Int
  deriving DecidableEq
def Tk.bad (e : Int) : Tk := ⟨Ga.none, 0, [], false, e⟩
def begins (s : List UInt8) : Bool := decide (3 ≤ s.length) && (getB (s.take 3) 599 && (decide (100 ≤ getV (s.take 3) 599) && (decide (s.length = 3) || (s[3]? == some 32) || (s[3]? == some 45))))
def first (s : List UInt8) : Tk :=
  if begins s then (if s[3]? == some 45 then ⟨⟨getV (s.take 3) 599, [s.drop 4], true⟩, 0, [], false, 0⟩ else ⟨Ga.none, getV (s.take 3) 599, [s.drop 4], true, 0⟩) else Tk.bad 2
def later (code : Int) (l : Ls) (s : List UInt8) : Tk :=
  if ends code s then ⟨Ga.none, code, l ++ [s.drop ((Lib.itoa code).length + 1)], true, 0⟩ else if 19 ≤ l.length then Tk.bad 5 else ⟨⟨code, l ++ [s], true⟩, 0, [], false, 0⟩
def take (g : Ga) (s : List UInt8) : Tk :=
  if clean s && decide (s.length ≤ 504) then (if g.isOpen then later g.code g.lines s else first s) else Tk.bad 2

/-! what is printed is taken -/
theorem ends_last {code : Int} (s : List UInt8) : ends code (Lib.itoa code ++ 32 :: s) = true := by
  unfold ends
  rw [Bool.or_eq_true, Bool.and_eq_true]
  right
  constructor
  · refine decide_eq_true ?_
    rw [List.length_append, List.length_cons]; omega
  · rw [beq_iff_eq, List.take_append, List.take_of_length_le (by omega)]
    simp
theorem drop_last {code : Int} (s : List UInt8) : (Lib.itoa code ++ 32 :: s).drop ((Lib.itoa code).length + 1) = s := by simp [List.drop_append]
theorem first_line {code : Int} (lo : 100 ≤ code) (hi : code ≤ 599) (c : UInt8) (s : List UInt8) (hc : c = 32 ∨ c = 45) :
    first (Lib.itoa code ++ c :: s) = if c = 45 then ⟨⟨code, [s], true⟩, 0, [], false, 0⟩ else ⟨Ga.none, code, [s], true, 0⟩ := by
  have hl := code_len lo hi
  have h3 : (Lib.itoa code ++ c :: s).take 3 = Lib.itoa code := by rw [← hl]; simp
  have hx : (Lib.itoa code ++ c :: s)[3]? = some c := by rw [List.getElem?_append_right (by omega), hl]; rfl
  have h4 : (Lib.itoa code ++ c :: s).drop 4 = s := by
    rw [List.drop_append, hl, List.drop_eq_nil_of_le (by omega)]; rfl
  obtain ⟨g1, g2⟩ := code_get lo hi
  have hb : begins (Lib.itoa code ++ c :: s) = true := by
    unfold begins
    rw [h3, g1, g2, hx, decide_eq_true lo, decide_eq_true (by rw [List.length_append, hl]; omega)]
    rcases hc with rfl | rfl <;> simp
  unfold first
  rw [hb, h3, hx, h4, g2, if_pos rfl]
  rcases hc with rfl | rfl <;> rfl
theorem line_clean {code : Int} {l : Ls} (h : May code l) {i : Nat} (hi : i < l.length) : clean (lineAt code l.length i l[i]) = true ∧ (lineAt code l.length i l[i]).length ≤ 504 := by
  have hl := code_len h.lo h.hi
  have hs := h.short i hi
  have hc := h.clean i hi
  have one : ∀ c : UInt8, cleanB c = true → clean (Lib.itoa code ++ c :: l[i]) = true ∧ (Lib.itoa code ++ c :: l[i]).length ≤ 504 := fun c hcb => by
    refine ⟨?_, by rw [List.length_append, List.length_cons, hl]; omega⟩
    rw [clean_append, clean_cons, code_clean h.lo h.hi, hcb, hc]; rfl
  unfold lineAt
  by_cases h1 : i + 1 = l.length
  · rw [if_pos h1]; exact one 32 (by decide)
  · rw [if_neg h1]
    by_cases h0 : i = 0
    · rw [if_pos h0]; exact one 45 (by decide)
    · rw [if_neg h0]; exact ⟨hc, by omega⟩
/-- what has come before the line at i -/
def before (code : Int) (l : Ls) (i : Nat) : Ga := if i = 0 then Ga.none else ⟨code, l.take i, true⟩
theorem take_line {code : Int} {l : Ls} (h : May code l) {i : Nat} (hi : i < l.length) :
    take (before code l i) (lineAt code l.length i l[i]) = if i + 1 = l.length then ⟨Ga.none, code, l, true, 0⟩ else ⟨before code l (i + 1), 0, [], false, 0⟩ := by
  obtain ⟨hc, hs⟩ := line_clean h hi
  unfold take
  rw [hc, decide_eq_true hs, Bool.and_self, if_pos rfl]
  unfold before lineAt
  by_cases h0 : i = 0
  · subst h0
    rw [if_pos rfl, if_neg (by decide : ¬ Ga.none.isOpen = true)]
    by_cases h1 : 0 + 1 = l.length
    · rw [if_pos h1, if_pos h1, first_line h.lo h.hi 32 _ (Or.inl rfl), if_neg (by decide)]
      congr 1
      match l, h1 with
      | [x], _ => rfl
    · rw [if_neg h1, if_neg h1, if_pos rfl, first_line h.lo h.hi 45 _ (Or.inr rfl), if_pos rfl, if_neg (by omega)]
      congr 2
      match l, hi with
      | x :: r, _ => rfl
  · rw [if_neg h0, if_pos (rfl : (Ga.mk code (l.take i) true).isOpen = true)]
    show later code (l.take i) _ = _
    by_cases h1 : i + 1 = l.length
    · rw [if_pos h1, if_pos h1]
      unfold later
      rw [ends_last, if_pos rfl, drop_last]
      congr 1
      have : l.take i ++ [l[i]] = l.take (i + 1) := (List.take_succ_eq_append_getElem hi).symm
      rw [this, h1, List.take_length]
    · rw [if_neg h1, if_neg h1, if_neg h0, if_neg (by omega : ¬ i + 1 = 0)]
      unfold later
      rw [h.mid i hi (by omega) (by omega), if_neg (by decide), if_neg (by rw [List.length_take]; have := h.few; omega)]
      rw [List.take_succ_eq_append_getElem hi]

/-! printed alike only if the same -/
theorem itoa_line {c c' : Int} (lo : 100 ≤ c) (hi : c ≤ 599) (lo' : 100 ≤ c') (hi' : c' ≤ 599) {x : UInt8} {s s' : List UInt8} (h : Lib.itoa c ++ x :: s = Lib.itoa c' ++ x :: s') : c = c' ∧ s = s' := by
  obtain ⟨h1, h2⟩ := List.append_inj h (by rw [code_len lo hi, code_len lo' hi'])
  exact ⟨itoa_inj h1, (List.cons.inj h2).2⟩
theorem lines_inj {c c' : Int} {l l' : Ls} (h : May c l) (h' : May c' l') (e : linesOf c l = linesOf c' l') : c = c' ∧ l = l' := by
  have hlen : l.length = l'.length := by
    have := congrArg List.length e
    unfold linesOf at this
    rwa [lines_len, lines_len] at this
  have at' : ∀ i (hi : i < l.length) (hi' : i < l'.length), lineAt c l.length i l[i] = lineAt c' l'.length i l'[i] := fun i hi hi' => by
    have h1 : (linesOf c l)[i]'(by unfold linesOf; rw [lines_len]; exact hi) = (linesOf c' l')[i]'(by unfold linesOf; rw [lines_len]; exact hi') := by simp only [e]
    unfold linesOf at h1
    rw [lines_at _ hi, lines_at _ hi'] at h1
    exact h1
  have one := h.one
  have hz := at' (l.length - 1) (by omega) (by omega)
  unfold lineAt at hz
  rw [if_pos (by omega), if_pos (by omega)] at hz
  have hc := (itoa_line h.lo h.hi h'.lo h'.hi hz).1
  refine ⟨hc, ?_⟩
  subst hc
  refine List.ext_getElem hlen fun i hi hi' => ?_
  have hx := at' i hi hi'
  unfold lineAt at hx
  rw [← hlen] at hx
  by_cases h1 : i + 1 = l.length
  · rw [if_pos h1, if_pos h1] at hx
    exact (itoa_line h.lo h.hi h.lo h.hi hx).2
  · rw [if_neg h1, if_neg h1] at hx
    by_cases h0 : i = 0
    · rw [if_pos h0, if_pos h0] at hx
      exact (itoa_line h.lo h.hi h.lo h.hi hx).2
    · rw [if_neg h0, if_neg h0] at hx
      exact hx

/-! ReplyOpen -/
theorem may_one {code : Int} (s : List UInt8) : mayB code [s] = (decide (100 ≤ code) && decide (code ≤ 599) && (clean s && decide (s.length ≤ 500))) := by
  unfold mayB okUpto
  simp [okAt, List.range_succ]
theorem other_ends {c c' : Int} (lo : 100 ≤ c) (hi : c ≤ 599) (lo' : 100 ≤ c') (hi' : c' ≤ 599) (hne : c ≠ c') (s : List UInt8) : ends c (Lib.itoa c' ++ 32 :: s) = false := by
  unfold ends
  rw [Bool.or_eq_false_iff]
  constructor
  · rw [beq_eq_false_iff_ne]
    intro e
    have := congrArg List.length e
    rw [List.length_append, List.length_cons, code_len lo hi, code_len lo' hi'] at this
    omega
  · rw [Bool.and_eq_false_iff]
    right
    rw [beq_eq_false_iff_ne]
    intro e
    have h4 : (Lib.itoa c' ++ 32 :: s).take ((Lib.itoa c).length + 1) = Lib.itoa c' ++ [32] := by
      rw [code_len lo hi, List.take_append, code_len lo' hi']
      rw [List.take_of_length_le (by rw [code_len lo' hi']; omega)]
      rfl
    rw [h4] at e
    exact hne (itoa_inj (List.append_inj e (by rw [code_len lo hi, code_len lo' hi'])).1).symm

#print axioms take_line
#print axioms lines_inj
#print axioms other_ends
end Go.Proofs.YtdimfppijcebjaaGreatDoor.Rp

/- Plain facts on ends that are told on (layer 19): what a command and a reply tell, and the command and the reply that tell an end. No program in this text. -/
namespace Go.Proofs.YtdimfppijcebjaaGreatDoor.Tu
open Go Go.Proofs.YtdimfppijcebjaaGreatDoor.Cm Go.Proofs.YtdimfppijcebjaaGreatDoor.Quad
open Go.Proofs.YtdimfppijcebjaaGreatDoor.Six (sixB sixN sixP sixL insL insO)
open Go.Proofs.YtdimfppijcebjaaGreatDoor.Ext (extC extH extP extL portL holdB holdN)

/-- an end: its host's four bytes, and its port -/
structure En where
  a : Int
  b : Int
  c : Int
  d : Int
  p : Int
deriving DecidableEq
abbrev En.z : En := ⟨0, 0, 0, 0, 0⟩
structure En.Wf (x : En) : Prop where
  a : 0 ≤ x.a ∧ x.a ≤ 255
  b : 0 ≤ x.b ∧ x.b ≤ 255
  c : 0 ≤ x.c ∧ x.c ≤ 255
  d : 0 ≤ x.d ∧ x.d ≤ 255
  p : -9223372036854775808 ≤ x.p ∧ x.p ≤ 9223372036854775807

abbrev portV : List UInt8 := [80, 79, 82, 84]
abbrev eprtV : List UInt8 := [69, 80, 82, 84]
abbrev pasvV : List UInt8 := [80, 65, 83, 86]
abbrev epsvV : List UInt8 := [69, 80, 83, 86]

/-- is an end one of a host? -/
def atB (x : En) (h0 h1 h2 h3 : Int) : Bool := x.a == h0 && x.b == h1 && x.c == h2 && x.d == h3
def openB (p : Int) : Bool := decide (1024 ≤ p) && decide (p ≤ 65535)
def ownE (x : En) (h0 h1 h2 h3 : Int) : En × Int := if atB x h0 h1 h2 h3 && openB x.p then (x, 0) else (En.z, 6)
def sixE (l : List UInt8) : En := ⟨sixN l 0, sixN l 1, sixN l 2, sixN l 3, sixP l⟩
def extE (l : List UInt8) : En := ⟨extH l 0, extH l 1, extH l 2, extH l 3, extP l⟩
/-- what a command tells -/
def pointE (v s : List UInt8) (h0 h1 h2 h3 : Int) : En × Int :=
  if v = portV then (if sixB s then ownE (sixE s) h0 h1 h2 h3 else (En.z, 2))
  else if v = eprtV then (if extC s = 0 then ownE (extE s) h0 h1 h2 h3 else (En.z, extC s))
  else (En.z, 1)
/-- the one line of a reply of a code, or nothing -/
def lineOf (code : Int) (ls : List (List UInt8)) (want : Int) : List UInt8 := if code = want ∧ ls.length = 1 then ls.getD 0 [] else []
/-- what a reply tells -/
def listenE (v : List UInt8) (code : Int) (ls : List (List UInt8)) (h0 h1 h2 h3 : Int) : En × Int :=
  if v = pasvV then (if sixB (insL (lineOf code ls 227)) then ownE (sixE (insL (lineOf code ls 227))) h0 h1 h2 h3 else (En.z, 2))
  else if v = epsvV then (if holdB (insL (lineOf code ls 229)) then ownE ⟨h0, h1, h2, h3, holdN (insL (lineOf code ls 229))⟩ h0 h1 h2 h3 else (En.z, 2))
  else (En.z, 1)
/-- the command that tells an end -/
def askB (v : List UInt8) (x : En) : Bool := (decide (v = portV) || decide (v = eprtV)) && openB x.p
def askT (v : List UInt8) (x : En) : List UInt8 := if v = portV then sixL x.a x.b x.c x.d x.p else extL x.a x.b x.c x.d x.p
def askE (v : List UInt8) (x : En) : (List UInt8 × List UInt8) × Bool := if askB v x then ((v, askT v x), true) else (([], []), false)
/-- the reply that tells an end -/
abbrev passT : List UInt8 := [69, 110, 116, 101, 114, 105, 110, 103, 32, 80, 97, 115, 115, 105, 118, 101, 32, 77, 111, 100, 101, 32]
abbrev extdT : List UInt8 := [69, 110, 116, 101, 114, 105, 110, 103, 32, 69, 120, 116, 101, 110, 100, 101, 100, 32, 80, 97, 115, 115, 105, 118, 101, 32, 77, 111, 100, 101, 32]
def tellB (v : List UInt8) (x : En) : Bool := (decide (v = pasvV) || decide (v = epsvV)) && openB x.p
def tellT (v : List UInt8) (x : En) : List UInt8 := if v = pasvV then passT ++ [40] ++ sixL x.a x.b x.c x.d x.p ++ [41] ++ [46] else extdT ++ portL x.p ++ [46]
def tellC (v : List UInt8) : Int := if v = pasvV then 227 else 229
def tellE (v : List UInt8) (x : En) : (Int × List (List UInt8)) × Bool := if tellB v x then ((tellC v, [tellT v x]), true) else ((0, []), false)

/-- an end that was read, or why there is none -/
def ownN (x : En) (no h0 h1 h2 h3 : Int) : En × Int := if no = 0 then ownE x h0 h1 h2 h3 else (En.z, no)
def readC (v s : List UInt8) : En × Int :=
  if v = portV then (if sixB s then (sixE s, 0) else (En.z, 2))
  else if v = eprtV then (if extC s = 0 then (extE s, 0) else (En.z, extC s))
  else (En.z, 1)
def readR (v : List UInt8) (code : Int) (ls : List (List UInt8)) (h0 h1 h2 h3 : Int) : En × Int :=
  if v = pasvV then (if sixB (insL (lineOf code ls 227)) then (sixE (insL (lineOf code ls 227)), 0) else (En.z, 2))
  else if v = epsvV then (if holdB (insL (lineOf code ls 229)) then (⟨h0, h1, h2, h3, holdN (insL (lineOf code ls 229))⟩, 0) else (En.z, 2))
  else (En.z, 1)

/-! facts -/
theorem point_read (v s : List UInt8) (h0 h1 h2 h3 : Int) : pointE v s h0 h1 h2 h3 = ownN (readC v s).1 (readC v s).2 h0 h1 h2 h3 := by
  unfold pointE readC ownN
  split
  · split
    · rfl
    · rfl
  · split
    · split
      · rfl
      · rename_i h; first | rfl | exact (if_neg h).symm
    · rfl
theorem listen_read (v : List UInt8) (code : Int) (ls : List (List UInt8)) (h0 h1 h2 h3 : Int) : listenE v code ls h0 h1 h2 h3 = ownN (readR v code ls h0 h1 h2 h3).1 (readR v code ls h0 h1 h2 h3).2 h0 h1 h2 h3 := by
  unfold listenE readR ownN
  split
  · split
    · rfl
    · rfl
  · split
    · split
      · rfl
      · rfl
    · rfl
theorem readC_no (v s : List UInt8) : (readC v s).2 = 0 ∨ (readC v s).2 = 1 ∨ (readC v s).2 = 2 ∨ (readC v s).2 = 8 := by
  unfold readC
  split
  · split
    · exact Or.inl rfl
    · exact Or.inr (Or.inr (Or.inl rfl))
  · split
    · split
      · exact Or.inl rfl
      · rcases Ext.extC_mem s with h | h | h
        · exact Or.inl h
        · exact Or.inr (Or.inr (Or.inl h))
        · exact Or.inr (Or.inr (Or.inr h))
    · exact Or.inr (Or.inl rfl)
theorem readR_no (v : List UInt8) (code : Int) (ls : List (List UInt8)) (h0 h1 h2 h3 : Int) : (readR v code ls h0 h1 h2 h3).2 = 0 ∨ (readR v code ls h0 h1 h2 h3).2 = 1 ∨ (readR v code ls h0 h1 h2 h3).2 = 2 := by
  unfold readR
  split
  · split
    · exact Or.inl rfl
    · exact Or.inr (Or.inr rfl)
  · split
    · split
      · exact Or.inl rfl
      · exact Or.inr (Or.inr rfl)
    · exact Or.inr (Or.inl rfl)
theorem line_le {code want : Int} {ls : List (List UInt8)} {n : Nat} (h : ∀ s ∈ ls, s.length ≤ n) : (lineOf code ls want).length ≤ n := by
  unfold lineOf
  split
  · rename_i g
    match ls, g with
    | [s], _ => exact h s (by simp)
  · exact Nat.zero_le _
theorem open_is {p : Int} : openB p = true ↔ 1024 ≤ p ∧ p ≤ 65535 := by unfold openB; simp
theorem at_is {x : En} {h0 h1 h2 h3 : Int} : atB x h0 h1 h2 h3 = true ↔ x.a = h0 ∧ x.b = h1 ∧ x.c = h2 ∧ x.d = h3 := by unfold atB; simp [and_assoc]
theorem own_ok {x : En} {h0 h1 h2 h3 : Int} (h : (ownE x h0 h1 h2 h3).2 = 0) : ownE x h0 h1 h2 h3 = (x, 0) ∧ atB x h0 h1 h2 h3 = true ∧ openB x.p = true := by
  unfold ownE at h ⊢
  by_cases g : (atB x h0 h1 h2 h3 && openB x.p) = true
  · rw [if_pos g]; rw [Bool.and_eq_true] at g; exact ⟨rfl, g.1, g.2⟩
  · rw [if_neg g] at h; simp at h
theorem own_no {x : En} {h0 h1 h2 h3 : Int} (h : (ownE x h0 h1 h2 h3).2 ≠ 0) : ownE x h0 h1 h2 h3 = (En.z, 6) := by
  unfold ownE at h ⊢
  by_cases g : (atB x h0 h1 h2 h3 && openB x.p) = true
  · rw [if_pos g] at h; simp at h
  · rw [if_neg g]
/-- what TurnOwn says of an end that is told -/
def Owned (r : En × Int) (h0 h1 h2 h3 : Int) : Prop := (r.2 = 0 ∧ atB r.1 h0 h1 h2 h3 = true ∧ 1024 ≤ r.1.p ∧ r.1.p ≤ 65535) ∨ (r.2 ≠ 0 ∧ r.1 = En.z)
theorem own_owned (x : En) (h0 h1 h2 h3 : Int) : Owned (ownE x h0 h1 h2 h3) h0 h1 h2 h3 := by
  by_cases h : (ownE x h0 h1 h2 h3).2 = 0
  · obtain ⟨e, g1, g2⟩ := own_ok h
    rw [e]
    exact Or.inl ⟨rfl, g1, open_is.1 g2⟩
  · rw [own_no h]; exact Or.inr ⟨by decide, rfl⟩
theorem point_owned (v s : List UInt8) (h0 h1 h2 h3 : Int) : Owned (pointE v s h0 h1 h2 h3) h0 h1 h2 h3 := by
  unfold pointE
  split
  · split
    · exact own_owned _ _ _ _ _
    · exact Or.inr ⟨by decide, rfl⟩
  · split
    · split
      · exact own_owned _ _ _ _ _
      · rename_i h; exact Or.inr ⟨h, rfl⟩
    · exact Or.inr ⟨by decide, rfl⟩
theorem listen_owned (v : List UInt8) (code : Int) (ls : List (List UInt8)) (h0 h1 h2 h3 : Int) : Owned (listenE v code ls h0 h1 h2 h3) h0 h1 h2 h3 := by
  unfold listenE
  split
  · split
    · exact own_owned _ _ _ _ _
    · exact Or.inr ⟨by decide, rfl⟩
  · split
    · split
      · exact own_owned _ _ _ _ _
      · exact Or.inr ⟨by decide, rfl⟩
    · exact Or.inr ⟨by decide, rfl⟩

/-! TurnOnly -/
theorem point_other {v : List UInt8} (h : v ≠ portV) (h' : v ≠ eprtV) (s : List UInt8) (h0 h1 h2 h3 : Int) : (pointE v s h0 h1 h2 h3).2 = 1 := by
  unfold pointE; rw [if_neg h, if_neg h']
theorem listen_other {v : List UInt8} (h : v ≠ pasvV) (h' : v ≠ epsvV) (code : Int) (ls : List (List UInt8)) (h0 h1 h2 h3 : Int) : (listenE v code ls h0 h1 h2 h3).2 = 1 := by
  unfold listenE; rw [if_neg h, if_neg h']
theorem six_none : sixB (insL []) = false := by decide
theorem hold_none : holdB (insL []) = false := by decide
theorem line_none {code want : Int} {ls : List (List UInt8)} (h : code ≠ want ∨ ls.length ≠ 1) : lineOf code ls want = [] := by
  unfold lineOf; rw [if_neg (by rintro ⟨a, b⟩; rcases h with h | h <;> exact h (by assumption))]
theorem listen_form {v : List UInt8} (code : Int) (ls : List (List UInt8)) (h0 h1 h2 h3 : Int) (hv : v = pasvV ∧ (code ≠ 227 ∨ ls.length ≠ 1) ∨ v = epsvV ∧ (code ≠ 229 ∨ ls.length ≠ 1)) : (listenE v code ls h0 h1 h2 h3).2 = 2 := by
  rcases hv with ⟨rfl, h⟩ | ⟨rfl, h⟩
  · unfold listenE; rw [if_pos rfl, line_none h, six_none]; rfl
  · unfold listenE; rw [if_neg (by decide), if_pos rfl, line_none h, hold_none]; rfl

/-! TurnBack -/
theorem six_clean {x : En} (H : x.Wf) (hp : openB x.p = true) : clean (sixL x.a x.b x.c x.d x.p) = true := by
  have := open_is.1 hp
  refine List.all_eq_true.2 fun y hy => ?_
  have := Six.six_bytes H.a.1 H.b.1 H.c.1 H.d.1 (by omega) hy
  unfold cleanB
  rcases this with rfl | h
  · decide
  · exact decide_eq_true (by omega)
theorem digits_clean {n : Int} (h : 0 ≤ n) : clean (Lib.itoa n) = true := by
  refine List.all_eq_true.2 fun y hy => ?_
  rw [itoa_pos h] at hy
  have := digits_dig hy
  unfold cleanB
  exact decide_eq_true (by omega)
theorem port_clean {n : Int} (h : 0 ≤ n) : clean (portL n) = true := by
  unfold portL
  rw [clean_append, clean_append, digits_clean h]
  decide
theorem ext_clean {x : En} (H : x.Wf) (hp : openB x.p = true) : clean (extL x.a x.b x.c x.d x.p) = true := by
  have := open_is.1 hp
  unfold extL
  rw [clean_append, clean_append, clean_append, clean_append, digits_clean (by omega)]
  have ht : clean (textL x.a x.b x.c x.d) = true := by
    refine List.all_eq_true.2 fun y hy => ?_
    have := text_bytes H.a.1 H.b.1 H.c.1 H.d.1 hy
    unfold cleanB
    rcases this with rfl | h
    · decide
    · exact decide_eq_true (by omega)
  rw [ht]
  decide
theorem six_ne (a b c d p : Int) : sixL a b c d p ≠ [] := by unfold sixL; simp
theorem ext_ne (a b c d p : Int) : extL a b c d p ≠ [] := by unfold extL; simp
theorem may_ask {v s : List UInt8} (hv : v = portV ∨ v = eprtV) (hc : clean s = true) (hn : s ≠ []) : Cm.may v s = true := by
  rcases hv with rfl | rfl
  · have := may_each (x := ⟨portV, 5, 2, false⟩) (by decide) s
    rw [this, hc]; simp [hn]
  · have := may_each (x := ⟨eprtV, 5, 2, false⟩) (by decide) s
    rw [this, hc]; simp [hn]
theorem ask_point {v : List UInt8} {x : En} (H : x.Wf) (h : askB v x = true) (h0 h1 h2 h3 : Int) :
    pointE v (askT v x) h0 h1 h2 h3 = (if atB x h0 h1 h2 h3 then (x, 0) else (En.z, 6)) ∧ Cm.may v (askT v x) = true ∧ (askT v x).length ≤ 100 ∧ tellB v x = false := by
  unfold askB at h
  rw [Bool.and_eq_true, Bool.or_eq_true, decide_eq_true_eq, decide_eq_true_eq] at h
  obtain ⟨hv, hp⟩ := h
  have hq := open_is.1 hp
  have hm := fun s hc hn => may_ask (s := s) hv hc hn
  have e : ∀ y, y = x → ownE y h0 h1 h2 h3 = (if atB x h0 h1 h2 h3 then (x, 0) else (En.z, 6)) := by
    rintro _ rfl
    unfold ownE
    rw [hp, Bool.and_true]
  rcases hv with rfl | rfl
  · obtain ⟨t, t0, t1, t2, t3, t4⟩ := Six.six_text H.a H.b H.c H.d (show 0 ≤ x.p ∧ x.p ≤ 65535 by omega)
    have hl := Six.six_length H.a H.b H.c H.d (show 0 ≤ x.p ∧ x.p ≤ 65535 by omega)
    have hT : askT portV x = sixL x.a x.b x.c x.d x.p := by unfold askT; exact if_pos rfl
    have hP : ∀ s, sixB s = true → pointE portV s h0 h1 h2 h3 = ownE (sixE s) h0 h1 h2 h3 := fun s hs => by
      unfold pointE
      rw [if_pos rfl, if_pos hs]
    unfold tellB
    rw [hT, hP _ t]
    refine ⟨?_, hm _ (six_clean H hp) (six_ne _ _ _ _ _), by omega, by simp⟩
    refine e _ ?_
    unfold sixE
    rw [t0, t1, t2, t3, t4]
  · obtain ⟨t, t0, t1, t2, t3, t4⟩ := Ext.ext_text H.a H.b H.c H.d (show 1 ≤ x.p ∧ x.p ≤ 65535 by omega)
    have hl : (extL x.a x.b x.c x.d x.p).length ≤ 100 := by
      have := text_length H.a H.b H.c H.d
      have hi : (Lib.itoa x.p).length ≤ 20 := itoa_most (by omega) (by omega)
      unfold extL; simp only [List.length_append, List.length_cons, List.length_nil]; omega
    have hT : askT eprtV x = extL x.a x.b x.c x.d x.p := by unfold askT; exact if_neg (by decide)
    have hP : ∀ s, extC s = 0 → pointE eprtV s h0 h1 h2 h3 = ownE (extE s) h0 h1 h2 h3 := fun s hs => by
      unfold pointE
      rw [if_neg (show ¬ eprtV = portV by decide), if_pos rfl, if_pos hs]
    unfold tellB
    rw [hT, hP _ t]
    refine ⟨?_, hm _ (ext_clean H hp) (ext_ne _ _ _ _ _), hl, by simp⟩
    refine e _ ?_
    unfold extE
    rw [t0, t1, t2, t3, t4]
theorem tell_pass {x : En} (H : x.Wf) (hp : openB x.p = true) : insL (tellT pasvV x) = sixL x.a x.b x.c x.d x.p := by
  have := open_is.1 hp
  unfold tellT
  rw [if_pos rfl]
  exact Six.find_written (by decide) (fun h => by have := Six.six_bytes H.a.1 H.b.1 H.c.1 H.d.1 (by omega) h; revert this; decide)
theorem tell_extd {x : En} (hp : openB x.p = true) : insL (tellT epsvV x) = [124, 124, 124] ++ Lib.itoa x.p ++ [124] := by
  have := open_is.1 hp
  unfold tellT
  rw [if_neg (by decide)]
  exact Ext.find_port (by decide) (by omega)
theorem tell_listen {v : List UInt8} {x : En} (H : x.Wf) (h : tellB v x = true) (h0 h1 h2 h3 : Int) :
    listenE v (tellC v) [tellT v x] h0 h1 h2 h3 = (if v = pasvV then (if atB x h0 h1 h2 h3 then (x, 0) else (En.z, 6)) else (⟨h0, h1, h2, h3, x.p⟩, 0)) ∧ Rp.mayB (tellC v) [tellT v x] = true ∧ (tellT v x).length ≤ 100 ∧ askB v x = false ∧ (v = pasvV ∨ v = epsvV) := by
  unfold tellB at h
  rw [Bool.and_eq_true, Bool.or_eq_true, decide_eq_true_eq, decide_eq_true_eq] at h
  obtain ⟨hv, hp⟩ := h
  have hq := open_is.1 hp
  have hline : ∀ c, lineOf c [tellT v x] c = tellT v x := fun c => by unfold lineOf; rw [if_pos ⟨rfl, rfl⟩]; rfl
  rcases hv with rfl | rfl
  · obtain ⟨t, t0, t1, t2, t3, t4⟩ := Six.six_text H.a H.b H.c H.d (show 0 ≤ x.p ∧ x.p ≤ 65535 by omega)
    have hl := Six.six_length H.a H.b H.c H.d (show 0 ≤ x.p ∧ x.p ≤ 65535 by omega)
    have hlen : (tellT pasvV x).length ≤ 100 := by unfold tellT; rw [if_pos rfl]; simp only [List.length_append, List.length_cons, List.length_nil]; omega
    have hcl : clean (tellT pasvV x) = true := by
      unfold tellT; rw [if_pos rfl, clean_append, clean_append, clean_append, clean_append, six_clean H hp]; decide
    refine ⟨?_, ?_, hlen, by unfold askB; simp, Or.inl rfl⟩
    · unfold listenE
      rw [if_pos rfl, show tellC pasvV = 227 from rfl, hline, tell_pass H hp, t, if_pos rfl, if_pos rfl]
      unfold ownE sixE
      rw [t0, t1, t2, t3, t4, hp, Bool.and_true]
    · rw [show tellC pasvV = 227 from rfl, Rp.may_one, hcl, decide_eq_true (show (tellT pasvV x).length ≤ 500 by omega)]
      decide
  · have g := Ext.hold_port (n := x.p) (by omega) hq.2
    have hi : (Lib.itoa x.p).length ≤ 20 := itoa_most (by omega) (by omega)
    have hlen : (tellT epsvV x).length ≤ 100 := by unfold tellT portL; rw [if_neg (by decide)]; simp only [List.length_append, List.length_cons, List.length_nil]; omega
    have hcl : clean (tellT epsvV x) = true := by
      unfold tellT; rw [if_neg (by decide), clean_append, clean_append, port_clean (by omega)]; decide
    refine ⟨?_, ?_, hlen, by unfold askB; simp, Or.inr rfl⟩
    · unfold listenE
      rw [if_neg (by decide), if_pos rfl, show tellC epsvV = 229 from rfl, hline, tell_extd hp, g.1, g.2, if_pos rfl, if_neg (by decide)]
      unfold ownE
      rw [hp, Bool.and_true, if_pos (show atB ⟨h0, h1, h2, h3, x.p⟩ h0 h1 h2 h3 = true by unfold atB; simp)]
    · rw [show tellC epsvV = 229 from rfl, Rp.may_one, hcl, decide_eq_true (show (tellT epsvV x).length ≤ 500 by omega)]
      decide

#print axioms ask_point
#print axioms tell_listen
#print axioms listen_form
end Go.Proofs.YtdimfppijcebjaaGreatDoor.Tu
