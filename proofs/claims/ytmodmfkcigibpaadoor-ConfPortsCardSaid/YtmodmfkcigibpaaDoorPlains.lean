/- VerbPlain, CmdPlain, QuadPlain, PathPlain, PathTrail, AclPlain, RoutePlain, ConfPlain, QuotaPlain, in one text. -/
import Derived.Lib.ItoaNum
import Derived.Lib.Atoi
import Derived.Lib.AtoiBound
import Derived.Lib.Split
import Derived.Lib.SplitLaws
import Derived.Lib.Join
import Derived.Deep.Slices
import Derived.Lib.Hide

/- Plain facts on the verbs (layer 7): the table, names in great letters, who is found. No program in this text. -/
namespace Go.Proofs.YtmodmfkcigibpaaDoor.Vb

structure Vb where
  name : List UInt8
  kind : Int
  arg : Int
  path : Bool
deriving DecidableEq
def noVb : Vb := ⟨[], 0, 0, false⟩
def verbs : List Vb := [
  ⟨[65, 66, 79, 82], 9, 0, false⟩,
  ⟨[65, 67, 67, 84], 0, 2, false⟩,
  ⟨[65, 76, 76, 79], 1, 2, false⟩,
  ⟨[65, 80, 80, 69], 3, 2, true⟩,
  ⟨[67, 68, 85, 80], 2, 0, false⟩,
  ⟨[67, 87, 68], 2, 2, true⟩,
  ⟨[68, 69, 76, 69], 1, 2, true⟩,
  ⟨[69, 80, 82, 84], 5, 2, false⟩,
  ⟨[69, 80, 83, 86], 4, 0, false⟩,
  ⟨[70, 69, 65, 84], 1, 0, false⟩,
  ⟨[72, 69, 76, 80], 1, 1, false⟩,
  ⟨[76, 73, 83, 84], 3, 1, true⟩,
  ⟨[77, 68, 84, 77], 1, 2, true⟩,
  ⟨[77, 75, 68], 1, 2, true⟩,
  ⟨[77, 76, 83, 68], 3, 1, true⟩,
  ⟨[77, 76, 83, 84], 1, 1, true⟩,
  ⟨[77, 79, 68, 69], 1, 2, false⟩,
  ⟨[78, 76, 83, 84], 3, 1, true⟩,
  ⟨[78, 79, 79, 80], 1, 0, false⟩,
  ⟨[80, 65, 83, 83], 0, 1, false⟩,
  ⟨[80, 65, 83, 86], 4, 0, false⟩,
  ⟨[80, 79, 82, 84], 5, 2, false⟩,
  ⟨[80, 87, 68], 1, 0, false⟩,
  ⟨[81, 85, 73, 84], 10, 0, false⟩,
  ⟨[82, 69, 83, 84], 8, 2, false⟩,
  ⟨[82, 69, 84, 82], 3, 2, true⟩,
  ⟨[82, 77, 68], 1, 2, true⟩,
  ⟨[82, 78, 70, 82], 6, 2, true⟩,
  ⟨[82, 78, 84, 79], 7, 2, true⟩,
  ⟨[83, 73, 90, 69], 1, 2, true⟩,
  ⟨[83, 84, 65, 84], 1, 1, true⟩,
  ⟨[83, 84, 79, 82], 3, 2, true⟩,
  ⟨[83, 84, 82, 85], 1, 2, false⟩,
  ⟨[83, 89, 83, 84], 1, 0, false⟩,
  ⟨[84, 89, 80, 69], 1, 2, false⟩,
  ⟨[85, 83, 69, 82], 0, 2, false⟩]
def upB (c : UInt8) : UInt8 := if 97 ≤ c.toNat ∧ c.toNat ≤ 122 then UInt8.ofNat (c.toNat - 32) else c
def upper (l : List UInt8) : List UInt8 := l.map upB
def hasIn (vs : List Vb) (n : List UInt8) : Vb × Bool := match vs.find? (fun v => v.name == n) with
  | some v => (v, true)
  | none => (noVb, false)
/-- who has this name -/
def has (n : List UInt8) : Vb × Bool := hasIn verbs n
def found (s : List UInt8) : Vb × Bool := has (upper s)

theorem verbs_len : verbs.length = 36 := rfl
set_option maxRecDepth 100000 in
theorem up_up (c : UInt8) : upB (upB c) = upB c := by
  have h : ∀ n : Fin 256, upB (upB (UInt8.ofNat n.val)) = upB (UInt8.ofNat n.val) := by decide
  have := h ⟨c.toNat, UInt8.toNat_lt c⟩
  simpa using this
theorem upper_upper (l : List UInt8) : upper (upper l) = upper l := by
  unfold upper
  rw [List.map_map]
  exact List.map_congr_left (fun c _ => up_up c)
set_option maxRecDepth 100000 in
theorem up_not (c : UInt8) : ¬ (97 ≤ (upB c).toNat ∧ (upB c).toNat ≤ 122) := by
  have h : ∀ n : Fin 256, ¬ (97 ≤ (upB (UInt8.ofNat n.val)).toNat ∧ (upB (UInt8.ofNat n.val)).toNat ≤ 122) := by decide
  have := h ⟨c.toNat, UInt8.toNat_lt c⟩
  simpa using this
theorem upper_length (l : List UInt8) : (upper l).length = l.length := by simp [upper]
theorem upper_take (l : List UInt8) (n : Nat) : upper (l.take n) = (upper l).take n := by unfold upper; rw [List.map_take]
theorem found_upper (s : List UInt8) : found (upper s) = found s := by unfold found; rw [upper_upper]
/-- who is found has the name -/
theorem has_name {n : List UInt8} (h : (has n).2 = true) : (has n).1.name = n := by
  unfold has hasIn at h ⊢
  split
  · rename_i v hv
    have := List.find?_some hv
    simpa using this
  · rename_i hv; rw [hv] at h; cases h
/-- who is found by a name in great letters has it -/
theorem found_name {n : List UInt8} (hu : upper n = n) (h : (found n).2 = true) : (found n).1.name = n := by
  have := has_name (n := upper n) h
  rw [hu] at this
  unfold found
  rw [hu]; exact this
/-- each of them is found by its name -/
theorem has_each : ∀ v ∈ verbs, has v.name = (v, true) := by decide
theorem up_each : ∀ v ∈ verbs, upper v.name = v.name := by decide
set_option maxRecDepth 100000 in
theorem path_each : ∀ v ∈ verbs, (v.path = true → v.arg ≠ 0) ∧ 0 ≤ v.arg ∧ v.arg ≤ 2 ∧ 0 ≤ v.kind ∧ v.kind < 11 := by decide
theorem len_each : ∀ v ∈ verbs, v.name.length = 3 ∨ v.name.length = 4 := by decide
set_option maxRecDepth 100000 in
theorem kind_each : ∀ v ∈ verbs, (v.kind = 3 → v.path = true ∧ 0 < v.arg) ∧ (v.kind = 4 ∨ v.kind = 9 ∨ v.kind = 10 → v.arg = 0 ∧ v.path = false) ∧ (v.kind = 5 ∨ v.kind = 8 → v.arg = 2 ∧ v.path = false) ∧ (v.kind = 6 ∨ v.kind = 7 → v.arg = 2 ∧ v.path = true) ∧ (v.kind = 0 → v.path = false ∧ 0 < v.arg) := by decide

set_option maxRecDepth 100000 in
theorem kinds_cases : ∀ v ∈ verbs, (v.kind = 0 ∧ v.path = false ∧ 0 < v.arg) ∨ v.kind = 1 ∨ v.kind = 2 ∨ (v.kind = 3 ∧ v.path = true ∧ 0 < v.arg) ∨ (v.kind = 4 ∧ v.path = false ∧ v.arg = 0) ∨ (v.kind = 5 ∧ v.path = false ∧ v.arg = 2) ∨ (v.kind = 6 ∧ v.path = true ∧ v.arg = 2) ∨ (v.kind = 7 ∧ v.path = true ∧ v.arg = 2) ∨ (v.kind = 8 ∧ v.path = false ∧ v.arg = 2) ∨ (v.kind = 9 ∧ v.path = false ∧ v.arg = 0) ∨ (v.kind = 10 ∧ v.path = false ∧ v.arg = 0) := by decide

theorem letters_each : ∀ v ∈ verbs, ∀ c ∈ v.name, 65 ≤ c.toNat ∧ c.toNat ≤ 90 := by decide
set_option maxRecDepth 100000 in
theorem names_apart : ∀ i : Fin 36, ∀ j : Fin 36, i ≠ j → (verbs[i.val]'i.isLt).name ≠ (verbs[j.val]'j.isLt).name := by decide
theorem names_ne {i j : Nat} (hi : i < verbs.length) (hj : j < verbs.length) (h : i ≠ j) : verbs[i].name ≠ verbs[j].name :=
  names_apart ⟨i, hi⟩ ⟨j, hj⟩ (fun e => h (Fin.mk.inj e))
theorem up_big {c : UInt8} (h1 : 65 ≤ c.toNat) (h2 : c.toNat ≤ 90) : (c + 32).toNat = c.toNat + 32 ∧ upB (c + 32) = c := by
  have h : (c + 32).toNat = c.toNat + 32 := by
    rw [UInt8.toNat_add]
    show (c.toNat + 32) % 256 = _
    omega
  refine ⟨h, ?_⟩
  unfold upB
  rw [if_pos (by omega), h]
  apply UInt8.toNat.inj
  rw [UInt8.toNat_ofNat_of_lt' (by show c.toNat + 32 - 32 < 256; omega)]
  omega
theorem up_letter {c : UInt8} (h1 : 65 ≤ c.toNat) (h2 : c.toNat ≤ 90) : upB c = c := by
  unfold upB
  rw [if_neg (by omega)]

/-- the rest of a search: none of the first k has the name -/
theorem has_step {vs : List Vb} {n : List UInt8} {k : Nat} (hk : k < vs.length) (h : vs[k].name ≠ n) : hasIn (vs.drop k) n = hasIn (vs.drop (k + 1)) n := by
  unfold hasIn
  rw [List.drop_eq_getElem_cons hk, List.find?_cons_of_neg (by simpa using h)]
theorem has_hit {vs : List Vb} {n : List UInt8} {k : Nat} (hk : k < vs.length) (h : vs[k].name = n) : hasIn (vs.drop k) n = (vs[k], true) := by
  unfold hasIn
  rw [List.drop_eq_getElem_cons hk, List.find?_cons_of_pos (by simpa using h)]
theorem has_end (vs : List Vb) (n : List UInt8) : hasIn (vs.drop vs.length) n = (noVb, false) := by
  unfold hasIn
  rw [List.drop_length]; rfl

#print axioms has_each
end Go.Proofs.YtmodmfkcigibpaaDoor.Vb

/- Plain facts on commands (layer 8): clean bytes, which may be, printed, read. No program in this text. -/
namespace Go.Proofs.YtmodmfkcigibpaaDoor.Cm
open Go.Proofs.YtmodmfkcigibpaaDoor.Vb

def cleanB (c : UInt8) : Bool := decide (32 ≤ c.toNat ∧ c.toNat ≤ 126)
def clean (l : List UInt8) : Bool := l.all cleanB
def may (v a : List UInt8) : Bool := (found v).2 && ((found v).1.name == v) && clean a && !(decide ((found v).1.arg = 0) && (a != [])) && !(decide ((found v).1.arg = 2) && (a == []))
def line (v a : List UInt8) : List UInt8 := if a = [] then v else v ++ 32 :: a
def print (v a : List UInt8) : List UInt8 × Bool := if may v a then (line v a, true) else ([], false)
/-- what stands ahead of the first blank; what stands behind it -/
def head (s : List UInt8) : List UInt8 := s.takeWhile (fun c => c != 32)
def rest (s : List UInt8) : List UInt8 := s.drop ((head s).length + 1)
def letters (n : List UInt8) : Bool := n.all fun c => decide (65 ≤ c.toNat ∧ c.toNat ≤ 90)
def formed (s : List UInt8) : Bool := clean s && (decide (3 ≤ (head s).length) && (decide ((head s).length ≤ 4) && letters (upper (head s))))
def read (s : List UInt8) : (List UInt8 × List UInt8) × Int :=
  if formed s then (if (found (upper (head s))).2 then (if may (upper (head s)) (rest s) then ((upper (head s), rest s), 0) else (([], []), 1)) else (([], []), 3)) else (([], []), 2)

theorem letters_of {n : List UInt8} (h : letters n = true) : ∀ c ∈ n, 65 ≤ c.toNat ∧ c.toNat ≤ 90 := by
  intro c hc
  have := List.all_eq_true.1 h c hc
  exact of_decide_eq_true this
theorem letters_each : ∀ v ∈ verbs, letters v.name = true := by decide +kernel
theorem no_blank {n : List UInt8} (h : letters n = true) : ∀ c ∈ n, (c != 32) = true := by
  intro c hc
  have := letters_of h c hc
  simp only [bne_iff_ne, ne_eq]
  rintro rfl
  exact absurd this.1 (by decide)
theorem letters_clean {n : List UInt8} (h : letters n = true) : clean n = true := by
  refine List.all_eq_true.2 fun c hc => ?_
  have := letters_of h c hc
  exact decide_eq_true (by omega)
theorem clean_append (a b : List UInt8) : clean (a ++ b) = (clean a && clean b) := List.all_append
theorem clean_cons (c : UInt8) (b : List UInt8) : clean (c :: b) = (cleanB c && clean b) := List.all_cons
theorem head_blank {n a : List UInt8} (h : ∀ c ∈ n, (c != 32) = true) : head (n ++ 32 :: a) = n := by
  unfold head
  rw [List.takeWhile_append_of_pos h]
  simp
theorem head_all {n : List UInt8} (h : ∀ c ∈ n, (c != 32) = true) : head n = n := by
  have := List.takeWhile_append_of_pos (l₂ := []) h
  simpa [head] using this
theorem rest_blank {n a : List UInt8} (h : ∀ c ∈ n, (c != 32) = true) : rest (n ++ 32 :: a) = a := by
  unfold rest
  rw [head_blank h]
  simp [List.drop_append]
theorem rest_all {n : List UInt8} (h : ∀ c ∈ n, (c != 32) = true) : rest n = [] := by
  unfold rest
  rw [head_all h]
  exact List.drop_eq_nil_of_le (by omega)
theorem head_le (s : List UInt8) : (head s).length ≤ s.length := (List.takeWhile_prefix _).length_le
theorem take_head (s : List UInt8) : s.take (head s).length = head s := (List.prefix_iff_eq_take.1 (List.takeWhile_prefix _)).symm
/-- a text is its head, or that, a blank and its rest -/
theorem apart (s : List UInt8) : s = head s ∧ rest s = [] ∨ s = head s ++ 32 :: rest s := by
  unfold rest
  have e := List.takeWhile_append_dropWhile (p := fun c : UInt8 => c != 32) (l := s)
  cases hd : s.dropWhile (fun c => c != 32) with
  | nil =>
    rw [hd, List.append_nil] at e
    left
    have : head s = s := e
    rw [this]
    exact ⟨rfl, List.drop_eq_nil_of_le (by omega)⟩
  | cons c r =>
    right
    have hc : c = 32 := by
      have := List.head?_dropWhile_not (fun c : UInt8 => c != 32) s
      rw [hd] at this
      simpa using this
    subst hc
    have e' : s = head s ++ 32 :: r := by rw [hd] at e; exact e.symm
    have hr : s.drop ((head s).length + 1) = r := by
      have : (head s ++ 32 :: r).drop ((head s).length + 1) = r := by simp [List.drop_append]
      rw [← e'] at this
      exact this
    rw [hr]
    exact e'
theorem may_parts {v a : List UInt8} (h : may v a = true) : ∃ x ∈ verbs, x.name = v ∧ clean a = true ∧ (x.arg = 0 → a = []) ∧ (x.arg = 2 → a ≠ []) := by
  unfold may at h
  simp only [Bool.and_eq_true, Bool.not_eq_true', Bool.and_eq_false_iff, decide_eq_false_iff_not, beq_iff_eq, bne_eq_false_iff_eq, beq_eq_false_iff_ne] at h
  obtain ⟨⟨⟨⟨h1, h2⟩, h3⟩, h4⟩, h5⟩ := h
  refine ⟨(found v).1, ?_, h2, h3, fun e => h4.resolve_left (fun n => n e), fun e => h5.resolve_left (fun n => n e)⟩
  unfold found has hasIn at h1 ⊢
  cases hf : verbs.find? (fun x => x.name == upper v) with
  | none => rw [hf] at h1; cases h1
  | some x => exact List.mem_of_find?_eq_some hf
theorem found_each {x : Vb} (hx : x ∈ verbs) : found x.name = (x, true) := by
  unfold found
  rw [up_each x hx]
  exact has_each x hx
theorem may_each {x : Vb} (hx : x ∈ verbs) (a : List UInt8) : may x.name a = (clean a && !(decide (x.arg = 0) && (a != [])) && !(decide (x.arg = 2) && (a == []))) := by
  unfold may
  rw [found_each hx]
  simp
theorem found_in {v : List UInt8} (h : (found v).2 = true) : ∃ x ∈ verbs, found v = (x, true) ∧ x.name = upper v := by
  unfold found has hasIn at h ⊢
  cases hf : verbs.find? (fun x => x.name == upper v) with
  | none => rw [hf] at h; cases h
  | some x => exact ⟨x, List.mem_of_find?_eq_some hf, rfl, by simpa using List.find?_some hf⟩

/-! what is printed is read -/
theorem read_line {x : Vb} (hx : x ∈ verbs) {n a : List UInt8} (hn : upper n = x.name) (hl : ∀ c ∈ n, (c != 32) = true) (hc : clean n = true) (s : List UInt8) (hs : s = n ∧ a = [] ∨ s = n ++ 32 :: a) :
    read s = if clean a then (if may x.name a then ((x.name, a), 0) else (([], []), 1)) else (([], []), 2) := by
  have hhead : head s = n := by
    rcases hs with ⟨rfl, _⟩ | rfl
    · exact head_all hl
    · exact head_blank hl
  have hrest : rest s = a := by
    rcases hs with ⟨rfl, e⟩ | rfl
    · rw [e]; exact rest_all hl
    · exact rest_blank hl
  have hclean : clean s = clean a := by
    rcases hs with ⟨rfl, rfl⟩ | rfl
    · rw [hc]; rfl
    · rw [clean_append, clean_cons, hc]
      simp [show cleanB 32 = true from by decide]
  have hlen : n.length = x.name.length := by rw [← hn, upper_length]
  have hform : formed s = clean a := by
    unfold formed
    rw [hclean, hhead, hn, letters_each x hx, hlen]
    rcases len_each x hx with h | h <;> simp [h]
  unfold read
  rw [hform, hhead, hrest, hn, found_each hx]
  simp
theorem printed_read {v a : List UInt8} (h : may v a = true) : read (line v a) = ((v, a), 0) ∧ clean (line v a) = true := by
  obtain ⟨x, hx, rfl, hc, _, _⟩ := may_parts h
  have hl := letters_each x hx
  have hs : line x.name a = x.name ∧ a = [] ∨ line x.name a = x.name ++ 32 :: a := by
    unfold line
    by_cases ha : a = []
    · left; rw [if_pos ha]; exact ⟨rfl, ha⟩
    · right; rw [if_neg ha]
  constructor
  · rw [read_line hx (up_each x hx) (no_blank hl) (letters_clean hl) _ hs, if_pos hc, if_pos h]
  · rcases hs with ⟨e, _⟩ | e <;> rw [e]
    · exact letters_clean hl
    · rw [clean_append, clean_cons, letters_clean hl, hc]; decide

/-! what is read -/
theorem read_err {s : List UInt8} (h : (read s).2 ≠ 0) : (read s).1 = ([], []) := by
  unfold read at h ⊢
  split
  · split
    · split
      · rename_i h1 h2 h3
        rw [if_pos h1, if_pos h2, if_pos h3] at h
        exact absurd rfl h
      · rfl
    · rfl
  · rfl
theorem read_ok {s : List UInt8} (h : (read s).2 = 0) : (read s).1 = (upper (head s), rest s) ∧ may (upper (head s)) (rest s) = true := by
  unfold read at h ⊢
  split
  · split
    · split
      · rename_i h1 h2 h3
        exact ⟨rfl, h3⟩
      · rename_i h1 h2 h3
        rw [if_pos h1, if_pos h2, if_neg h3] at h
        cases h
    · rename_i h1 h2
      rw [if_pos h1, if_neg h2] at h
      cases h
  · rename_i h1
    rw [if_neg h1] at h
    cases h
theorem read_errs (s : List UInt8) : (read s).2 = 0 ∨ (read s).2 = 1 ∨ (read s).2 = 2 ∨ (read s).2 = 3 := by
  unfold read
  split
  · split
    · split <;> simp
    · simp
  · simp
/-- two that may be are printed alike only if they are the same -/
theorem line_eq {v a v' a' : List UInt8} (h : may v a = true) (h' : may v' a' = true) (e : line v a = line v' a') : v = v' ∧ a = a' := by
  have h1 := (printed_read h).1
  have h2 := (printed_read h').1
  rw [e, h2] at h1
  injection h1 with h1 _
  injection h1 with h1 h3
  exact ⟨h1.symm, h3.symm⟩

theorem head_ne {s : List UInt8} {k : Nat} (h : k < (head s).length) (h' : k < s.length) : s[k] ≠ 32 := by
  have e : (head s)[k] = s[k] := (List.takeWhile_prefix (fun c : UInt8 => c != 32)).getElem h
  have hm : (head s)[k] ∈ head s := List.getElem_mem h
  have : ((head s)[k] != 32) = true := by
    have := List.all_takeWhile (p := fun c : UInt8 => c != 32) (l := s)
    exact List.all_eq_true.1 this _ hm
  rw [e] at this
  simpa using this
theorem head_stop {s : List UInt8} (h : (head s).length < s.length) : s[(head s).length] = 32 := by
  rcases apart s with ⟨e, _⟩ | e
  · rw [← e] at h; omega
  · have h1 : s[(head s).length]? = some 32 := by
      have : (head s ++ 32 :: rest s)[(head s).length]? = some 32 := by simp
      rw [← e] at this
      exact this
    rw [List.getElem?_eq_getElem h] at h1
    exact Option.some.inj h1
theorem letters_next {u : List UInt8} {k : Nat} (hk : k < u.length) : letters (u.take (k + 1)) = (letters (u.take k) && decide (65 ≤ u[k].toNat ∧ u[k].toNat ≤ 90)) := by
  unfold letters
  rw [List.take_succ_eq_append_getElem hk, List.all_append]
  simp only [List.all_cons, List.all_nil, Bool.and_true]
theorem letters_no {u : List UInt8} {k : Nat} (hk : k < u.length) (h : ¬ (65 ≤ u[k].toNat ∧ u[k].toNat ≤ 90)) : letters u = false := by
  cases hc : letters u with
  | false => rfl
  | true => exact absurd (letters_of hc u[k] (List.getElem_mem hk)) h
theorem read_eq (s : List UInt8) : read s = if (clean s && (decide (3 ≤ (head s).length) && (decide ((head s).length ≤ 4) && letters (upper (head s))))) then (if (found (upper (head s))).2 then (if may (upper (head s)) (rest s) then ((upper (head s), rest s), 0) else (([], []), 1)) else (([], []), 3)) else (([], []), 2) := rfl

theorem line_le (v a : List UInt8) : (line v a).length ≤ v.length + a.length + 1 := by
  unfold line
  by_cases h : a = []
  · rw [if_pos h]; omega
  · rw [if_neg h, List.length_append, List.length_cons]; omega
/-- what is read stands in its line: the same behind the verb, or a blank more -/
theorem back_ok {s : List UInt8} (h : (read s).2 = 0) : may (read s).1.1 (read s).1.2 = true ∧ ∃ hd y, upper hd = (read s).1.1 ∧ ((s = hd ++ y ∧ line (read s).1.1 (read s).1.2 = (read s).1.1 ++ y) ∨ (s = hd ++ [32] ∧ line (read s).1.1 (read s).1.2 = (read s).1.1)) := by
  obtain ⟨e, hm⟩ := read_ok h
  rw [e]
  simp only
  refine ⟨hm, ?_⟩
  rcases apart s with ⟨h1, h2⟩ | h1
  · refine ⟨head s, [], rfl, Or.inl ⟨by rw [List.append_nil]; exact h1, ?_⟩⟩
    unfold line
    rw [if_pos h2, List.append_nil]
  · by_cases hr : rest s = []
    · refine ⟨head s, [], rfl, Or.inr ⟨?_, ?_⟩⟩
      · rw [hr] at h1; exact h1
      · unfold line; rw [if_pos hr]
    · refine ⟨head s, 32 :: rest s, rfl, Or.inl ⟨h1, ?_⟩⟩
      unfold line
      rw [if_neg hr]

/-! a verb told in whatever letters -/
def letterB (c : UInt8) : Bool := decide (65 ≤ (upB c).toNat ∧ (upB c).toNat ≤ 90)
def fine (n : List UInt8) : Bool := decide (n.length = 3 ∨ n.length = 4) && letters (upper n)
theorem letter_eq (c : UInt8) : letterB c = (decide (97 ≤ c.toNat ∧ c.toNat ≤ 122) || decide (65 ≤ c.toNat ∧ c.toNat ≤ 90)) := by
  unfold letterB upB
  by_cases h : 97 ≤ c.toNat ∧ c.toNat ≤ 122
  · rw [if_pos h, decide_eq_true h, Bool.true_or]
    refine decide_eq_true ?_
    rw [UInt8.toNat_ofNat']
    omega
  · rw [if_neg h, decide_eq_false h, Bool.false_or]
theorem letters_up {n : List UInt8} {k : Nat} (hk : k < n.length) : letters (upper (n.take (k + 1))) = (letters (upper (n.take k)) && letterB n[k]) := by
  have hu : k < (upper n).length := by rw [upper_length]; exact hk
  have e := letters_next hu
  rw [upper_take, upper_take, e]
  have : (upper n)[k] = upB n[k] := by simp [upper]
  rw [this]
  rfl
theorem upper_plain {n : List UInt8} (h : letters (upper n) = true) : (∀ c ∈ n, (c != 32) = true) ∧ clean n = true := by
  have hl : ∀ c ∈ n, 65 ≤ c.toNat ∧ c.toNat ≤ 122 := by
    intro c hc
    have h1 := letters_of h (upB c) (List.mem_map.2 ⟨c, hc, rfl⟩)
    have h2 := letter_eq c
    rw [show letterB c = true from decide_eq_true h1] at h2
    simp only [Bool.true_eq, Bool.or_eq_true, decide_eq_true_eq] at h2
    omega
  constructor
  · intro c hc
    have := hl c hc
    simp only [bne_iff_ne, ne_eq]
    rintro rfl
    exact absurd this.1 (by decide)
  · refine List.all_eq_true.2 fun c hc => ?_
    have := hl c hc
    exact decide_eq_true (by omega)
/-- any name without a blank, a blank, and anything -/
theorem read_forms {n a : List UInt8} (hb : ∀ c ∈ n, (c != 32) = true) : read (n ++ 32 :: a) = if fine n && clean a then (if (found n).2 then (if may (upper n) a then ((upper n, a), 0) else (([], []), 1)) else (([], []), 3)) else (([], []), 2) := by
  have hf : formed (n ++ 32 :: a) = (fine n && clean a) := by
    unfold formed fine
    rw [head_blank hb, clean_append, clean_cons, show cleanB 32 = true from by decide, Bool.true_and]
    cases hl : letters (upper n) with
    | false => simp
    | true =>
      rw [(upper_plain hl).2]
      by_cases h3 : n.length = 3
      · rw [h3]; simp
      · by_cases h4 : n.length = 4
        · rw [h4]; simp
        · have : ¬ (3 ≤ n.length ∧ n.length ≤ 4) := by omega
          have h5 : (decide (3 ≤ n.length) && decide (n.length ≤ 4)) = false := by
            rw [← Bool.decide_and]; exact decide_eq_false this
          simp [h3, h4]
          intro _ h6
          omega
  unfold read
  rw [hf, head_blank hb, rest_blank hb, found_upper]
theorem read_letters {x : Vb} (hx : x ∈ verbs) {n a : List UInt8} (hn : upper n = x.name) : read (n ++ 32 :: a) = if may x.name a then ((x.name, a), 0) else (([], []), if clean a then 1 else 2) := by
  have hl : letters (upper n) = true := by rw [hn]; exact letters_each x hx
  obtain ⟨h1, h2⟩ := upper_plain hl
  rw [read_line hx hn h1 h2 _ (Or.inr rfl)]
  cases hm : may x.name a with
  | true =>
    obtain ⟨_, _, _, hc, _, _⟩ := may_parts hm
    rw [hc]; rfl
  | false => cases clean a <;> rfl

theorem noblank_next {s : List UInt8} {k : Nat} (hk : k < s.length) (h : ∀ c ∈ s.take k, (c != 32) = true) (hc : s[k] ≠ 32) : ∀ c ∈ s.take (k + 1), (c != 32) = true := by
  intro c hm
  rw [List.take_succ_eq_append_getElem hk, List.mem_append, List.mem_singleton] at hm
  rcases hm with hm | rfl
  · exact h c hm
  · simpa using hc
theorem byte_ne_32 {c : UInt8} (h : c ≠ 32) : ((c.toNat : Int) == 32) = false := by
  simp only [beq_eq_false_iff_ne, ne_eq]
  intro e
  exact h (UInt8.toNat_inj.1 (by show c.toNat = 32; omega))

#print axioms line_eq
#print axioms read_line
end Go.Proofs.YtmodmfkcigibpaaDoor.Cm

/- Plain facts on numbers as they are written and read, on addresses, and on cutting a text at a byte. No program in this text. -/
namespace Go.Proofs.YtmodmfkcigibpaaDoor.Quad
open Go

/-! numbers as they are written -/
theorem decFrom_append (l r : List UInt8) : ∀ (acc n : Nat), Lib.decFrom acc l = some n → Lib.decFrom acc (l ++ r) = Lib.decFrom n r := by
  induction l with
  | nil => intro acc n h; simp only [Lib.decFrom, Option.some.injEq] at h; subst h; rfl
  | cons b t ih =>
    intro acc n h
    simp only [Lib.decFrom, List.cons_append] at h ⊢
    cases hd : Lib.digitVal b with
    | none => simp [hd] at h
    | some d => simp only [hd] at h ⊢; exact ih _ _ h
theorem digitVal_dig (d : Nat) (h : d < 10) : Lib.digitVal (UInt8.ofNat (48 + d)) = some d := by
  have e : (UInt8.ofNat (48 + d)).toNat = 48 + d := by simp [UInt8.toNat_ofNat']; omega
  unfold Lib.digitVal; rw [e, if_pos (by omega)]; congr 1; omega
theorem decFrom_digits (u : Nat) : Lib.decFrom 0 (Lib.decDigits u) = some u := by
  induction u using Nat.strongRecOn with
  | _ u ih =>
    by_cases h : u < 10
    · rw [Lib.decDigits_one h]; simp only [Lib.decFrom, digitVal_dig u h, Option.some.injEq]; omega
    · rw [Lib.decDigits, dif_neg h, decFrom_append _ _ _ _ (ih (u / 10) (by omega))]
      simp only [Lib.decFrom, digitVal_dig (u % 10) (by omega), Option.some.injEq]; omega
theorem digits_length (u : Nat) : 1 ≤ (Lib.decDigits u).length := by rw [Lib.decDigits_length]; exact Lib.nDigits_pos u
theorem digits_ne (u : Nat) : Lib.decDigits u ≠ [] := by
  intro e; have := digits_length u; rw [e] at this; simp at this
theorem decNat_digits (u : Nat) : Lib.decNat (Lib.decDigits u) = some u := by
  unfold Lib.decNat
  rw [if_neg (by simpa using digits_ne u)]; exact decFrom_digits u
theorem digits_inj {u v : Nat} (h : Lib.decDigits u = Lib.decDigits v) : u = v := by
  have a := decNat_digits u; rw [h, decNat_digits v] at a; exact (Option.some.inj a).symm
theorem digits_dig {u : Nat} {c : UInt8} (h : c ∈ Lib.decDigits u) : 48 ≤ c.toNat ∧ c.toNat ≤ 57 := by
  obtain ⟨k, hk, e⟩ := List.getElem_of_mem h
  obtain ⟨d, hd⟩ := Lib.digit_of_decFrom _ 0 u (decFrom_digits u) k c (by rw [List.getElem?_eq_getElem hk, e])
  unfold Lib.digitVal at hd
  split at hd
  · assumption
  · cases hd
theorem itoa_nat (n : Nat) : Lib.itoa (n : Int) = Lib.decDigits n := by unfold Lib.itoa; rw [if_neg (by omega)]; simp
theorem itoa_pos {n : Int} (h : 0 ≤ n) : Lib.itoa n = Lib.decDigits n.toNat := by unfold Lib.itoa; rw [if_neg (by omega)]
theorem itoa_neg {n : Int} (h : n < 0) : Lib.itoa n = 45 :: Lib.decDigits n.natAbs := by unfold Lib.itoa; rw [if_pos h]
theorem itoa_ne (n : Int) : Lib.itoa n ≠ [] := by
  by_cases h : n < 0
  · rw [itoa_neg h]; simp
  · rw [itoa_pos (by omega)]; exact digits_ne _
theorem digits_head (u : Nat) : ∃ b r, Lib.decDigits u = b :: r ∧ 48 ≤ b.toNat ∧ b.toNat ≤ 57 := by
  cases h : Lib.decDigits u with
  | nil => exact absurd h (digits_ne u)
  | cons b r => exact ⟨b, r, rfl, digits_dig (u := u) (by rw [h]; simp)⟩
theorem itoa_inj {a b : Int} (h : Lib.itoa a = Lib.itoa b) : a = b := by
  by_cases ha : a < 0 <;> by_cases hb : b < 0
  · rw [itoa_neg ha, itoa_neg hb] at h; have := digits_inj (List.cons.inj h).2; omega
  · rw [itoa_neg ha, itoa_pos (by omega)] at h
    obtain ⟨c, r, e, h0, _⟩ := digits_head b.toNat
    rw [e] at h; have := (List.cons.inj h).1; subst this; simp at h0
  · rw [itoa_pos (by omega), itoa_neg hb] at h
    obtain ⟨c, r, e, h0, _⟩ := digits_head a.toNat
    rw [e] at h; have := (List.cons.inj h).1; subst this; simp at h0
  · rw [itoa_pos (by omega), itoa_pos (by omega)] at h; have := digits_inj h; omega
theorem atoi_digits (u : Nat) : Lib.atoi (Lib.decDigits u) = some (u : Int) := by
  obtain ⟨b, r, e, h0, h1⟩ := digits_head u
  have hn := decNat_digits u
  rw [e] at hn ⊢
  have a : (b == 45) = false := by rw [beq_eq_false_iff_ne]; rintro rfl; simp at h0
  have c : (b == 43) = false := by rw [beq_eq_false_iff_ne]; rintro rfl; simp at h0
  simp [Lib.atoi, a, c, hn]

/-! Get -/
/-- the number that a text is -/
def getO (l : List UInt8) : Option Nat := if l.length ≤ 18 then (match Lib.decNat l with | some n => if Lib.decDigits n = l then some n else none | none => none) else none
def getB (l : List UInt8) (most : Int) : Bool := match getO l with | some n => decide ((n : Int) ≤ most) | none => false
def getV (l : List UInt8) (most : Int) : Int := if getB l most then ((getO l).getD 0 : Nat) else 0

theorem getO_iff (l : List UInt8) (n : Nat) : getO l = some n ↔ Lib.decDigits n = l ∧ l.length ≤ 18 := by
  unfold getO
  constructor
  · intro h
    split at h
    · rename_i hl
      cases e : Lib.decNat l with
      | none => rw [e] at h; cases h
      | some m =>
        rw [e] at h; simp only at h
        split at h
        · rename_i hm; cases h; exact ⟨hm, hl⟩
        · cases h
    · cases h
  · rintro ⟨rfl, hl⟩
    rw [if_pos hl, decNat_digits]; simp
theorem getO_none {l : List UInt8} (h : ∀ n, Lib.decDigits n = l → ¬ l.length ≤ 18) : getO l = none := by
  cases e : getO l with
  | none => rfl
  | some n => exact absurd ((getO_iff l n).1 e).2 (h n ((getO_iff l n).1 e).1)
theorem getB_some {l : List UInt8} {n : Nat} (h : getO l = some n) (most : Int) : getB l most = decide ((n : Int) ≤ most) := by unfold getB; rw [h]
theorem getB_none {l : List UInt8} (h : getO l = none) (most : Int) : getB l most = false := by unfold getB; rw [h]
theorem getV_yes {l : List UInt8} {n : Nat} (h : getO l = some n) {most : Int} (hm : (n : Int) ≤ most) : getV l most = n := by
  unfold getV; rw [getB_some h, if_pos (by simpa using hm), h]; rfl
theorem getV_no {l : List UInt8} {most : Int} (h : getB l most = false) : getV l most = 0 := by unfold getV; rw [h]; rfl
theorem getB_iff (l : List UInt8) (most : Int) : getB l most = true ↔ ∃ n : Nat, Lib.decDigits n = l ∧ l.length ≤ 18 ∧ (n : Int) ≤ most ∧ getV l most = n := by
  constructor
  · intro h
    cases e : getO l with
    | none => rw [getB_none e] at h; cases h
    | some n =>
      rw [getB_some e] at h
      have hm : (n : Int) ≤ most := by simpa using h
      exact ⟨n, ((getO_iff l n).1 e).1, ((getO_iff l n).1 e).2, hm, getV_yes e hm⟩
  · rintro ⟨n, h1, h2, h3, _⟩
    rw [getB_some ((getO_iff l n).2 ⟨h1, h2⟩)]; simpa using h3
theorem getV_lo (l : List UInt8) (most : Int) : 0 ≤ getV l most := by
  unfold getV; split <;> omega
theorem getV_hi {l : List UInt8} {most : Int} (h : 0 ≤ most) : getV l most ≤ most := by
  cases e : getB l most with
  | false => rw [getV_no e]; exact h
  | true => obtain ⟨n, _, _, h3, h4⟩ := (getB_iff l most).1 e; omega
theorem getV_big {l : List UInt8} {most : Int} : getV l most < 1000000000000000000 := by
  cases e : getB l most with
  | false => rw [getV_no e]; omega
  | true =>
    obtain ⟨n, h1, h2, h3, h4⟩ := (getB_iff l most).1 e
    have := (Lib.atoi_bound (by rw [← h1]; exact atoi_digits n) h2).2
    omega

/-- what the code does, way by way -/
theorem code_long {l : List UInt8} (h : 18 < l.length) (most : Int) : getB l most = false :=
  getB_none (getO_none fun _ _ => by omega) _
theorem code_none {l : List UInt8} (h : Lib.atoi l = none) (most : Int) : getB l most = false := by
  refine getB_none (getO_none fun n hn => ?_) _
  rw [← hn, atoi_digits] at h; cases h
theorem code_some {l : List UInt8} {n : Int} (h : Lib.atoi l = some n) (hl : l.length ≤ 18) (most : Int) :
    (n < 0 ∧ getB l most = false) ∨ (0 ≤ n ∧ most < n ∧ getB l most = false) ∨ (0 ≤ n ∧ n ≤ most ∧ Lib.itoa n ≠ l ∧ getB l most = false) ∨ (0 ≤ n ∧ n ≤ most ∧ Lib.itoa n = l ∧ getB l most = true ∧ getV l most = n) := by
  have key : ∀ m : Nat, Lib.decDigits m = l → n = m := fun m hm => by
    rw [← hm, atoi_digits] at h; exact (Option.some.inj h).symm
  by_cases h0 : n < 0
  · exact Or.inl ⟨h0, getB_none (getO_none fun m hm => by have := key m hm; omega) _⟩
  · by_cases e : Lib.itoa n = l
    · have e' := e
      rw [itoa_pos (by omega)] at e'
      have g := (getO_iff l n.toNat).2 ⟨e', hl⟩
      by_cases hm : n ≤ most
      · exact Or.inr (Or.inr (Or.inr ⟨by omega, hm, e, by rw [getB_some g]; simp; omega, by rw [getV_yes g (by omega)]; omega⟩))
      · exact Or.inr (Or.inl ⟨by omega, by omega, by rw [getB_some g]; simp; omega⟩)
    · have g : getO l = none := getO_none fun m hm => by
        have := key m hm; subst this
        rw [itoa_nat] at e; exact absurd hm e
      by_cases hm : n ≤ most
      · exact Or.inr (Or.inr (Or.inl ⟨by omega, hm, e, getB_none g _⟩))
      · exact Or.inr (Or.inl ⟨by omega, by omega, getB_none g _⟩)
/-- what the document's answer does -/
theorem ref_odd {l : List UInt8} {k : Nat} {c : UInt8} (h : l[k]? = some c) (hd : c.toNat < 48 ∨ 57 < c.toNat) (most : Int) : getB l most = false := by
  refine getB_none (getO_none fun n hn => ?_) _
  have := digits_dig (u := n) (c := c) (by rw [hn]; exact List.mem_of_getElem? h)
  omega
theorem ref_all {l : List UInt8} {n : Nat} (h : Lib.decFrom 0 l = some n) (hl : l.length ≤ 18) (most : Int) :
    (most < n ∧ getB l most = false) ∨ ((n : Int) ≤ most ∧ Lib.itoa n ≠ l ∧ getB l most = false) ∨ ((n : Int) ≤ most ∧ Lib.itoa n = l ∧ getB l most = true ∧ getV l most = n) := by
  have key : ∀ m : Nat, Lib.decDigits m = l → n = m := fun m hm => by
    rw [← hm, decFrom_digits] at h; exact (Option.some.inj h).symm
  rw [itoa_nat]
  by_cases e : Lib.decDigits n = l
  · have g := (getO_iff l n).2 ⟨e, hl⟩
    by_cases hm : (n : Int) ≤ most
    · exact Or.inr (Or.inr ⟨hm, e, by rw [getB_some g]; simp; omega, getV_yes g hm⟩)
    · exact Or.inl ⟨by omega, by rw [getB_some g]; simp; omega⟩
  · have g : getO l = none := getO_none fun m hm => by
      have := key m hm; subst this; exact absurd hm e
    by_cases hm : (n : Int) ≤ most
    · exact Or.inr (Or.inl ⟨hm, e, getB_none g _⟩)
    · exact Or.inl ⟨by omega, getB_none g _⟩
theorem ref_empty (most : Int) : getB [] most = false :=
  getB_none (getO_none fun n hn => absurd hn (digits_ne n)) _
theorem decFrom_small : ∀ (l : List UInt8) (acc n k : Nat), Lib.decFrom acc l = some n → acc < 10 ^ k → n < 10 ^ (k + l.length)
  | [], acc, n, k, h, ha => by simp only [Lib.decFrom, Option.some.injEq] at h; subst h; simpa using ha
  | b :: r, acc, n, k, h, ha => by
    simp only [Lib.decFrom] at h
    cases hd : Lib.digitVal b with
    | none => simp [hd] at h
    | some d =>
      simp only [hd] at h
      have hd9 : d ≤ 9 := by unfold Lib.digitVal at hd; split at hd <;> simp at hd; omega
      have := decFrom_small r _ n (k + 1) h (by rw [Nat.pow_succ]; omega)
      rw [List.length_cons, show k + (r.length + 1) = k + 1 + r.length from by omega]; exact this
theorem decFrom_lt {l : List UInt8} {n : Nat} (h : Lib.decFrom 0 l = some n) (hl : l.length ≤ 18) : n < 1000000000000000000 := by
  have h1 := decFrom_small l 0 n 0 h (by simp)
  have h2 : 10 ^ (0 + l.length) ≤ 10 ^ 18 := Nat.pow_le_pow_right (by omega) (by omega)
  omega

/-! cutting -/
def cutL (c : UInt8) : List UInt8 → List (List UInt8)
  | [] => [[]]
  | b :: r => if b = c then [] :: cutL c r else match cutL c r with
    | h :: t => (b :: h) :: t
    | [] => [[b]]
theorem cutL_ne (c : UInt8) (l : List UInt8) : cutL c l ≠ [] := by
  cases l with
  | nil => simp [cutL]
  | cons b r =>
    simp only [cutL]; split
    · simp
    · split <;> simp
theorem cutL_whole {c : UInt8} : ∀ {p : List UInt8}, c ∉ p → cutL c p = [p]
  | [], _ => rfl
  | b :: r, h => by
    have hb : b ≠ c := fun e => h (by simp [e])
    have hr : c ∉ r := fun e => h (by simp [e])
    simp only [cutL, if_neg hb, cutL_whole hr]
theorem cutL_at {c : UInt8} : ∀ {p : List UInt8} (r : List UInt8), c ∉ p → cutL c (p ++ c :: r) = p :: cutL c r
  | [], r, _ => by simp [cutL]
  | b :: q, r, h => by
    have hb : b ≠ c := fun e => h (by simp [e])
    have hq : c ∉ q := fun e => h (by simp [e])
    simp only [List.cons_append, cutL, if_neg hb, cutL_at r hq]
theorem first_at (c : UInt8) : ∀ (l : List UInt8), (c ∉ l) ∨ ∃ p r, l = p ++ c :: r ∧ c ∉ p
  | [] => Or.inl (by simp)
  | b :: t => by
    by_cases hb : b = c
    · exact Or.inr ⟨[], t, by simp [hb], by simp⟩
    · rcases first_at c t with h | ⟨p, r, rfl, hp⟩
      · exact Or.inl (by simp only [List.mem_cons, not_or]; exact ⟨fun e => hb e.symm, h⟩)
      · exact Or.inr ⟨b :: p, r, by simp, by simp only [List.mem_cons, not_or]; exact ⟨fun e => hb e.symm, hp⟩⟩
theorem cutL_length_le (c : UInt8) : ∀ (l : List UInt8), (cutL c l).length ≤ l.length + 1
  | [] => by simp [cutL]
  | b :: r => by
    have := cutL_length_le c r
    simp only [cutL]; split
    · simp; omega
    · split
      · rename_i h t e; rw [e] at this; simp at this ⊢; omega
      · simp
theorem cutL_free (c : UInt8) : ∀ (l : List UInt8) (p : List UInt8), p ∈ cutL c l → c ∉ p
  | [], p, h => by simp only [cutL, List.mem_singleton] at h; subst h; simp
  | b :: r, p, h => by
    simp only [cutL] at h
    split at h
    · rcases List.mem_cons.1 h with rfl | h
      · simp
      · exact cutL_free c r p h
    · rename_i hb
      split at h
      · rename_i q t e
        have hq := cutL_free c r q (by rw [e]; simp)
        rcases List.mem_cons.1 h with rfl | h
        · simp only [List.mem_cons, not_or]; exact ⟨fun x => hb x.symm, hq⟩
        · exact cutL_free c r p (by rw [e]; simp [h])
      · rename_i e; exact absurd e (cutL_ne c r)
theorem occAt_one (l : List UInt8) (c : UInt8) (i : Nat) : Lib.occAt l [c] i = (l[i]? == some c) := by
  by_cases h : i + 1 ≤ l.length
  · rw [Lib.occAt_iff_take l [c] i (by simpa using h)]
    have e : (l.drop i).take [c].length = [l[i]] := by
      rw [List.drop_eq_getElem_cons (by omega)]; rfl
    rw [e, List.getElem?_eq_getElem (by omega)]
    simp
  · rw [List.getElem?_eq_none (by omega)]
    cases e : Lib.occAt l [c] i with
    | false => rfl
    | true => rcases Lib.occAt_room e with h' | h' <;> simp at h'; omega
theorem index_no {l : List UInt8} {c : UInt8} (h : c ∉ l) : Lib.index l [c] = -1 :=
  Lib.index_none fun j _ => by
    rw [occAt_one, beq_eq_false_iff_ne]; exact fun e => h (List.mem_of_getElem? e)
theorem index_at {p r : List UInt8} {c : UInt8} (h : c ∉ p) : Lib.index (p ++ c :: r) [c] = p.length :=
  Lib.index_first (by simp) (by rw [occAt_one]; simp) fun j hj => by
    rw [occAt_one, beq_eq_false_iff_ne, List.getElem?_append_left hj]; exact fun e => h (List.mem_of_getElem? e)
theorem splitK_no {l : List UInt8} {c : UInt8} (h : c ∉ l) (k : Nat) : Lib.splitK [c] 0 k l = [l] := by
  cases k with
  | zero => rfl
  | succ k => simp only [Lib.splitK, index_no h]; simp
theorem splitK_at {p r : List UInt8} {c : UInt8} (h : c ∉ p) (k : Nat) : Lib.splitK [c] 0 (k + 1) (p ++ c :: r) = p :: Lib.splitK [c] 0 k r := by
  have e : ((p.length : Int) == -1) = false := by rw [beq_eq_false_iff_ne]; omega
  simp only [Lib.splitK, index_at h, e]
  simp
theorem splitK_few {c : UInt8} : ∀ (k : Nat) (l : List UInt8), (cutL c l).length ≤ k + 1 → Lib.splitK [c] 0 k l = cutL c l
  | 0, l, h => by
    rcases first_at c l with h' | ⟨p, r, rfl, hp⟩
    · rw [splitK_no h', cutL_whole h']
    · rw [cutL_at r hp] at h
      have := cutL_ne c r
      cases e : cutL c r with
      | nil => exact absurd e this
      | cons a b => rw [e] at h; simp at h
  | k + 1, l, h => by
    rcases first_at c l with h' | ⟨p, r, rfl, hp⟩
    · rw [splitK_no h', cutL_whole h']
    · rw [cutL_at r hp] at h ⊢
      rw [splitK_at hp, splitK_few k r (by simpa using h)]
theorem splitK_all {c : UInt8} : ∀ (k : Nat) (l : List UInt8), (∀ x ∈ Lib.splitK [c] 0 k l, c ∉ x) → Lib.splitK [c] 0 k l = cutL c l
  | 0, l, h => by
    have : c ∉ l := h l (by simp [Lib.splitK])
    rw [splitK_no this, cutL_whole this]
  | k + 1, l, h => by
    rcases first_at c l with h' | ⟨p, r, rfl, hp⟩
    · rw [splitK_no h', cutL_whole h']
    · rw [splitK_at hp] at h ⊢
      rw [cutL_at r hp, splitK_all k r fun x hx => h x (by simp [hx])]
theorem splitK_length (c : UInt8) : ∀ (k : Nat) (l : List UInt8), 1 ≤ (Lib.splitK [c] 0 k l).length ∧ (Lib.splitK [c] 0 k l).length ≤ k + 1
  | 0, l => by simp [Lib.splitK]
  | k + 1, l => by
    rcases first_at c l with h' | ⟨p, r, rfl, hp⟩
    · rw [splitK_no h']; simp
    · rw [splitK_at hp]; have := splitK_length c k r; simp; omega

/-! addresses -/
def octB (p : List UInt8) : Bool := getB p 255
def oct (p : List UInt8) : Int := getV p 255
def readB (l : List UInt8) : Bool := (cutL 46 l).length == 4 && (cutL 46 l).all octB
def readH (l : List UInt8) (i : Nat) : Int := if readB l then oct ((cutL 46 l).getD i []) else 0
def textL (a b c d : Int) : List UInt8 := Lib.itoa a ++ 46 :: (Lib.itoa b ++ 46 :: (Lib.itoa c ++ 46 :: Lib.itoa d))

theorem oct_lo (p : List UInt8) : 0 ≤ oct p := getV_lo _ _
theorem oct_hi (p : List UInt8) : oct p ≤ 255 := getV_hi (by omega)
theorem readH_lo (l : List UInt8) (i : Nat) : 0 ≤ readH l i := by unfold readH; split; exact oct_lo _; omega
theorem readH_hi (l : List UInt8) (i : Nat) : readH l i ≤ 255 := by unfold readH; split; exact oct_hi _; omega
theorem readH_no {l : List UInt8} (h : readB l = false) (i : Nat) : readH l i = 0 := by unfold readH; rw [h]; rfl
theorem octB_iff (p : List UInt8) : octB p = true ↔ Lib.itoa (oct p) = p := by
  unfold octB oct
  constructor
  · intro h
    obtain ⟨n, h1, _, _, h4⟩ := (getB_iff p 255).1 h
    rw [h4, itoa_nat]; exact h1
  · intro h
    have h0 := getV_lo p 255
    have h1 := getV_hi (l := p) (most := 255) (by omega)
    rw [itoa_pos h0] at h
    refine (getB_iff p 255).2 ⟨(getV p 255).toNat, h, ?_, by omega, by omega⟩
    rw [← h, Lib.decDigits_length]
    have h2 : (getV p 255).toNat < 256 := by omega
    generalize (getV p 255).toNat = u at h2 ⊢
    rcases Nat.lt_or_ge u 10 with a | a
    · rw [Lib.nDigits_small a]; omega
    · rw [Lib.nDigits_big (by omega)]
      rcases Nat.lt_or_ge (u / 10) 10 with b | b
      · rw [Lib.nDigits_small b]; omega
      · rw [Lib.nDigits_big (by omega), Lib.nDigits_small (by omega)]; omega
theorem itoa_short {n : Int} (h0 : 0 ≤ n) (h1 : n ≤ 255) : (Lib.itoa n).length ≤ 3 := by
  rw [itoa_pos h0, Lib.decDigits_length]
  have h2 : n.toNat < 256 := by omega
  generalize n.toNat = u at h2 ⊢
  rcases Nat.lt_or_ge u 10 with a | a
  · rw [Lib.nDigits_small a]; omega
  · rw [Lib.nDigits_big (by omega)]
    rcases Nat.lt_or_ge (u / 10) 10 with b | b
    · rw [Lib.nDigits_small b]; omega
    · rw [Lib.nDigits_big (by omega), Lib.nDigits_small (by omega)]; omega
theorem itoa_long (n : Int) : 1 ≤ (Lib.itoa n).length := by
  cases h : Lib.itoa n with
  | nil => exact absurd h (itoa_ne n)
  | cons a b => simp
theorem text_length {a b c d : Int} (ha : 0 ≤ a ∧ a ≤ 255) (hb : 0 ≤ b ∧ b ≤ 255) (hc : 0 ≤ c ∧ c ≤ 255) (hd : 0 ≤ d ∧ d ≤ 255) : 7 ≤ (textL a b c d).length ∧ (textL a b c d).length ≤ 15 := by
  have a1 := itoa_short ha.1 ha.2; have b1 := itoa_short hb.1 hb.2; have c1 := itoa_short hc.1 hc.2; have d1 := itoa_short hd.1 hd.2
  have a0 := itoa_long a; have b0 := itoa_long b; have c0 := itoa_long c; have d0 := itoa_long d
  unfold textL; simp only [List.length_append, List.length_cons]; omega
theorem dotless (n : Int) : (46 : UInt8) ∉ Lib.itoa n := by
  intro h
  by_cases hn : n < 0
  · rw [itoa_neg hn] at h
    rcases List.mem_cons.1 h with e | e
    · revert e; decide
    · have := digits_dig e; revert this; decide
  · rw [itoa_pos (by omega)] at h
    have := digits_dig h; revert this; decide
theorem cut_text (a b c d : Int) : cutL 46 (textL a b c d) = [Lib.itoa a, Lib.itoa b, Lib.itoa c, Lib.itoa d] := by
  unfold textL
  rw [cutL_at _ (dotless a), cutL_at _ (dotless b), cutL_at _ (dotless c), cutL_whole (dotless d)]
theorem text_inj {a b c d a' b' c' d' : Int} (h : textL a b c d = textL a' b' c' d') : a = a' ∧ b = b' ∧ c = c' ∧ d = d' := by
  have e := cut_text a b c d
  rw [h, cut_text] at e
  simp only [List.cons.injEq, and_true] at e
  exact ⟨itoa_inj e.1.symm, itoa_inj e.2.1.symm, itoa_inj e.2.2.1.symm, itoa_inj e.2.2.2.symm⟩
theorem cut_join (c : UInt8) (n : Nat) : ∀ (l : List UInt8), l.length ≤ n → [c].intercalate (cutL c l) = l := by
  induction n with
  | zero => intro l hl; obtain rfl : l = [] := List.length_eq_zero_iff.1 (by omega); rfl
  | succ n IH =>
    intro l hl
    rcases first_at c l with h | ⟨p, r, rfl, hp⟩
    · rw [cutL_whole h]; simp [List.intercalate]
    · rw [cutL_at r hp]
      have ih := IH r (by simp at hl; omega)
      have e := Lib.join_cons p (cutL c r) [c]
      unfold Lib.join at e; rw [e]
      cases hc : cutL c r with
      | nil => exact absurd hc (cutL_ne c r)
      | cons x t =>
        rw [hc] at ih
        have e2 := Lib.join_cons x t [c]
        unfold Lib.join at e2; rw [e2] at ih
        simp only [Lib.joinTail, List.map_cons, List.flatten_cons] at ih ⊢
        rw [List.append_assoc, ih]; simp
theorem read_yes {l : List UInt8} (h : readB l = true) : textL (readH l 0) (readH l 1) (readH l 2) (readH l 3) = l := by
  have hj := cut_join 46 l.length l (Nat.le_refl _)
  unfold readH; rw [h]; simp only [if_true]
  unfold readB at h
  rw [Bool.and_eq_true, beq_iff_eq, List.all_eq_true] at h
  obtain ⟨h4, ha⟩ := h
  match hc : cutL 46 l, h4 with
  | [p, q, r, s], _ =>
    rw [hc] at hj ha
    have e1 := (octB_iff p).1 (ha p (by simp))
    have e2 := (octB_iff q).1 (ha q (by simp))
    have e3 := (octB_iff r).1 (ha r (by simp))
    have e4 := (octB_iff s).1 (ha s (by simp))
    simp only [List.getD_cons_zero, List.getD_cons_succ]
    unfold textL; rw [e1, e2, e3, e4, ← hj]
    simp [List.intercalate]
theorem octB_itoa {n : Int} (h0 : 0 ≤ n) (h1 : n ≤ 255) : octB (Lib.itoa n) = true ∧ oct (Lib.itoa n) = n := by
  have g : getO (Lib.itoa n) = some n.toNat := by
    refine (getO_iff _ _).2 ⟨(itoa_pos h0).symm, ?_⟩
    rw [itoa_pos h0, Lib.decDigits_length]
    have h2 : n.toNat < 256 := by omega
    generalize n.toNat = u at h2 ⊢
    rcases Nat.lt_or_ge u 10 with a | a
    · rw [Lib.nDigits_small a]; omega
    · rw [Lib.nDigits_big (by omega)]
      rcases Nat.lt_or_ge (u / 10) 10 with b | b
      · rw [Lib.nDigits_small b]; omega
      · rw [Lib.nDigits_big (by omega), Lib.nDigits_small (by omega)]; omega
  refine ⟨?_, ?_⟩
  · unfold octB; rw [getB_some g]; simp; omega
  · unfold oct; rw [getV_yes g (by omega)]; omega
theorem read_text {a b c d : Int} (ha : 0 ≤ a ∧ a ≤ 255) (hb : 0 ≤ b ∧ b ≤ 255) (hc : 0 ≤ c ∧ c ≤ 255) (hd : 0 ≤ d ∧ d ≤ 255) :
    readB (textL a b c d) = true ∧ readH (textL a b c d) 0 = a ∧ readH (textL a b c d) 1 = b ∧ readH (textL a b c d) 2 = c ∧ readH (textL a b c d) 3 = d := by
  have e := cut_text a b c d
  have oa := octB_itoa ha.1 ha.2; have ob := octB_itoa hb.1 hb.2; have oc := octB_itoa hc.1 hc.2; have od := octB_itoa hd.1 hd.2
  have hB : readB (textL a b c d) = true := by unfold readB; rw [e]; simp [oa.1, ob.1, oc.1, od.1]
  refine ⟨hB, ?_, ?_, ?_, ?_⟩ <;> (unfold readH; rw [hB, e]; simp [oa.2, ob.2, oc.2, od.2])

/-! the four texts that the code holds against each other -/
/-- the parts that a text is split into, four of them -/
def four (l : List UInt8) : List (List UInt8) := (Lib.splitK [46] 0 (min 4 (l.length + 1) - 1) l) ++ List.replicate (4 - (Lib.splitK [46] 0 (min 4 (l.length + 1) - 1) l).length) []
theorem four_parts (l : List UInt8) : ∃ p q r s, four l = [p, q, r, s] ∧ Lib.splitK [46] 0 (min 4 (l.length + 1) - 1) l ++ List.replicate (4 - (Lib.splitK [46] 0 (min 4 (l.length + 1) - 1) l).length) [] = [p, q, r, s] := by
  have h : (four l).length = 4 := by
    have := splitK_length 46 (min 4 (l.length + 1) - 1) l
    unfold four; simp; omega
  match e : four l, h with
  | [p, q, r, s], _ => exact ⟨p, q, r, s, rfl, e⟩
theorem four_length (l : List UInt8) : (four l).length = 4 := by
  have := splitK_length 46 (min 4 (l.length + 1) - 1) l
  unfold four; simp; omega
theorem four_yes {l : List UInt8} (h : ∀ x ∈ four l, Lib.itoa (oct x) = x) : readB l = true ∧ cutL 46 l = four l := by
  have hl := splitK_length 46 (min 4 (l.length + 1) - 1) l
  have h4 : 4 - (Lib.splitK [46] 0 (min 4 (l.length + 1) - 1) l).length = 0 := by
    rcases Nat.eq_zero_or_pos (4 - (Lib.splitK [46] 0 (min 4 (l.length + 1) - 1) l).length) with e | e
    · exact e
    · have := h [] (by unfold four; rw [List.mem_append]; exact Or.inr (by rw [List.mem_replicate]; exact ⟨by omega, rfl⟩))
      exact absurd this (itoa_ne _)
  have hf : four l = Lib.splitK [46] 0 (min 4 (l.length + 1) - 1) l := by unfold four; rw [h4]; simp
  have hc : cutL 46 l = four l := by
    rw [hf]; symm
    refine splitK_all _ _ fun x hx => ?_
    rw [← h x (by rw [hf]; exact hx)]; exact dotless _
  refine ⟨?_, hc⟩
  unfold readB
  rw [hc, four_length, Bool.and_eq_true, List.all_eq_true]
  exact ⟨rfl, fun x hx => (octB_iff x).2 (h x hx)⟩
theorem four_no {l : List UInt8} (h : ¬ ∀ x ∈ four l, Lib.itoa (oct x) = x) : readB l = false := by
  cases e : readB l with
  | false => rfl
  | true =>
    exfalso; apply h
    unfold readB at e
    rw [Bool.and_eq_true, beq_iff_eq, List.all_eq_true] at e
    obtain ⟨h4, ha⟩ := e
    have hle := cutL_length_le 46 l
    have hs := splitK_few (c := 46) (min 4 (l.length + 1) - 1) l (by omega)
    have hf : four l = cutL 46 l := by unfold four; rw [hs, h4]; simp
    rw [hf]; exact fun x hx => (octB_iff x).1 (ha x hx)

#print axioms four_no
#print axioms read_text
end Go.Proofs.YtmodmfkcigibpaaDoor.Quad

/- Plain facts on paths (layer 10): a path's parts, where an argument leads, what is below what. No program in this text. -/
namespace Go.Proofs.YtmodmfkcigibpaaDoor.Pt
open Go Go.Proofs.YtmodmfkcigibpaaDoor.Cm Go.Proofs.YtmodmfkcigibpaaDoor.Quad
set_option maxRecDepth 100000

abbrev Ps := List (List UInt8)
def okP (p : List UInt8) : Bool := (p != []) && ((p != [46]) && (p != [46, 46]))
def parts (s : List UInt8) : Ps := if s.length < 2 then [] else cutL 47 (s.drop 1)
def slash (s : List UInt8) : Bool := s.head? == some 47
def mayP (s : List UInt8) : Bool := clean s && (decide (s.length ≤ 200) && (slash s && (parts s).all okP))
def step (l : Ps) (p : List UInt8) : Ps := if p == [] || p == [46] then l else if p == [46, 46] then l.dropLast else l ++ [p]
def start (cwd arg : List UInt8) : Ps := if slash arg then [] else parts cwd
def lead (cwd arg : List UInt8) : Ps := (cutL 47 arg).foldl step (start cwd arg)
def whole (l : Ps) : List UInt8 := l.flatMap (47 :: ·)
def pathOf (l : Ps) : List UInt8 := if whole l == [] then [47] else whole l
def join (cwd arg : List UInt8) : List UInt8 × Int :=
  if mayP cwd then (if clean arg then (if (pathOf (lead cwd arg)).length ≤ 200 then (pathOf (lead cwd arg), 0) else ([], 5)) else ([], 2)) else ([], 1)
def under (top s : List UInt8) : Bool := mayP top && (mayP s && (parts top).isPrefixOf (parts s))

/-! cutting and putting together -/
theorem cut_append (c : UInt8) (b : List UInt8) : ∀ (a : List UInt8), cutL c (a ++ c :: b) = cutL c a ++ cutL c b
  | [] => by simp [cutL]
  | x :: a => by
    have ih := cut_append c b a
    by_cases h : x = c
    · simp only [List.cons_append, cutL, if_pos h, ih]
    · simp only [List.cons_append, cutL, if_neg h, ih]
      cases hc : cutL c a with
      | nil => exact absurd hc (cutL_ne c a)
      | cons q t => rfl
theorem whole_cut : ∀ (r : List UInt8), whole (cutL 47 r) = 47 :: r
  | [] => rfl
  | b :: r => by
    have ih := whole_cut r
    by_cases h : b = 47
    · simp only [cutL, if_pos h]
      show 47 :: ([] ++ whole (cutL 47 r)) = _
      rw [ih, h]; rfl
    · simp only [cutL, if_neg h]
      cases hc : cutL 47 r with
      | nil => exact absurd hc (cutL_ne 47 r)
      | cons q t =>
        rw [hc] at ih
        show 47 :: ((b :: q) ++ whole t) = _
        have : 47 :: (q ++ whole t) = 47 :: r := ih
        rw [List.cons_append, (List.cons.inj this).2]
theorem whole_nil : whole [] = [] := rfl
theorem whole_cons (p : List UInt8) (l : Ps) : whole (p :: l) = 47 :: (p ++ whole l) := rfl
theorem whole_append (l m : Ps) : whole (l ++ m) = whole l ++ whole m := List.flatMap_append
theorem whole_one (p : List UInt8) : whole [p] = 47 :: p := by simp [whole]
theorem whole_ne {l : Ps} (h : l ≠ []) : whole l ≠ [] := by
  cases l with
  | nil => exact absurd rfl h
  | cons p l => rw [whole_cons]; exact List.cons_ne_nil _ _
theorem pathOf_nil : pathOf [] = [47] := rfl
theorem pathOf_ne {l : Ps} (h : l ≠ []) : pathOf l = whole l := by
  unfold pathOf; rw [if_neg]; rw [beq_iff_eq]; exact whole_ne h
theorem cut_whole : ∀ (p : List UInt8) (l : Ps), (∀ q ∈ p :: l, (47 : UInt8) ∉ q) → cutL 47 (p ++ whole l) = p :: l
  | p, [], h => by rw [whole_nil, List.append_nil]; exact cutL_whole (h p (by simp))
  | p, q :: l, h => by
    rw [whole_cons, cutL_at _ (h p (by simp)), cut_whole q l (fun x hx => h x (List.mem_cons_of_mem _ hx))]

/-! parts that may be -/
structure Good (l : Ps) : Prop where
  ok : ∀ p ∈ l, okP p = true
  free : ∀ p ∈ l, (47 : UInt8) ∉ p
  clean : ∀ p ∈ l, Cm.clean p = true
theorem okP_iff (p : List UInt8) : okP p = true ↔ p ≠ [] ∧ p ≠ [46] ∧ p ≠ [46, 46] := by
  unfold okP; simp [bne_iff_ne]
theorem Good.nil : Good [] := ⟨fun _ h => (by cases h), fun _ h => (by cases h), fun _ h => (by cases h)⟩
theorem Good.append {l m : Ps} (h : Good l) (k : Good m) : Good (l ++ m) :=
  ⟨fun p hp => (List.mem_append.1 hp).elim (h.ok p) (k.ok p), fun p hp => (List.mem_append.1 hp).elim (h.free p) (k.free p), fun p hp => (List.mem_append.1 hp).elim (h.clean p) (k.clean p)⟩
theorem Good.sub {l m : Ps} (h : Good l) (hs : ∀ p ∈ m, p ∈ l) : Good m := ⟨fun p hp => h.ok p (hs p hp), fun p hp => h.free p (hs p hp), fun p hp => h.clean p (hs p hp)⟩
theorem Good.dropLast {l : Ps} (h : Good l) : Good l.dropLast := h.sub fun _ hp => (List.dropLast_sublist l).subset hp
theorem cut_clean : ∀ (s : List UInt8), clean s = true → ∀ p ∈ cutL 47 s, clean p = true
  | [], _, p, hp => by simp only [cutL, List.mem_singleton] at hp; subst hp; rfl
  | b :: r, h, p, hp => by
    rw [clean_cons, Bool.and_eq_true] at h
    have ih := cut_clean r h.2
    simp only [cutL] at hp
    split at hp
    · rcases List.mem_cons.1 hp with rfl | hp
      · rfl
      · exact ih p hp
    · split at hp
      · rename_i q t e
        rw [e] at ih
        rcases List.mem_cons.1 hp with rfl | hp
        · rw [clean_cons, h.1, ih q (by simp)]; rfl
        · exact ih p (by simp [hp])
      · rename_i e; exact absurd e (cutL_ne 47 r)
structure MayP (s : List UInt8) : Prop where
  clean : Cm.clean s = true
  short : s.length ≤ 200
  slash : slash s = true
  ok : ∀ p ∈ parts s, okP p = true
theorem may_parts {s : List UInt8} (h : mayP s = true) : MayP s := by
  unfold mayP at h
  simp only [Bool.and_eq_true, decide_eq_true_eq, List.all_eq_true] at h
  exact ⟨h.1, h.2.1, h.2.2.1, h.2.2.2⟩
theorem may_of {s : List UInt8} (h : MayP s) : mayP s = true := by
  unfold mayP
  simp only [Bool.and_eq_true, decide_eq_true_eq, List.all_eq_true]
  exact ⟨h.clean, h.short, h.slash, h.ok⟩
theorem slash_form {s : List UInt8} (h : slash s = true) : ∃ r, s = 47 :: r := by
  unfold slash at h
  cases s with
  | nil => simp at h
  | cons b r => exact ⟨r, by simp at h; rw [h]⟩
theorem parts_slash (r : List UInt8) : parts (47 :: r) = if r = [] then [] else cutL 47 r := by
  unfold parts
  cases r with
  | nil => rfl
  | cons b r => rw [if_neg (by simp), if_neg (by simp)]; rfl
theorem good_parts {s : List UInt8} (h : mayP s = true) : Good (parts s) := by
  have m := may_parts h
  obtain ⟨r, rfl⟩ := slash_form m.slash
  have hc := m.clean
  rw [clean_cons, Bool.and_eq_true] at hc
  refine ⟨m.ok, ?_, ?_⟩
  · intro p hp
    rw [parts_slash] at hp
    split at hp
    · cases hp
    · exact cutL_free 47 r p hp
  · intro p hp
    rw [parts_slash] at hp
    split at hp
    · cases hp
    · exact cut_clean r hc.2 p hp
/-- a path that may be is what its parts make -/
theorem path_parts {s : List UInt8} (h : slash s = true) : pathOf (parts s) = s := by
  obtain ⟨r, rfl⟩ := slash_form h
  rw [parts_slash]
  split
  · rename_i e; subst e; rfl
  · rw [pathOf_ne (cutL_ne 47 r), whole_cut]
theorem parts_path {l : Ps} (h : Good l) : parts (pathOf l) = l := by
  cases l with
  | nil => rfl
  | cons p l =>
    rw [pathOf_ne (by simp), whole_cons, parts_slash, if_neg]
    · exact cut_whole p l h.free
    · intro e
      have hp := (okP_iff p).1 (h.ok p (by simp))
      exact hp.1 (List.append_eq_nil_iff.1 e).1
theorem clean_whole {l : Ps} (h : Good l) : clean (whole l) = true := by
  induction l with
  | nil => rfl
  | cons p l ih =>
    rw [whole_cons, clean_cons, clean_append, h.clean p (by simp), ih (h.sub (by simp +contextual))]
    rfl
theorem slash_path (l : Ps) : slash (pathOf l) = true := by
  cases l with
  | nil => rfl
  | cons p l => rw [pathOf_ne (by simp), whole_cons]; rfl
theorem may_path {l : Ps} (h : Good l) (hl : (pathOf l).length ≤ 200) : mayP (pathOf l) = true := by
  refine may_of ⟨?_, hl, slash_path l, ?_⟩
  · cases l with
    | nil => rfl
    | cons p l => rw [pathOf_ne (by simp)]; exact clean_whole h
  · rw [parts_path h]; exact h.ok

/-! where an argument leads -/
theorem step_good {l : Ps} {p : List UInt8} (h : Good l) (hf : (47 : UInt8) ∉ p) (hc : clean p = true) : Good (step l p) := by
  unfold step
  split
  · exact h
  · rename_i h1
    split
    · exact h.dropLast
    · rename_i h2
      refine h.append ⟨?_, ?_, ?_⟩ <;> (intro q hq; rw [List.mem_singleton] at hq; subst hq)
      · rw [okP_iff]
        simp only [Bool.or_eq_true, beq_iff_eq, not_or] at h1 h2
        exact ⟨h1.1, h1.2, h2⟩
      · exact hf
      · exact hc
theorem steps_good : ∀ (m : Ps) (l : Ps), Good l → (∀ p ∈ m, (47 : UInt8) ∉ p) → (∀ p ∈ m, clean p = true) → Good (m.foldl step l)
  | [], _, h, _, _ => h
  | p :: m, l, h, hf, hc => steps_good m (step l p) (step_good h (hf p (by simp)) (hc p (by simp))) (fun q hq => hf q (by simp [hq])) (fun q hq => hc q (by simp [hq]))
theorem start_good {cwd arg : List UInt8} (h : mayP cwd = true) : Good (start cwd arg) := by
  unfold start; split
  · exact Good.nil
  · exact good_parts h
theorem lead_good {cwd arg : List UInt8} (h : mayP cwd = true) (hc : clean arg = true) : Good (lead cwd arg) :=
  steps_good _ _ (start_good h) (cutL_free 47 arg) (cut_clean arg hc)
theorem step_ok {l : Ps} {p : List UInt8} (h : okP p = true) : step l p = l ++ [p] := by
  rw [okP_iff] at h
  unfold step
  rw [if_neg (by simp [h.1, h.2.1]), if_neg (by simp [h.2.2])]
theorem steps_ok : ∀ (m l : Ps), (∀ p ∈ m, okP p = true) → m.foldl step l = l ++ m
  | [], l, _ => by simp
  | p :: m, l, h => by
    rw [List.foldl_cons, step_ok (h p (by simp)), steps_ok m _ (fun q hq => h q (by simp [hq]))]
    simp
theorem step_none (l : Ps) : step l [] = l := rfl
theorem step_dot (l : Ps) : step l [46] = l := rfl
theorem step_up (l : Ps) : step l [46, 46] = l.dropLast := rfl

/-! join -/
theorem join_arg {cwd arg : List UInt8} (h : mayP cwd = false) : join cwd arg = ([], 1) := by unfold join; rw [h]; rfl
theorem join_form {cwd arg : List UInt8} (h : mayP cwd = true) (hc : clean arg = false) : join cwd arg = ([], 2) := by unfold join; rw [h, hc]; rfl
theorem join_over {cwd arg : List UInt8} (h : mayP cwd = true) (hc : clean arg = true) (hl : ¬ (pathOf (lead cwd arg)).length ≤ 200) : join cwd arg = ([], 5) := by unfold join; rw [h, hc, if_pos rfl, if_pos rfl, if_neg hl]
theorem join_ok {cwd arg : List UInt8} (h : mayP cwd = true) (hc : clean arg = true) (hl : (pathOf (lead cwd arg)).length ≤ 200) : join cwd arg = (pathOf (lead cwd arg), 0) := by unfold join; rw [h, hc, if_pos rfl, if_pos rfl, if_pos hl]
structure Led (cwd arg : List UInt8) : Prop where
  may : mayP cwd = true
  clean : Cm.clean arg = true
  short : (pathOf (lead cwd arg)).length ≤ 200
  eq : join cwd arg = (pathOf (lead cwd arg), 0)
theorem led {cwd arg : List UInt8} (h : (join cwd arg).2 = 0) : Led cwd arg := by
  cases hm : mayP cwd with
  | false => rw [join_arg hm] at h; cases h
  | true =>
    cases hc : clean arg with
    | false => rw [join_form hm hc] at h; cases h
    | true =>
      by_cases hl : (pathOf (lead cwd arg)).length ≤ 200
      · exact ⟨hm, hc, hl, join_ok hm hc hl⟩
      · rw [join_over hm hc hl] at h; cases h
theorem join_err {cwd arg : List UInt8} (h : (join cwd arg).2 ≠ 0) : (join cwd arg).1 = [] := by
  unfold join at h ⊢
  split
  · split
    · split
      · rename_i h1 h2 h3; rw [if_pos h1, if_pos h2, if_pos h3] at h; exact absurd rfl h
      · rfl
    · rfl
  · rfl
theorem Led.good {cwd arg : List UInt8} (h : Led cwd arg) : Good (lead cwd arg) := lead_good h.may h.clean
theorem Led.mayP {cwd arg : List UInt8} (h : Led cwd arg) : mayP (join cwd arg).1 = true := by rw [h.eq]; exact may_path h.good h.short
theorem Led.parts {cwd arg : List UInt8} (h : Led cwd arg) : parts (join cwd arg).1 = lead cwd arg := by rw [h.eq]; exact parts_path h.good

/-- what leads to the parts of a path that may be -/
theorem join_to {cwd arg s : List UInt8} (h : mayP cwd = true) (hc : clean arg = true) (hs : mayP s = true) (hl : lead cwd arg = parts s) : join cwd arg = (s, 0) := by
  have e : pathOf (lead cwd arg) = s := by rw [hl]; exact path_parts (may_parts hs).slash
  rw [join_ok h hc (by rw [e]; exact (may_parts hs).short), e]
theorem may_root : mayP [47] = true := by decide
theorem parts_root : parts [47] = [] := rfl
theorem cut_slash (r : List UInt8) : cutL 47 (47 :: r) = [] :: cutL 47 r := by simp [cutL]
/-- a path that may be leads to itself, from wherever -/
theorem lead_self {cwd s : List UInt8} (hs : mayP s = true) : lead cwd s = parts s := by
  have m := may_parts hs
  obtain ⟨r, rfl⟩ := slash_form m.slash
  unfold lead start
  rw [m.slash, if_pos rfl, cut_slash, List.foldl_cons, step_none]
  have ho := m.ok
  rw [parts_slash] at ho ⊢
  by_cases hr : r = []
  · subst hr; rfl
  · rw [if_neg hr] at ho ⊢
    rw [steps_ok _ _ ho]; rfl
theorem join_self {cwd s : List UInt8} (h : mayP cwd = true) (hs : mayP s = true) : join cwd s = (s, 0) :=
  join_to h (may_parts hs).clean hs (lead_self hs)
theorem join_none {s : List UInt8} (hs : mayP s = true) : join s [] = (s, 0) := join_to hs rfl hs rfl
theorem join_dot {s : List UInt8} (hs : mayP s = true) : join s [46] = (s, 0) := join_to hs rfl hs rfl

/-- an argument that goes on behind a stroke -/
theorem slash_append {a b : List UInt8} (ha : a ≠ []) : slash (a ++ b) = slash a := by
  cases a with
  | nil => exact absurd rfl ha
  | cons x a => rfl
theorem lead_append {cwd a b : List UInt8} (ha : a ≠ []) : lead cwd (a ++ 47 :: b) = (cutL 47 b).foldl step (lead cwd a) := by
  unfold lead start
  rw [slash_append ha, cut_append, List.foldl_append]
theorem clean_slash (a b : List UInt8) : clean (a ++ 47 :: b) = (clean a && clean b) := by
  rw [clean_append, clean_cons]; rfl
theorem self_dot {cwd arg : List UInt8} (h : mayP cwd = true) (ha : mayP arg = true) : join cwd (arg ++ [47, 46]) = (arg, 0) := by
  have m := may_parts ha
  refine join_to h ?_ ha ?_
  · rw [clean_slash, m.clean]; rfl
  · obtain ⟨r, rfl⟩ := slash_form m.slash
    rw [lead_append (by simp), lead_self ha]; rfl

/-! one part more -/
structure Part (p : List UInt8) : Prop where
  ok : okP p = true
  free : (47 : UInt8) ∉ p
  clean : Cm.clean p = true
theorem part_of {p : List UInt8} (hm : mayP (47 :: p) = true) (hn : p ≠ []) (hf : (47 : UInt8) ∉ p) : Part p := by
  have m := may_parts hm
  have hp := m.ok
  rw [parts_slash, if_neg hn, cutL_whole hf] at hp
  have hc := m.clean
  rw [clean_cons, Bool.and_eq_true] at hc
  exact ⟨hp p (by simp), hf, hc.2⟩
theorem part_slash {p : List UInt8} (h : Part p) : slash p = false := by
  cases p with
  | nil => rfl
  | cons b r =>
    unfold slash
    have hb : b ≠ 47 := fun e => h.free (by rw [e]; simp)
    simpa using hb
theorem lead_part {cwd p : List UInt8} (h : Part p) : lead cwd p = parts cwd ++ [p] := by
  unfold lead start
  rw [part_slash h, if_neg (by decide), cutL_whole h.free, List.foldl_cons, List.foldl_nil, step_ok h.ok]
theorem part_ne {p : List UInt8} (h : Part p) : p ≠ [] := ((okP_iff p).1 h.ok).1
theorem join_back {cwd p : List UInt8} (hm : mayP cwd = true) (h : Part p) : join cwd (p ++ [47, 46, 46]) = (cwd, 0) := by
  refine join_to hm ?_ hm ?_
  · rw [clean_slash, h.clean]; rfl
  · rw [lead_append (part_ne h), lead_part h]
    show (cutL 47 [46, 46]).foldl step _ = _
    rw [show cutL 47 ([46, 46] : List UInt8) = [[46, 46]] from rfl, List.foldl_cons, List.foldl_nil, step_up, List.dropLast_concat]
theorem join_up {s cwd : List UInt8} {p : List UInt8} (hs : mayP s = true) (hm : mayP cwd = true) (hp : parts s = parts cwd ++ [p]) : join s [46, 46] = (cwd, 0) := by
  refine join_to hs rfl hm ?_
  unfold lead start
  rw [if_neg (by decide), show cutL 47 ([46, 46] : List UInt8) = [[46, 46]] from rfl, List.foldl_cons, List.foldl_nil, step_up, hp, List.dropLast_concat]
theorem path_len (l : Ps) (p : List UInt8) (h : whole l ≠ []) : (pathOf (l ++ [p])).length = (pathOf l).length + p.length + 1 := by
  have hl : l ≠ [] := fun e => h (by rw [e]; rfl)
  rw [pathOf_ne (by simp), pathOf_ne hl, whole_append, whole_one, List.length_append, List.length_cons]; omega
/-- a part more leads too far just where it is too long -/
theorem part_over {cwd p : List UInt8} (hm : mayP cwd = true) (h : Part p) (hp : mayP (47 :: p) = true) (he : (join cwd p).2 ≠ 0) : (join cwd p).2 = 5 ∧ 200 ≤ cwd.length + p.length := by
  by_cases hl : (pathOf (lead cwd p)).length ≤ 200
  · rw [join_ok hm h.clean hl] at he; exact absurd rfl he
  · refine ⟨by rw [join_over hm h.clean hl], ?_⟩
    rw [lead_part h] at hl
    have hc := path_parts (may_parts hm).slash
    by_cases hw : parts cwd = []
    · rw [hw, List.nil_append, pathOf_ne (by simp), whole_one] at hl
      exact absurd (may_parts hp).short hl
    · rw [path_len _ _ (whole_ne hw), hc] at hl
      omega
theorem up_root : join [47] [46, 46] = ([47], 0) := by decide

/-! below -/
theorem under_may {a b : List UInt8} (ha : mayP a = true) (hb : mayP b = true) : under a b = (parts a).isPrefixOf (parts b) := by unfold under; rw [ha, hb]; rfl
theorem under_no {a b : List UInt8} (ha : mayP a = false) : under a b = false ∧ under b a = false := by
  unfold under; rw [ha]; simp
theorem under_parts {a b : List UInt8} (h : under a b = true) : mayP a = true ∧ mayP b = true ∧ parts a <+: parts b := by
  unfold under at h
  simp only [Bool.and_eq_true, List.isPrefixOf_iff_prefix] at h
  exact h
theorem under_of {a b : List UInt8} (ha : mayP a = true) (hb : mayP b = true) (h : parts a <+: parts b) : under a b = true := by
  unfold under; rw [ha, hb]; simp [h]
theorem under_root {a : List UInt8} (ha : mayP a = true) : under [47] a = true := under_of may_root ha (by rw [parts_root]; exact List.nil_prefix)
theorem under_self {a : List UInt8} (ha : mayP a = true) : under a a = true := under_of ha ha (List.prefix_refl _)
theorem under_trans {a b c : List UInt8} (h : under a b = true) (k : under b c = true) : under a c = true := by
  obtain ⟨h1, h2, h3⟩ := under_parts h
  obtain ⟨_, k2, k3⟩ := under_parts k
  exact under_of h1 k2 (h3.trans k3)
theorem parts_inj {a b : List UInt8} (ha : mayP a = true) (hb : mayP b = true) (h : parts a = parts b) : a = b := by
  rw [← path_parts (may_parts ha).slash, ← path_parts (may_parts hb).slash, h]
theorem under_both {a b : List UInt8} (h : under a b = true) (k : under b a = true) : a = b := by
  obtain ⟨h1, h2, h3⟩ := under_parts h
  obtain ⟨_, _, k3⟩ := under_parts k
  exact parts_inj h1 h2 (h3.eq_of_length (Nat.le_antisymm h3.length_le k3.length_le))

/-! PathTwice -/
theorem twice_slash {s b : List UInt8} (hb : slash b = true) (h : (join s b).2 = 0) : join [47] b = join s b := by
  have m := led h
  have e : lead [47] b = lead s b := by unfold lead start; rw [hb, if_pos rfl, if_pos rfl]
  rw [m.eq, join_ok may_root m.clean (by rw [e]; exact m.short), e]
theorem twice_none {cwd : List UInt8} (h : (join cwd []).2 = 0) : (join cwd []).1 = cwd := by
  rw [join_none (led h).may]
theorem twice_more {cwd a b : List UInt8} (ha : a ≠ []) (hb : slash b = false) (h : (join cwd a).2 = 0) (k : (join (join cwd a).1 b).2 = 0) : join cwd (a ++ 47 :: b) = join (join cwd a).1 b := by
  have m := led h
  have n := led k
  have e : lead cwd (a ++ 47 :: b) = lead (join cwd a).1 b := by
    rw [lead_append ha]
    conv => rhs; unfold lead start
    rw [hb, if_neg (by decide), m.parts]
  rw [n.eq, join_ok m.may (by rw [clean_slash, m.clean, n.clean]; rfl) (by rw [e]; exact n.short), e]

/-! PathDown -/
theorem down_slash {cwd a : List UInt8} (ha : a ≠ []) : join cwd (a ++ [47]) = join cwd a := by
  have e : lead cwd (a ++ [47]) = lead cwd a := by rw [lead_append ha]; rfl
  have hc : clean (a ++ [47]) = clean a := by rw [clean_slash]; simp [clean]
  unfold join
  rw [hc, e]
theorem nodot_steps : ∀ (m l : Ps), (∀ p ∈ m, (46 : UInt8) ∉ p) → l <+: m.foldl step l
  | [], l, _ => List.prefix_refl l
  | p :: m, l, h => by
    have hp := h p (by simp)
    have h1 : l <+: step l p := by
      unfold step
      split
      · exact List.prefix_refl l
      · split
        · rename_i h2
          rw [beq_iff_eq] at h2
          exact absurd (by rw [h2]; simp) hp
        · exact List.prefix_append _ _
    exact h1.trans (nodot_steps m _ (fun q hq => h q (by simp [hq])))
theorem cut_sub : ∀ (s : List UInt8) (p : List UInt8), p ∈ cutL 47 s → ∀ c ∈ p, c ∈ s
  | [], p, hp, c, hc => by simp only [cutL, List.mem_singleton] at hp; subst hp; exact hc
  | b :: r, p, hp, c, hc => by
    have ih := cut_sub r
    simp only [cutL] at hp
    split at hp
    · rcases List.mem_cons.1 hp with rfl | hp
      · cases hc
      · exact List.mem_cons_of_mem _ (ih p hp c hc)
    · split at hp
      · rename_i q t e
        rw [e] at ih
        rcases List.mem_cons.1 hp with rfl | hp
        · rcases List.mem_cons.1 hc with rfl | hc
          · simp
          · exact List.mem_cons_of_mem _ (ih q (by simp) c hc)
        · exact List.mem_cons_of_mem _ (ih p (by simp [hp]) c hc)
      · rename_i e; exact absurd e (cutL_ne 47 r)
theorem down_under {cwd a : List UInt8} (hd : (46 : UInt8) ∉ a) (hs : slash a = false) (h : (join cwd a).2 = 0) : under cwd (join cwd a).1 = true := by
  have m := led h
  refine under_of m.may m.mayP ?_
  rw [m.parts]
  unfold lead start
  rw [hs, if_neg (by decide)]
  exact nodot_steps _ _ (fun p hp hc => hd (cut_sub a p hp _ hc))

/-! PathLong -/
def longP (n : Nat) : List UInt8 := 47 :: List.replicate (n - 1) 120
theorem clean_x (k : Nat) : clean (List.replicate k 120) = true := by
  refine List.all_eq_true.2 fun c hc => ?_
  rw [List.eq_of_mem_replicate hc]; rfl
theorem free_x (k : Nat) : (47 : UInt8) ∉ List.replicate k 120 := fun h => absurd (List.eq_of_mem_replicate h) (by decide)
theorem okP_x {k : Nat} (h : 0 < k) : okP (List.replicate k 120) = true := by
  rw [okP_iff]
  cases k with
  | zero => omega
  | succ k => rw [List.replicate_succ]; simp
theorem parts_long {n : Nat} (h : 1 ≤ n) : parts (longP n) = if n = 1 then [] else [List.replicate (n - 1) 120] := by
  unfold longP
  rw [parts_slash]
  by_cases h1 : n = 1
  · subst h1; rfl
  · rw [if_neg h1, if_neg, cutL_whole (free_x _)]
    rw [List.replicate_eq_nil_iff]; omega
theorem may_long {n : Nat} (h : 1 ≤ n) : mayP (longP n) = decide (n ≤ 200) := by
  by_cases hn : n ≤ 200
  · rw [decide_eq_true hn]
    refine may_of ⟨?_, ?_, rfl, ?_⟩
    · unfold longP; rw [clean_cons, clean_x]; rfl
    · unfold longP; rw [List.length_cons, List.length_replicate]; omega
    · rw [parts_long h]
      split
      · intro p hp; cases hp
      · intro p hp; rw [List.mem_singleton] at hp; subst hp; exact okP_x (by omega)
  · rw [decide_eq_false hn]
    cases hc : mayP (longP n) with
    | false => rfl
    | true =>
      have := (may_parts hc).short
      unfold longP at this
      rw [List.length_cons, List.length_replicate] at this
      omega
theorem join_long {n : Nat} (h : 1 ≤ n) : (join (longP n) [121]).2 = if n ≤ 200 then (if n = 1 ∨ n + 2 ≤ 200 then 0 else 5) else 1 := by
  have hp : Part [121] := ⟨by decide, by decide, by decide⟩
  by_cases hn : n ≤ 200
  · rw [if_pos hn]
    have hm : mayP (longP n) = true := by rw [may_long h, decide_eq_true hn]
    have hl : (pathOf (lead (longP n) [121])).length = if n = 1 then 2 else n + 2 := by
      rw [lead_part hp, parts_long h]
      by_cases h1 : n = 1
      · rw [if_pos h1, if_pos h1]; rfl
      · rw [if_neg h1, if_neg h1, pathOf_ne (by simp), List.singleton_append, whole_cons, whole_one]
        simp; omega
    by_cases h1 : n = 1
    · rw [if_pos h1] at hl
      rw [if_pos (Or.inl h1), join_ok hm rfl (by omega)]
    · rw [if_neg h1] at hl
      by_cases h2 : n + 2 ≤ 200
      · rw [if_pos (Or.inr h2), join_ok hm rfl (by omega)]
      · rw [if_neg (by omega), join_over hm rfl (by omega)]
  · rw [if_neg hn, join_arg (by rw [may_long h, decide_eq_false hn])]

#print axioms join_self
#print axioms part_over
#print axioms twice_more
#print axioms down_under
#print axioms join_long
end Go.Proofs.YtmodmfkcigibpaaDoor.Pt

/- Plain facts on a trail: the parts that texts have led to, at most a hundred, and how many more lie below those. No program in this text. -/
namespace Go.Proofs.YtmodmfkcigibpaaDoor.Pt
open Go Go.Proofs.YtmodmfkcigibpaaDoor.Cm Go.Proofs.YtmodmfkcigibpaaDoor.Quad
set_option maxRecDepth 100000

/-- L are the first hundred of the parts F, and b are those behind them -/
structure Trail (F L : Ps) (b : Nat) : Prop where
  eq : L = F.take 100
  num : F.length = L.length + b
  full : 0 < b → L.length = 100
theorem Trail.short {F L : Ps} {b : Nat} (h : Trail F L b) : L.length ≤ 100 := by rw [h.eq, List.length_take]; omega
theorem Trail.same {F L : Ps} (h : Trail F L 0) : L = F := by
  have h1 := h.num
  rw [h.eq]
  refine List.take_of_length_le ?_
  have h2 := h.eq
  have : L.length ≤ 100 := h.short
  omega
theorem Trail.start {F : Ps} (h : F.length ≤ 100) : Trail F F 0 := ⟨(List.take_of_length_le h).symm, rfl, fun h => absurd h (by decide)⟩
theorem Trail.more {F L : Ps} {b : Nat} (h : Trail F L b) (hf : L.length = 100) (p : List UInt8) : Trail (F ++ [p]) L (b + 1) := by
  have hn := h.num
  refine ⟨?_, by rw [List.length_append]; simp; omega, fun _ => hf⟩
  rw [List.take_append_of_le_length (by omega)]
  exact h.eq
theorem Trail.onto {F L : Ps} {b : Nat} (h : Trail F L b) (hf : L.length ≠ 100) (p : List UInt8) : b = 0 ∧ Trail (F ++ [p]) (L ++ [p]) 0 := by
  have hb : b = 0 := by
    rcases Nat.eq_zero_or_pos b with e | e
    · exact e
    · exact absurd (h.full e) hf
  subst hb
  have hs := h.short
  have := h.same
  subst this
  refine ⟨rfl, Trail.start ?_⟩
  rw [List.length_append]; simp; omega
theorem Trail.back {F L : Ps} {b : Nat} (h : Trail F L (b + 1)) : Trail F.dropLast L b := by
  have hn := h.num
  have hf := h.full (by omega)
  refine ⟨?_, by rw [List.length_dropLast]; omega, fun _ => hf⟩
  rw [List.dropLast_eq_take, List.take_take, Nat.min_eq_left (by omega)]
  exact h.eq
theorem Trail.less {F L : Ps} (h : Trail F L 0) : Trail F.dropLast L.dropLast 0 := by
  have hs := h.short
  have := h.same
  subst this
  exact Trail.start (by rw [List.length_dropLast]; omega)

theorem whole_least {l : Ps} (h : ∀ p ∈ l, p ≠ []) : 2 * l.length ≤ (whole l).length := by
  induction l with
  | nil => exact Nat.zero_le _
  | cons p l ih =>
    have hp := List.length_pos_iff.2 (h p (by simp))
    have hi := ih (fun q hq => h q (by simp [hq]))
    rw [whole_cons, List.length_cons, List.length_cons, List.length_append]
    omega
theorem pathOf_least {l : Ps} (h : ∀ p ∈ l, p ≠ []) : 2 * l.length ≤ (pathOf l).length := by
  cases l with
  | nil => exact Nat.zero_le _
  | cons p l => rw [pathOf_ne (by simp)]; exact whole_least h
theorem good_ne {l : Ps} (h : Good l) : ∀ p ∈ l, p ≠ [] := fun p hp => ((okP_iff p).1 (h.ok p hp)).1
/-- with more than a hundred parts no path has room -/
theorem Trail.over {F L : Ps} {b : Nat} (h : Trail F L b) (hb : 0 < b) (hg : Good F) : ¬ (pathOf F).length ≤ 200 := by
  have h1 := pathOf_least (good_ne hg)
  have h2 := h.num
  have h3 := h.full hb
  omega
/-- a path that may be has a hundred parts at most -/
theorem parts_hundred {s : List UInt8} (h : mayP s = true) : (parts s).length ≤ 100 := by
  have h1 := pathOf_least (good_ne (good_parts h))
  rw [path_parts (may_parts h).slash] at h1
  have := (may_parts h).short
  omega
theorem start_few {c a : List UInt8} (h : mayP c = true) : (start c a).length ≤ 100 := by
  unfold start; split
  · exact Nat.zero_le _
  · exact parts_hundred h

/-- a stroke, and the parts with strokes between: the path -/
theorem join_whole : ∀ (p : List UInt8) (l : Ps), Lib.join (p :: l) [47] = p ++ whole l
  | p, [] => by simp [Lib.join, List.intercalate, whole_nil]
  | p, q :: l => by
    have ih := join_whole q l
    rw [whole_cons, ← ih]
    simp [Lib.join, List.intercalate, List.intersperse]
theorem join_path (l : Ps) : 47 :: Lib.join l [47] = pathOf l := by
  cases l with
  | nil => simp [Lib.join, List.intercalate, pathOf_nil]
  | cons p l => rw [join_whole, pathOf_ne (by simp), whole_cons]
theorem cut_count : ∀ (l : List UInt8), (cutL 47 l).length = l.count 47 + 1
  | [] => rfl
  | b :: r => by
    have ih := cut_count r
    by_cases h : b = 47
    · subst h
      rw [cut_slash, List.length_cons, ih, List.count_cons_self]
    · rw [List.count_cons_of_ne h, ← ih]
      simp only [cutL, if_neg h]
      cases hc : cutL 47 r with
      | nil => exact absurd hc (cutL_ne 47 r)
      | cons q t => rfl
/-- what Split makes of a text at a stroke -/
theorem split_cut (l : List UInt8) : Lib.splitK [47] 0 (Lib.count l [47]) l = cutL 47 l :=
  splitK_few _ _ (by rw [cut_count, Lib.count_one]; exact Nat.le_refl _)
theorem join_le : ∀ (l : Ps), (Lib.join l [47]).length ≤ (whole l).length
  | [] => by simp [Lib.join, List.intercalate]
  | p :: l => by rw [join_whole, whole_cons, List.length_cons]; omega

#print axioms Trail.over
#print axioms join_path
#print axioms split_cut
end Go.Proofs.YtmodmfkcigibpaaDoor.Pt

/- Plain facts of layer 11: rules, which of them tells, what is allowed. -/
namespace Go.Proofs.YtmodmfkcigibpaaDoor.Ac
open Go.Proofs.YtmodmfkcigibpaaDoor Go.Proofs.YtmodmfkcigibpaaDoor.Pt
set_option maxRecDepth 100000

structure Rl where
  a : Bool
  v : List UInt8
  p : List UInt8
deriving DecidableEq, Inhabited

/-- one rule may be: its verb is empty or a verb's name, and its path may be -/
def okR (r : Rl) : Bool := mayP r.p && ((r.v == []) || ((Vb.found r.v).2 && ((Vb.found r.v).1.name == r.v)))
def mayL (l : List Rl) : Bool := decide (l.length ≤ 8) && l.all okR
/-- a rule tells of a verb and a path -/
def tells (v p : List UInt8) (r : Rl) : Bool := under r.p p && ((r.v == []) || (r.v == v))
def which (l : List Rl) (v p : List UInt8) : Int := match l.findIdx? (tells v p) with
  | some i => (i : Int)
  | none => -1
def allowed (l : List Rl) (v p : List UInt8) : Bool := match l.find? (tells v p) with
  | some r => r.a
  | none => false
/-- the bound of layer 11's statements -/
def fewL (l : List Rl) : Bool := decide (l.length ≤ 20) && l.all (fun r => decide (r.v.length ≤ 300) && decide (r.p.length ≤ 300))

theorem few_of {l : List Rl} (h : fewL l = true) : l.length ≤ 20 ∧ ∀ r ∈ l, r.v.length ≤ 300 ∧ r.p.length ≤ 300 := by
  unfold fewL at h
  rw [Bool.and_eq_true, decide_eq_true_eq, List.all_eq_true] at h
  refine ⟨h.1, fun r hr => ?_⟩
  have := h.2 r hr
  simpa using this

theorem which_none {l : List Rl} {v p : List UInt8} (h : ∀ r ∈ l, tells v p r = false) : which l v p = -1 := by
  unfold which
  rw [List.findIdx?_eq_none_iff.2 h]
theorem which_some {l : List Rl} {v p : List UInt8} {i : Nat} (h : l.findIdx? (tells v p) = some i) : which l v p = (i : Int) := by
  unfold which
  rw [h]
theorem which_cases (l : List Rl) (v p : List UInt8) : (which l v p = -1 ∧ allowed l v p = false ∧ ∀ r ∈ l, tells v p r = false) ∨
    ∃ i, ∃ (h : i < l.length), which l v p = (i : Int) ∧ allowed l v p = l[i].a ∧ tells v p l[i] = true ∧ ∀ j (hj : j < l.length), j < i → tells v p l[j] = false := by
  cases hf : l.findIdx? (tells v p) with
  | none =>
    left
    have hn := List.findIdx?_eq_none_iff.1 hf
    refine ⟨which_none hn, ?_, hn⟩
    unfold allowed
    rw [List.find?_eq_none.2 (fun r hr => by rw [hn r hr]; decide)]
  | some i =>
    right
    obtain ⟨hi, ht, hm⟩ := List.findIdx?_eq_some_iff_getElem.1 hf
    refine ⟨i, hi, which_some hf, ?_, ht, fun j hj hji => by have := hm j hji; simpa using this⟩
    unfold allowed
    have : l.find? (tells v p) = some l[i] := by
      rw [List.find?_eq_some_iff_getElem]
      exact ⟨ht, i, hi, rfl, fun j hj => by have := hm j hj; simpa using this⟩
    rw [this]
theorem which_range (l : List Rl) (v p : List UInt8) : -1 ≤ which l v p ∧ which l v p < (l.length : Int) := by
  rcases which_cases l v p with ⟨h, _⟩ | ⟨i, hi, h, _⟩ <;> rw [h] <;> omega
/-- what is known of a place makes it the answer -/
theorem which_at {l : List Rl} {v p : List UInt8} {i : Nat} (hi : i < l.length) (ht : tells v p l[i] = true) (hm : ∀ j (hj : j < l.length), j < i → tells v p l[j] = false) : which l v p = (i : Int) ∧ allowed l v p = l[i].a := by
  have hf : l.findIdx? (tells v p) = some i := List.findIdx?_eq_some_iff_getElem.2 ⟨hi, ht, fun j hj => by have := hm j (by omega) hj; simpa using this⟩
  refine ⟨which_some hf, ?_⟩
  unfold allowed
  rw [List.find?_eq_some_iff_getElem.2 ⟨ht, i, hi, rfl, fun j hj => by have := hm j (by omega) hj; simpa using this⟩]
theorem allowed_none {l : List Rl} {v p : List UInt8} (h : ∀ r ∈ l, tells v p r = false) : allowed l v p = false := by
  unfold allowed
  rw [List.find?_eq_none.2 (fun r hr => by rw [h r hr]; decide)]

/-! ### two lists, one behind the other -/
theorem both_first {l m : List Rl} {v p : List UInt8} (h : 0 ≤ which l v p) : which (l ++ m) v p = which l v p ∧ allowed (l ++ m) v p = allowed l v p ∧ which (l.take (which l v p).toNat) v p = -1 ∧ which l v p < (l.length : Int) := by
  rcases which_cases l v p with ⟨h', _⟩ | ⟨i, hi, h1, h2, h3, h4⟩
  · omega
  · obtain ⟨k1, k2⟩ := which_at (l := l ++ m) (v := v) (p := p) (i := i) (by rw [List.length_append]; omega) (by rw [List.getElem_append_left hi]; exact h3)
      (fun j hj hji => by rw [List.getElem_append_left (by omega)]; exact h4 j (by omega) hji)
    refine ⟨by rw [k1, h1], by rw [k2, h2, List.getElem_append_left hi], ?_, by omega⟩
    rw [h1, Int.toNat_natCast]
    refine which_none fun r hr => ?_
    obtain ⟨j, hj, rfl⟩ := List.mem_iff_getElem.1 hr
    rw [List.length_take] at hj
    rw [List.getElem_take]
    exact h4 j (by omega) (by omega)
theorem both_then {l m : List Rl} {v p : List UInt8} (h : which l v p < 0) : (which m v p < 0 → which (l ++ m) v p = -1) ∧ (0 ≤ which m v p → which (l ++ m) v p = which m v p + (l.length : Int)) := by
  rcases which_cases l v p with ⟨_, _, hn⟩ | ⟨i, hi, h1, _⟩
  · refine ⟨fun hm => ?_, fun hm => ?_⟩
    · rcases which_cases m v p with ⟨_, _, hn2⟩ | ⟨i, hi, h1, _⟩
      · exact which_none fun r hr => by
          rcases List.mem_append.1 hr with h | h
          · exact hn r h
          · exact hn2 r h
      · omega
    · rcases which_cases m v p with ⟨h1, _⟩ | ⟨i, hi, h1, h2, h3, h4⟩
      · omega
      · have hlen : l.length + i < (l ++ m).length := by rw [List.length_append]; omega
        obtain ⟨k1, _⟩ := which_at (l := l ++ m) (v := v) (p := p) (i := l.length + i) hlen (by rw [List.getElem_append_right (by omega)]; simpa using h3)
          (fun j hj hji => by
            by_cases hjl : j < l.length
            · rw [List.getElem_append_left hjl]; exact hn _ (List.getElem_mem hjl)
            · rw [List.getElem_append_right (by omega)]; exact h4 _ _ (by omega))
        rw [k1, h1]; omega
  · omega

/-- a rule of all ahead of them -/
theorem tells_root {v p : List UInt8} {a : Bool} : tells v p ⟨a, [], [47]⟩ = mayP p := by
  unfold tells
  show (under [47] p && (([] : List UInt8) == [] || _)) = _
  cases h : mayP p with
  | true => rw [under_root h]; rfl
  | false => rw [(under_no (b := [47]) h).2]; rfl
theorem tells_may {v p : List UInt8} {r : Rl} (h : mayP p = false) : tells v p r = false := by
  unfold tells
  rw [(under_no (b := r.p) h).2]; rfl
theorem allowed_all (l : List Rl) (a : Bool) (v p : List UInt8) : allowed (⟨a, [], [47]⟩ :: l) v p = (a && mayP p) := by
  cases h : mayP p with
  | true =>
    obtain ⟨_, k⟩ := which_at (l := ⟨a, [], [47]⟩ :: l) (v := v) (p := p) (i := 0) (by simp) (by show tells v p ⟨a, [], [47]⟩ = true; rw [tells_root]; exact h) (fun j _ hj => by omega)
    rw [k]; simp
  | false =>
    rw [allowed_none (fun r _ => tells_may h)]; simp

/-! ### a rule alone -/
theorem alone {r : Rl} {v p : List UInt8} : which [r] v p = (if tells v p r then 0 else -1) ∧ allowed [r] v p = (tells v p r && r.a) := by
  cases h : tells v p r with
  | true =>
    obtain ⟨k1, k2⟩ := which_at (l := [r]) (v := v) (p := p) (i := 0) (by simp) (by simpa using h) (fun j _ hj => by omega)
    exact ⟨by rw [k1]; rfl, by rw [k2]; simp⟩
  | false =>
    have hn : ∀ q ∈ [r], tells v p q = false := fun q hq => by rw [List.mem_singleton.1 hq]; exact h
    exact ⟨by rw [which_none hn]; rfl, by rw [allowed_none hn]; simp⟩
theorem tells_below {r : Rl} {v p q : List UInt8} (h : tells v p r = true) (hu : under p q = true) : tells v q r = true := by
  unfold tells at h ⊢
  rw [Bool.and_eq_true] at h ⊢
  exact ⟨under_trans h.1 hu, h.2⟩

/-! ### a rule of another verb in between -/
theorem tells_other {r : Rl} {v p : List UInt8} (h1 : r.v ≠ []) (h2 : r.v ≠ v) : tells v p r = false := by
  unfold tells
  rw [beq_eq_false_iff_ne.2 h1, beq_eq_false_iff_ne.2 h2]
  simp
theorem find_other {l : List Rl} {r : Rl} {v p : List UInt8} {k : Nat} (h : tells v p r = false) : (l.take k ++ r :: l.drop k).find? (tells v p) = l.find? (tells v p) := by
  rw [List.find?_append, List.find?_cons, h]
  conv => rhs; rw [← List.take_append_drop k l, List.find?_append]
theorem allowed_other {l : List Rl} {r : Rl} {v p : List UInt8} {k : Nat} (h : tells v p r = false) : allowed (l.take k ++ r :: l.drop k) v p = allowed l v p := by
  unfold allowed
  rw [find_other h]
theorem which_other {l : List Rl} {r : Rl} {v p : List UInt8} {k : Nat} (hk : k ≤ l.length) (h : tells v p r = false) : which (l.take k ++ r :: l.drop k) v p = (if which l v p ≥ (k : Int) then which l v p + 1 else which l v p) := by
  have hlen : (l.take k ++ r :: l.drop k).length = l.length + 1 := by rw [List.length_append, List.length_cons, List.length_take, List.length_drop]; omega
  have at1 : ∀ j (hj : j < k), (l.take k ++ r :: l.drop k)[j]'(by omega) = l[j]'(by omega) := fun j hj => by
    rw [List.getElem_append_left (by rw [List.length_take]; omega), List.getElem_take]
  have at2 : (l.take k ++ r :: l.drop k)[k]'(by omega) = r := by
    rw [List.getElem_append_right (by rw [List.length_take]; omega)]
    have : k - (l.take k).length = 0 := by rw [List.length_take]; omega
    simp only [this, List.getElem_cons_zero]
  have at3 : ∀ j (hj : k < j) (hl : j < l.length + 1), (l.take k ++ r :: l.drop k)[j]'(by omega) = l[j - 1]'(by omega) := fun j hj hl => by
    rw [List.getElem_append_right (by rw [List.length_take]; omega)]
    have : j - (l.take k).length = (j - k - 1) + 1 := by rw [List.length_take]; omega
    simp only [this, List.getElem_cons_succ, List.getElem_drop]
    congr 1; omega
  rcases which_cases l v p with ⟨h0, _, hn⟩ | ⟨i, hi, h1, h2, h3, h4⟩
  · rw [h0, if_neg (by omega)]
    refine which_none fun q hq => ?_
    rcases List.mem_append.1 hq with hq | hq
    · exact hn q (List.mem_of_mem_take hq)
    · rcases List.mem_cons.1 hq with rfl | hq
      · exact h
      · exact hn q (List.mem_of_mem_drop hq)
  · rw [h1]
    by_cases hik : k ≤ i
    · rw [if_pos (by omega)]
      obtain ⟨k1, _⟩ := which_at (l := l.take k ++ r :: l.drop k) (v := v) (p := p) (i := i + 1) (by omega) (by rw [at3 (i + 1) (by omega) (by omega)]; simpa using h3)
        (fun j hj hji => by
          rcases Nat.lt_trichotomy j k with hjk | hjk | hjk
          · rw [at1 j hjk]; exact h4 j (by omega) (by omega)
          · subst hjk; rw [at2]; exact h
          · rw [at3 j hjk (by omega)]; exact h4 _ (by omega) (by omega))
      rw [k1]; omega
    · rw [if_neg (by omega)]
      obtain ⟨k1, _⟩ := which_at (l := l.take k ++ r :: l.drop k) (v := v) (p := p) (i := i) (by omega) (by rw [at1 i (by omega)]; exact h3)
        (fun j hj hji => by rw [at1 j (by omega)]; exact h4 j (by omega) hji)
      exact k1

#print axioms which_other
#print axioms both_then
end Go.Proofs.YtmodmfkcigibpaaDoor.Ac

/- Plain facts of layer 12: names, users, what stands ahead of the last sign and behind it, who has a host. -/
namespace Go.Proofs.YtmodmfkcigibpaaDoor.Ro
open Go.Proofs.YtmodmfkcigibpaaDoor Go.Proofs.YtmodmfkcigibpaaDoor.Cm
set_option maxRecDepth 100000

def nameC (c : UInt8) : Bool := (decide (97 ≤ c.toNat) && decide (c.toNat ≤ 122)) || ((decide (48 ≤ c.toNat) && decide (c.toNat ≤ 57)) || ((c == 46) || (c == 45)))
def nameB (s : List UInt8) : Bool := s.all nameC && (decide (1 ≤ s.length) && decide (s.length ≤ 60))
def userB (s : List UInt8) : Bool := clean s && (s.all (· != 32) && (decide (1 ≤ s.length) && decide (s.length ≤ 60)))
/-- what stands ahead of the last sign, and behind it -/
def cutLast : List UInt8 → Option (List UInt8 × List UInt8)
  | [] => none
  | c :: r => match cutLast r with
    | some (u, h) => some (c :: u, h)
    | none => if c == 64 then some ([], r) else none
def splitR (s : List UInt8) : List UInt8 × List UInt8 × Bool := match cutLast s with
  | some (u, h) => if userB u && nameB h then (u, h, true) else ([], [], false)
  | none => ([], [], false)
/-- the place of the first of the hosts that host is -/
def findH (l : List (List UInt8)) (host : List UInt8) : Int := match l.findIdx? (· == host) with
  | some i => (i : Int)
  | none => -1

theorem cut_none : ∀ {s : List UInt8}, (64 : UInt8) ∉ s → cutLast s = none
  | [], _ => rfl
  | c :: r, h => by
    have h1 : c ≠ 64 := fun e => h (by rw [e]; exact List.mem_cons_self)
    have h2 : (64 : UInt8) ∉ r := fun e => h (List.mem_cons_of_mem _ e)
    unfold cutLast
    rw [cut_none h2]
    simp [h1]
theorem cut_last : ∀ (u : List UInt8) {h : List UInt8}, (64 : UInt8) ∉ h → cutLast (u ++ 64 :: h) = some (u, h)
  | [], h, hf => by
    show cutLast (64 :: h) = _
    unfold cutLast
    rw [cut_none hf]
    rfl
  | c :: u, h, hf => by
    show cutLast (c :: (u ++ 64 :: h)) = _
    unfold cutLast
    rw [cut_last u hf]
theorem cut_at {s : List UInt8} {k : Nat} (hk : k < s.length) (hc : s[k] = 64) (hf : (64 : UInt8) ∉ s.drop (k + 1)) : cutLast s = some (s.take k, s.drop (k + 1)) := by
  have e : s = s.take k ++ 64 :: s.drop (k + 1) := by
    rw [← hc, ← List.drop_eq_getElem_cons hk, List.take_append_drop]
  conv => lhs; rw [e]
  exact cut_last _ hf
theorem name_free {h : List UInt8} (hn : nameB h = true) : (64 : UInt8) ∉ h := by
  intro hm
  unfold nameB at hn
  rw [Bool.and_eq_true, List.all_eq_true] at hn
  exact absurd (hn.1 _ hm) (by decide)
theorem split_of {s u h : List UInt8} (hc : cutLast s = some (u, h)) : splitR s = if userB u && nameB h then (u, h, true) else ([], [], false) := by
  unfold splitR; rw [hc]
theorem split_none {s : List UInt8} (hc : cutLast s = none) : splitR s = ([], [], false) := by
  unfold splitR; rw [hc]
/-- of several signs the last one tells -/
theorem split_fine {u h : List UInt8} (hu : userB u = true) (hn : nameB h = true) : splitR (u ++ 64 :: h) = (u, h, true) := by
  rw [split_of (cut_last u (name_free hn)), hu, hn]; rfl
/-- what is split may be -/
theorem split_may {s : List UInt8} (h : (splitR s).2.2 = true) : userB (splitR s).1 = true ∧ nameB (splitR s).2.1 = true := by
  cases hc : cutLast s with
  | none => rw [split_none hc] at h; cases h
  | some q =>
    obtain ⟨u, g⟩ := q
    rw [split_of hc] at h ⊢
    by_cases hq : (userB u && nameB g) = true
    · rw [if_pos hq] at h ⊢
      rw [Bool.and_eq_true] at hq
      exact hq
    · rw [if_neg hq] at h; cases h
theorem split_not {s : List UInt8} (h : (splitR s).2.2 = false) : splitR s = ([], [], false) := by
  cases hc : cutLast s with
  | none => exact split_none hc
  | some q =>
    obtain ⟨u, g⟩ := q
    rw [split_of hc] at h ⊢
    by_cases hq : (userB u && nameB g) = true
    · rw [if_pos hq] at h; cases h
    · rw [if_neg hq]
theorem name_none : nameB [] = false := rfl
theorem user_none : userB [] = false := rfl
/-- no sign, or one alone at an end: no split -/
theorem no_sign {s : List UInt8} (h : (64 : UInt8) ∉ s) : (splitR s).2.2 = false ∧ (splitR (s ++ [64])).2.2 = false ∧ (splitR (64 :: s)).2.2 = false := by
  refine ⟨by rw [split_none (cut_none h)], ?_, ?_⟩
  · rw [split_of (cut_last s (h := []) (by simp)), name_none, Bool.and_false]; rfl
  · rw [split_of (show cutLast (64 :: s) = some ([], s) from cut_last [] h), user_none, Bool.false_and]; rfl
theorem cut_len : ∀ {s u h : List UInt8}, cutLast s = some (u, h) → u.length + h.length + 1 = s.length
  | [], _, _, e => by cases e
  | c :: r, u, h, e => by
    unfold cutLast at e
    cases hr : cutLast r with
    | some q =>
      obtain ⟨u', h'⟩ := q
      rw [hr] at e
      simp only [Option.some.injEq, Prod.mk.injEq] at e
      obtain ⟨rfl, rfl⟩ := e
      have := cut_len hr
      simp; omega
    | none =>
      rw [hr] at e
      simp only at e
      split at e
      · simp only [Option.some.injEq, Prod.mk.injEq] at e
        obtain ⟨rfl, rfl⟩ := e
        simp
      · cases e
theorem split_len (s : List UInt8) : (splitR s).1.length ≤ s.length ∧ (splitR s).2.1.length ≤ s.length := by
  cases hc : cutLast s with
  | none => rw [split_none hc]; exact ⟨Nat.zero_le _, Nat.zero_le _⟩
  | some q =>
    obtain ⟨u, g⟩ := q
    have := cut_len hc
    rw [split_of hc]
    split
    · exact ⟨by show u.length ≤ _; omega, by show g.length ≤ _; omega⟩
    · exact ⟨Nat.zero_le _, Nat.zero_le _⟩

/-! ### hosts -/
theorem find_none {l : List (List UInt8)} {h : List UInt8} (hn : ∀ j (hj : j < l.length), l[j] ≠ h) : findH l h = -1 := by
  unfold findH
  rw [List.findIdx?_eq_none_iff.2 (fun x hx => by
    obtain ⟨j, hj, rfl⟩ := List.mem_iff_getElem.1 hx
    exact beq_eq_false_iff_ne.2 (hn j hj))]
theorem find_at {l : List (List UInt8)} {h : List UInt8} {i : Nat} (hi : i < l.length) (he : l[i] = h) (hn : ∀ j (hj : j < l.length), j < i → l[j] ≠ h) : findH l h = (i : Int) := by
  unfold findH
  rw [List.findIdx?_eq_some_iff_getElem.2 ⟨hi, by simpa using he, fun j hj => by have := hn j (by omega) hj; simpa using this⟩]

/-! ### loops -/
theorem name_eq (s : List UInt8) : nameB s = (s.all nameC && (decide (1 ≤ s.length) && decide (s.length ≤ 60))) := rfl
theorem user_eq (s : List UInt8) : userB s = (clean s && (s.all (· != 32) && (decide (1 ≤ s.length) && decide (s.length ≤ 60)))) := rfl
theorem each_next {s : List UInt8} {f : UInt8 → Bool} {k : Nat} (h : k < s.length) : (s.take (k + 1)).all f = ((s.take k).all f && f s[k]) := by
  rw [List.take_succ_eq_append_getElem h, List.all_append, List.all_cons, List.all_nil, Bool.and_true]
theorem each_no {s : List UInt8} {f : UInt8 → Bool} {k : Nat} (h : k < s.length) (ho : f s[k] = false) : s.all f = false := by
  cases hc : s.all f with
  | false => rfl
  | true => rw [List.all_eq_true.1 hc _ (List.getElem_mem h)] at ho; cases ho

#print axioms no_sign
#print axioms split_fine
end Go.Proofs.YtmodmfkcigibpaaDoor.Ro

/- Plain facts of layer 13: which confs may be, and why one may not. -/
namespace Go.Proofs.YtmodmfkcigibpaaDoor.Co
open Go.Proofs.YtmodmfkcigibpaaDoor Go.Proofs.YtmodmfkcigibpaaDoor.Ac Go.Proofs.YtmodmfkcigibpaaDoor.Ro
set_option maxRecDepth 100000
set_option linter.unusedVariables false

structure Tn where
  name : List UInt8
  host : List UInt8
  a : Int
  b : Int
  c : Int
  d : Int
  port : Int
  low : Int
  high : Int
  rv : Go.Value
  rs : List Rl
  sess : Int
  holes : Int
  quota : Int
  each : Int
instance : Inhabited Tn := ⟨⟨[], [], 0, 0, 0, 0, 0, 0, 0, .slice none 0 0, [], 0, 0, 0, 0⟩⟩

def inB (n lo hi : Int) : Bool := decide (lo ≤ n) && decide (n ≤ hi)
def oneB (t : Tn) : Bool := userB t.name && (nameB t.host && (mayL t.rs && (inB t.quota 0 1099511627776 && (inB t.each 0 1099511627776 && (inB t.sess 1 8 && (inB t.holes 1 8 && inB t.port 1 65535))))))
def hosted (l : List Tn) (h : List UInt8) : Bool := l.any (fun t => t.host == h)
def tenOk (l : List Tn) (t : Tn) : Bool := !hosted l t.host && oneB t
def rangeB (t : Tn) : Bool := decide (1024 ≤ t.low) && (decide (t.low ≤ t.high) && decide (t.high ≤ 65535))
def meet (t u : Tn) : Bool := decide (t.low ≤ u.high) && decide (u.low ≤ t.high)
def portsOk (l : List Tn) (t : Tn) : Bool := rangeB t && !l.any (meet t)
/-- what is wrong with one, those ahead of it known -/
def bad (l : List Tn) (t : Tn) : Int := if tenOk l t then (if portsOk l t then 0 else 3) else 2
def badAt (l : List Tn) (k : Nat) : Int := match l[k]? with
  | some t => bad (l.take k) t
  | none => 0
def whyL (l : List Tn) : Int × Int := match (List.range l.length).find? (fun k => badAt l k != 0) with
  | some k => ((k : Int), badAt l k)
  | none => (-1, 0)
def headB (pre life idle : Int) : Bool := inB pre 1 8 && (inB life 1 1099511627776 && inB idle 1 1099511627776)
def why (pre life idle : Int) (l : List Tn) : Int × Int := if headB pre life idle && inB (l.length : Int) 1 4 then whyL l else (-1, 1)
def mayC (pre life idle : Int) (l : List Tn) : Bool := decide ((why pre life idle l).2 = 0)
theorem mayC_eq {pre life idle : Int} {l : List Tn} {x y : Int} (h : why pre life idle l = (x, y)) : mayC pre life idle l = (y == 0) := by unfold mayC; rw [h]; rfl
def fewT (t : Tn) : Bool := decide (t.rs.length ≤ 20) && (decide (t.name.length ≤ 300) && (decide (t.host.length ≤ 300) && t.rs.all (fun r => decide (r.v.length ≤ 300) && decide (r.p.length ≤ 300))))
def few (l : List Tn) : Bool := decide (l.length ≤ 6) && l.all fewT
structure Few (l : List Tn) : Prop where
  len : l.length ≤ 6
  name : ∀ t ∈ l, t.name.length ≤ 300
  host : ∀ t ∈ l, t.host.length ≤ 300
  rs : ∀ t ∈ l, t.rs.length ≤ 20
  texts : ∀ t ∈ l, ∀ r ∈ t.rs, r.v.length ≤ 300 ∧ r.p.length ≤ 300

theorem inB_iff {n lo hi : Int} : inB n lo hi = true ↔ lo ≤ n ∧ n ≤ hi := by unfold inB; simp
theorem few_iff {l : List Tn} : few l = true ↔ Few l := by
  unfold few fewT
  simp only [Bool.and_eq_true, decide_eq_true_eq, List.all_eq_true]
  constructor
  · intro h
    exact ⟨h.1, fun t ht => (h.2 t ht).2.1, fun t ht => (h.2 t ht).2.2.1, fun t ht => (h.2 t ht).1, fun t ht r hr => (h.2 t ht).2.2.2 r hr⟩
  · intro h
    exact ⟨h.len, fun t ht => ⟨h.rs t ht, h.name t ht, h.host t ht, fun r hr => h.texts t ht r hr⟩⟩
theorem bad_cases (l : List Tn) (t : Tn) : (tenOk l t = false ∧ bad l t = 2) ∨ (tenOk l t = true ∧ portsOk l t = false ∧ bad l t = 3) ∨ (tenOk l t = true ∧ portsOk l t = true ∧ bad l t = 0) := by
  unfold bad
  cases h1 : tenOk l t
  · exact Or.inl ⟨rfl, rfl⟩
  · cases h2 : portsOk l t
    · exact Or.inr (Or.inl ⟨rfl, rfl, rfl⟩)
    · exact Or.inr (Or.inr ⟨rfl, rfl, rfl⟩)
theorem badAt_some {l : List Tn} {k : Nat} (h : k < l.length) : badAt l k = bad (l.take k) l[k] := by
  unfold badAt
  rw [List.getElem?_eq_getElem h]
theorem badAt_range (l : List Tn) (k : Nat) : badAt l k = 0 ∨ badAt l k = 2 ∨ badAt l k = 3 := by
  unfold badAt
  split
  · rcases bad_cases (l.take k) ‹Tn› with h | h | h
    · exact Or.inr (Or.inl h.2)
    · exact Or.inr (Or.inr h.2.2)
    · exact Or.inl h.2.2
  · exact Or.inl rfl
theorem why_at {l : List Tn} {k : Nat} (hk : k < l.length) (hb : badAt l k ≠ 0) (hn : ∀ j, j < k → badAt l j = 0) : whyL l = ((k : Int), badAt l k) := by
  unfold whyL
  have hq : (List.range l.length).find? (fun k => badAt l k != 0) = some k := by
    rw [List.find?_eq_some_iff_getElem]
    refine ⟨by simpa using hb, k, by rw [List.length_range]; exact hk, by simp, fun j hj => ?_⟩
    simp only [List.getElem_range]
    rw [hn j hj]; rfl
  rw [hq]
theorem why_end {l : List Tn} (hn : ∀ j, j < l.length → badAt l j = 0) : whyL l = (-1, 0) := by
  unfold whyL
  have hq : (List.range l.length).find? (fun k => badAt l k != 0) = none := by
    rw [List.find?_eq_none]
    intro x hx
    rw [List.mem_range] at hx
    rw [hn x hx]; decide
  rw [hq]
theorem least {P : Nat → Prop} [DecidablePred P] : ∀ n, (∃ k, k < n ∧ P k) → ∃ k, k < n ∧ P k ∧ ∀ j, j < k → ¬ P j
  | 0, h => by obtain ⟨k, hk, _⟩ := h; omega
  | n + 1, h => by
    by_cases hb : ∃ k, k < n ∧ P k
    · obtain ⟨k, h1, h2, h3⟩ := least n hb
      exact ⟨k, by omega, h2, h3⟩
    · obtain ⟨k, hk, hp⟩ := h
      refine ⟨k, hk, hp, fun j hj hq => hb ⟨j, by omega, hq⟩⟩
theorem why_cases (l : List Tn) : ((∀ j, j < l.length → badAt l j = 0) ∧ whyL l = (-1, 0)) ∨ ∃ k, k < l.length ∧ (badAt l k = 2 ∨ badAt l k = 3) ∧ (∀ j, j < k → badAt l j = 0) ∧ whyL l = ((k : Int), badAt l k) := by
  by_cases h : ∃ k, k < l.length ∧ badAt l k ≠ 0
  · obtain ⟨k, h1, h2, h3⟩ := least l.length h
    have h4 : ∀ j, j < k → badAt l j = 0 := fun j hj => Classical.byContradiction (h3 j hj)
    refine Or.inr ⟨k, h1, ?_, h4, why_at h1 h2 h4⟩
    rcases badAt_range l k with h | h
    · exact absurd h h2
    · exact h
  · have h4 : ∀ j, j < l.length → badAt l j = 0 := fun j hj => Classical.byContradiction (fun hc => h ⟨j, hj, hc⟩)
    exact Or.inl ⟨h4, why_end h4⟩

/-- a conf that may be -/
structure Fine (pre life idle : Int) (l : List Tn) : Prop where
  head : headB pre life idle = true
  one : 1 ≤ l.length
  most : l.length ≤ 4
  all : ∀ j, j < l.length → badAt l j = 0
theorem why_fine {pre life idle : Int} {l : List Tn} (h : Fine pre life idle l) : why pre life idle l = (-1, 0) := by
  unfold why
  rw [h.head, inB_iff.2 ⟨by have := h.one; omega, by have := h.most; omega⟩, why_end h.all]
  rfl
theorem why_ways (pre life idle : Int) (l : List Tn) : Fine pre life idle l ∨ why pre life idle l = (-1, 1) ∨
    ∃ k, headB pre life idle = true ∧ 1 ≤ l.length ∧ l.length ≤ 4 ∧ k < l.length ∧ (badAt l k = 2 ∨ badAt l k = 3) ∧ (∀ j, j < k → badAt l j = 0) ∧ why pre life idle l = ((k : Int), badAt l k) := by
  unfold why
  by_cases h : (headB pre life idle && inB (l.length : Int) 1 4) = true
  · rw [if_pos h]
    rw [Bool.and_eq_true, inB_iff] at h
    rcases why_cases l with ⟨h1, h2⟩ | ⟨k, h1, h2, h3, h4⟩
    · exact Or.inl ⟨h.1, by omega, by omega, h1⟩
    · exact Or.inr (Or.inr ⟨k, h.1, by omega, by omega, h1, h2, h3, h4⟩)
  · rw [if_neg h]
    exact Or.inr (Or.inl rfl)
theorem why_zero {pre life idle : Int} {l : List Tn} (h : (why pre life idle l).2 = 0) : Fine pre life idle l := by
  rcases why_ways pre life idle l with h1 | h1 | ⟨k, _, _, _, _, h2, _, h3⟩
  · exact h1
  · rw [h1] at h; cases h
  · rw [h3] at h; simp only at h; rcases h2 with h2 | h2 <;> rw [h2] at h <;> cases h

/-! ### what the laws say -/
theorem badAt_take {l : List Tn} {m k : Nat} (h : k < m) : badAt (l.take m) k = badAt l k := by
  unfold badAt
  rw [List.getElem?_take_of_lt h, List.take_take, Nat.min_eq_left (by omega)]
theorem hosted_mono {l m : List Tn} (h : ∀ t ∈ l, t ∈ m) {s : List UInt8} (hm : hosted m s = false) : hosted l s = false := by
  unfold hosted at hm ⊢
  rw [List.any_eq_false] at hm ⊢
  exact fun t ht => hm t (h t ht)
theorem bad_mono {l m : List Tn} (h : ∀ t ∈ l, t ∈ m) {t : Tn} (hm : bad m t = 0) : bad l t = 0 := by
  rcases bad_cases m t with h1 | h1 | ⟨h1, h2, _⟩
  · rw [h1.2] at hm; cases hm
  · rw [h1.2.2] at hm; cases hm
  · unfold bad
    have e1 : tenOk l t = true := by
      unfold tenOk at h1 ⊢
      rw [Bool.and_eq_true, Bool.not_eq_true'] at h1 ⊢
      exact ⟨hosted_mono h h1.1, h1.2⟩
    have e2 : portsOk l t = true := by
      unfold portsOk at h2 ⊢
      rw [Bool.and_eq_true, Bool.not_eq_true', List.any_eq_false] at h2 ⊢
      exact ⟨h2.1, fun u hu => h2.2 u (h u hu)⟩
    rw [e1, e2]; rfl
theorem fine_first {pre life idle : Int} {l : List Tn} (h : Fine pre life idle l) (hn : 2 ≤ l.length) : Fine pre life idle (l.drop 1) := by
  refine ⟨h.head, by rw [List.length_drop]; omega, by rw [List.length_drop]; have := h.most; omega, fun j hj => ?_⟩
  have hj' : j < l.length - 1 := by simpa [List.length_drop] using hj
  have hj2 : j + 1 < l.length := by omega
  have h1 := h.all (j + 1) hj2
  rw [badAt_some hj2] at h1
  rw [badAt_some hj]
  have e : (l.drop 1)[j]'hj = l[j + 1] := by rw [List.getElem_drop]; congr 1; omega
  rw [e]
  refine bad_mono (fun t ht => ?_) h1
  rw [List.take_drop] at ht
  rw [show j + 1 = 1 + j from by omega]
  exact List.mem_of_mem_drop ht
theorem fine_take {pre life idle : Int} {l : List Tn} (hh : headB pre life idle = true) {m : Nat} (hm : m ≤ l.length) (h1 : 1 ≤ m) (h4 : m ≤ 4) (ha : ∀ j, j < m → badAt l j = 0) : Fine pre life idle (l.take m) := by
  have hl : (l.take m).length = m := by rw [List.length_take]; omega
  exact ⟨hh, by omega, by omega, fun j hj => by rw [badAt_take (by omega)]; exact ha j (by omega)⟩
theorem why_cut {pre life idle : Int} {l : List Tn} {k : Nat} (hh : headB pre life idle = true) (h4 : l.length ≤ 4) (hk : k < l.length) (hb : badAt l k = 2 ∨ badAt l k = 3) (hn : ∀ j, j < k → badAt l j = 0) :
    why pre life idle (l.take (k + 1)) = ((k : Int), badAt l k) := by
  have hl : (l.take (k + 1)).length = k + 1 := by rw [List.length_take]; omega
  unfold why
  rw [hh, inB_iff.2 ⟨by omega, by omega⟩]
  have e := badAt_take (l := l) (m := k + 1) (k := k) (by omega)
  have := why_at (l := l.take (k + 1)) (k := k) (by omega) (by rw [e]; rcases hb with h | h <;> rw [h] <;> decide) (fun j hj => by rw [badAt_take (by omega)]; exact hn j hj)
  rw [e] at this
  rw [this]; rfl
theorem ten_host {l : List Tn} {k j : Nat} (hk : k < l.length) (hj : j < k) (hb : badAt l k = 0) : l[j].host ≠ l[k].host := by
  rw [badAt_some hk] at hb
  rcases bad_cases (l.take k) l[k] with h1 | h1 | ⟨h1, _, _⟩
  · rw [h1.2] at hb; cases hb
  · rw [h1.2.2] at hb; cases hb
  · unfold tenOk at h1
    rw [Bool.and_eq_true, Bool.not_eq_true'] at h1
    have := h1.1
    unfold hosted at this
    rw [List.any_eq_false] at this
    intro e
    refine this l[j] (List.mem_take_iff_getElem.2 ⟨j, by omega, rfl⟩) ?_
    rw [e]; simp
theorem ten_fine {l : List Tn} {k : Nat} (hk : k < l.length) (hb : badAt l k = 0) : 1024 ≤ l[k].low ∧ l[k].low ≤ l[k].high ∧ l[k].high ≤ 65535 ∧ 1 ≤ l[k].sess ∧ 1 ≤ l[k].holes ∧ oneB l[k] = true := by
  rw [badAt_some hk] at hb
  rcases bad_cases (l.take k) l[k] with h1 | h1 | ⟨h1, h2, _⟩
  · rw [h1.2] at hb; cases hb
  · rw [h1.2.2] at hb; cases hb
  · unfold tenOk at h1
    unfold portsOk rangeB at h2
    simp only [Bool.and_eq_true, decide_eq_true_eq] at h1 h2
    have h3 := h1.2
    unfold oneB at h3
    simp only [Bool.and_eq_true, inB_iff] at h3
    exact ⟨h2.1.1, h2.1.2.1, h2.1.2.2, h3.2.2.2.2.2.1.1, h3.2.2.2.2.2.2.1.1, h1.2⟩
theorem ten_meet {l : List Tn} {k j : Nat} (hk : k < l.length) (hj : j < k) (hb : badAt l k = 0) : ¬ (l[k].low ≤ l[j].high ∧ l[j].low ≤ l[k].high) := by
  rw [badAt_some hk] at hb
  rcases bad_cases (l.take k) l[k] with h1 | h1 | ⟨_, h2, _⟩
  · rw [h1.2] at hb; cases hb
  · rw [h1.2.2] at hb; cases hb
  · unfold portsOk at h2
    rw [Bool.and_eq_true, Bool.not_eq_true', List.any_eq_false] at h2
    intro e
    refine h2.2 l[j] (List.mem_take_iff_getElem.2 ⟨j, by omega, rfl⟩) ?_
    unfold meet
    simp only [Bool.and_eq_true, decide_eq_true_eq]
    exact e
/-- how many of the first k have a port -/
def haveP (l : List Tn) (p : Int) (k : Nat) : Nat := ((l.take k).filter (fun t => decide (t.low ≤ p) && decide (p ≤ t.high))).length
theorem have_next {l : List Tn} {p : Int} {k : Nat} (h : k < l.length) : haveP l p (k + 1) = haveP l p k + (if decide (l[k].low ≤ p) && decide (p ≤ l[k].high) then 1 else 0) := by
  unfold haveP
  rw [List.take_succ_eq_append_getElem h, List.filter_append, List.length_append]
  congr 1
  cases hc : (decide (l[k].low ≤ p) && decide (p ≤ l[k].high)) <;> simp [hc]
theorem have_le (l : List Tn) (p : Int) (k : Nat) : haveP l p k ≤ k := by
  unfold haveP
  refine Nat.le_trans (List.length_filter_le _ _) ?_
  rw [List.length_take]; omega
theorem have_one {l : List Tn} {p : Int} (ha : ∀ j, j < l.length → badAt l j = 0) : ∀ k, k ≤ l.length → haveP l p k ≤ 1 ∧ (haveP l p k = 1 → ∃ j, ∃ (h : j < l.length), j < k ∧ l[j].low ≤ p ∧ p ≤ l[j].high)
  | 0, _ => by unfold haveP; simp
  | k + 1, hk => by
    obtain ⟨h1, h2⟩ := have_one ha k (by omega)
    rw [have_next (by omega)]
    cases hc : (decide (l[k].low ≤ p) && decide (p ≤ l[k].high)) with
    | false =>
      simp only [Bool.false_eq_true, if_false, Nat.add_zero]
      exact ⟨h1, fun e => by obtain ⟨j, a, b, c⟩ := h2 e; exact ⟨j, a, by omega, c⟩⟩
    | true =>
      simp only [if_true]
      simp only [Bool.and_eq_true, decide_eq_true_eq] at hc
      have h0 : haveP l p k = 0 := by
        rcases Nat.lt_or_ge (haveP l p k) 1 with h | h
        · omega
        · obtain ⟨j, a, b, c⟩ := h2 (by omega)
          exact absurd ⟨by omega, by omega⟩ (ten_meet (l := l) (k := k) (j := j) (by omega) b (ha k (by omega)))
      rw [h0]
      exact ⟨by omega, fun _ => ⟨k, by omega, by omega, hc⟩⟩
/-- one more of another's host -/
theorem why_twice {pre life idle : Int} {l : List Tn} (h : Fine pre life idle l) (h3 : l.length ≤ 3) {i : Nat} (hi : i < l.length) (t : Tn) (ht : t.host = l[i].host) : why pre life idle (l ++ [t]) = ((l.length : Int), 2) := by
  have hl : (l ++ [t]).length = l.length + 1 := by simp
  have hb : badAt (l ++ [t]) l.length = 2 := by
    rw [badAt_some (by omega)]
    have e1 : (l ++ [t])[l.length]'(by omega) = t := by simp
    have e2 : (l ++ [t]).take l.length = l := by simp
    rw [e1, e2]
    have : tenOk l t = false := by
      unfold tenOk hosted
      have : l.any (fun u => u.host == t.host) = true := List.any_eq_true.2 ⟨l[i], List.getElem_mem _, by rw [ht]; simp⟩
      rw [this]; rfl
    unfold bad
    rw [this]; rfl
  unfold why
  rw [h.head, inB_iff.2 ⟨by omega, by omega⟩]
  have := why_at (l := l ++ [t]) (k := l.length) (by omega) (by rw [hb]; decide) (fun j hj => by
    have e := badAt_take (l := l ++ [t]) (m := l.length) (k := j) hj
    rw [show (l ++ [t]).take l.length = l from by simp] at e
    rw [← e]; exact h.all j hj)
  rw [hb] at this
  rw [this]; rfl
/-- other ports for one -/
def ported (t : Tn) (low high : Int) : Tn := { t with low := low, high := high }
def clash (l : List Tn) (k : Nat) (low high : Int) : Bool := (l.take k).any (fun u => decide (low ≤ u.high) && decide (u.low ≤ high))
theorem clash_next {l : List Tn} {k : Nat} {low high : Int} (h : k < l.length) : clash l (k + 1) low high = (clash l k low high || (decide (low ≤ l[k].high) && decide (l[k].low ≤ high))) := by
  unfold clash
  rw [List.take_succ_eq_append_getElem h, List.any_append]
  simp
def rangeN (low high : Int) : Bool := decide (1024 ≤ low) && (decide (low ≤ high) && decide (high ≤ 65535))
theorem hosted_set {l : List Tn} {i k : Nat} {low high : Int} (hi : i < l.length) (s : List UInt8) : hosted ((l.set i (ported l[i] low high)).take k) s = hosted (l.take k) s := by
  have : ∀ m : List Tn, hosted m s = (m.map (fun t => t.host)).any (· == s) := fun m => by unfold hosted; rw [List.any_map]; rfl
  rw [this, this, List.map_take, List.map_take, List.map_set]
  congr 2
  apply List.ext_getElem?
  intro j
  rw [List.getElem?_set]
  split
  · rename_i e
    subst e
    rw [List.length_map, if_pos hi, List.getElem?_map, List.getElem?_eq_getElem hi]
    rfl
  · rfl
theorem why_ports {pre life idle : Int} {l : List Tn} (h : Fine pre life idle l) {i : Nat} (hi : i < l.length) (low high : Int) :
    ((rangeN low high = false ∨ clash l i low high = true) → why pre life idle (l.set i (ported l[i] low high)) = ((i : Int), 3)) ∧
    ((rangeN low high = true ∧ clash l i low high = false) → why pre life idle (l.set i (ported l[i] low high)) = (-1, 0) ∨ ∃ k : Nat, i < k ∧ why pre life idle (l.set i (ported l[i] low high)) = ((k : Int), 3)) := by
  obtain ⟨m, hm⟩ : ∃ m, l.set i (ported l[i] low high) = m := ⟨_, rfl⟩
  have hml : m.length = l.length := by rw [← hm, List.length_set]
  have hgi : ∀ (hx : i < m.length), m[i] = ported l[i] low high := fun hx => by subst hm; simp
  have hgo : ∀ k (hk : k < m.length), k ≠ i → m[k] = l[k]'(by omega) := fun k hk hne => by
    subst hm
    rw [List.getElem_set_ne (fun e => hne e.symm)]
  have hten : ∀ k (hk : k < l.length), tenOk (m.take k) (m[k]'(by omega)) = tenOk (l.take k) l[k] := fun k hk => by
    unfold tenOk
    have e1 : (m[k]'(by omega)).host = l[k].host ∧ oneB (m[k]'(by omega)) = oneB l[k] := by
      by_cases e : k = i
      · subst e; rw [hgi]; exact ⟨rfl, rfl⟩
      · rw [hgo k (by omega) e]; exact ⟨rfl, rfl⟩
    rw [e1.1, e1.2, ← hm, hosted_set hi]
  have htrue : ∀ k (hk : k < l.length), tenOk (l.take k) l[k] = true := fun k hk => by
    have := h.all k hk
    rw [badAt_some hk] at this
    rcases bad_cases (l.take k) l[k] with h1 | h1 | h1
    · rw [h1.2] at this; cases this
    · exact h1.1
    · exact h1.1
  have h23 : ∀ k, k < m.length → badAt m k = 0 ∨ badAt m k = 3 := fun k hk => by
    rw [badAt_some hk]
    rcases bad_cases (m.take k) m[k] with h1 | h1 | h1
    · rw [hten k (by omega), htrue k (by omega)] at h1; exact absurd h1.1 (by decide)
    · exact Or.inr h1.2.2
    · exact Or.inl h1.2.2
  have hlow : ∀ k, k < i → badAt m k = 0 := fun k hk => by
    have e1 : badAt m k = badAt l k := by
      have a := badAt_take (l := m) (m := i) (k := k) hk
      have b := badAt_take (l := l) (m := i) (k := k) hk
      rw [← a, ← b]
      congr 1
      rw [← hm, List.take_set_of_le (Nat.le_refl _)]
    rw [e1]; exact h.all k (by omega)
  have hti : m.take i = l.take i := by rw [← hm, List.take_set_of_le (Nat.le_refl _)]
  have hpi : portsOk (m.take i) (m[i]'(by omega)) = (rangeN low high && !clash l i low high) := by
    rw [hgi, hti]
    rfl
  have hbi : badAt m i = if (rangeN low high && !clash l i low high) then 0 else 3 := by
    rw [badAt_some (by omega)]
    unfold bad
    rw [hten i hi, htrue i hi, hpi]
    rfl
  have hw : why pre life idle m = whyL m := by
    unfold why
    rw [h.head, inB_iff.2 ⟨by have := h.one; omega, by have := h.most; omega⟩]; rfl
  rw [hm, hw]
  constructor
  · intro hb
    have e : (rangeN low high && !clash l i low high) = false := by
      rcases hb with h1 | h1 <;> rw [h1]
      · rfl
      · cases rangeN low high <;> rfl
    rw [e] at hbi
    have := why_at (l := m) (k := i) (by omega) (by rw [hbi]; decide) hlow
    rw [this, hbi]; rfl
  · rintro ⟨h1, h2⟩
    rw [h1, h2] at hbi
    rcases why_cases m with ⟨_, h3⟩ | ⟨k, k1, k2, k3, k4⟩
    · exact Or.inl h3
    · right
      refine ⟨k, ?_, ?_⟩
      · rcases Nat.lt_trichotomy i k with hx | hx | hx
        · exact hx
        · subst hx; rw [hbi] at k2; rcases k2 with k2 | k2 <;> cases k2
        · rw [hlow k hx] at k2; rcases k2 with k2 | k2 <;> cases k2
      · rw [k4]
        rcases h23 k k1 with hx | hx
        · rw [hx] at k2; rcases k2 with k2 | k2 <;> cases k2
        · rw [hx]

#print axioms why_ports
#print axioms have_one
#print axioms why_twice
end Go.Proofs.YtmodmfkcigibpaaDoor.Co

/- Plain facts of layer 14: how many bytes may go on, of two limits. -/
namespace Go.Proofs.YtmodmfkcigibpaaDoor.Qt

/-- a number as it is taken -/
def tk (n : Int) : Int := if n < 0 then 0 else if 1099511627776 < n then 1099511627776 else n
def mayN (n : Int) : Bool := decide (0 ≤ n) && decide (n ≤ 1099511627776)
def add (a b : Int) : Int := tk (tk a + tk b)
def left (a b : Int) : Int := tk (tk a - tk b)
def least (e u q a n : Int) : Int :=
  let m := if left e u < tk n then left e u else tk n
  if left q a < m then left q a else m
structure Tk where
  m : Int
  x : Int
  y : Int
  cut : Bool
deriving DecidableEq
def take (e u q a n : Int) : Tk := ⟨least e u q a n, add u (least e u q a n), add a (least e u q a n), decide (least e u q a n < tk n)⟩

theorem tk_lo (n : Int) : 0 ≤ tk n := by unfold tk; split <;> (try split) <;> omega
theorem tk_hi (n : Int) : tk n ≤ 1099511627776 := by unfold tk; split <;> (try split) <;> omega
theorem tk_in {n : Int} (h0 : 0 ≤ n) (h : n ≤ 1099511627776) : tk n = n := by unfold tk; rw [if_neg (by omega), if_neg (by omega)]
theorem may_iff (n : Int) : mayN n = true ↔ 0 ≤ n ∧ n ≤ 1099511627776 := by unfold mayN; simp
theorem may_yes {n : Int} (h0 : 0 ≤ n) (h : n ≤ 1099511627776) : mayN n = true := (may_iff n).2 ⟨h0, h⟩
theorem may_same (n : Int) : mayN n = (tk n == n) := by
  rw [Bool.eq_iff_iff, may_iff, beq_iff_eq]
  unfold tk
  constructor
  · intro h; rw [if_neg (by omega), if_neg (by omega)]
  · intro h; split at h <;> (try split at h) <;> omega
theorem left_eq (a b : Int) : left a b = if tk b ≤ tk a then tk a - tk b else 0 := by
  have := tk_lo a; have := tk_hi a; have := tk_lo b; have := tk_hi b
  unfold left
  split
  · exact tk_in (by omega) (by omega)
  · show tk _ = 0; unfold tk; rw [if_pos (by unfold tk at *; omega)]
theorem add_eq (a b : Int) : add a b = if tk a + tk b ≤ 1099511627776 then tk a + tk b else 1099511627776 := by
  have := tk_lo a; have := tk_hi a; have := tk_lo b; have := tk_hi b
  unfold add
  split
  · exact tk_in (by omega) (by omega)
  · show tk _ = _; generalize tk a + tk b = s at *; unfold tk; rw [if_neg (by omega), if_pos (by omega)]
theorem add_lo (a b : Int) : 0 ≤ add a b := tk_lo _
theorem add_hi (a b : Int) : add a b ≤ 1099511627776 := tk_hi _
/-- what is told, in numbers from 0 to 2^40 -/
theorem least_eq (e u q a n : Int) : least e u q a n = min (tk n) (min (if tk u ≤ tk e then tk e - tk u else 0) (if tk a ≤ tk q then tk q - tk a else 0)) := by
  unfold least
  rw [left_eq, left_eq]
  simp only [Int.min_def]
  split <;> split <;> split <;> (try split) <;> (try split) <;> (try split) <;> omega
theorem least_lo (e u q a n : Int) : 0 ≤ least e u q a n := by
  have := tk_lo n
  rw [least_eq]
  simp only [Int.min_def]
  split <;> split <;> split <;> (try split) <;> omega
theorem least_hi (e u q a n : Int) : least e u q a n ≤ tk n := by
  rw [least_eq]
  simp only [Int.min_def]
  split <;> split <;> split <;> (try split) <;> omega
theorem least_max (e u q a n : Int) : least e u q a n ≤ 1099511627776 := Int.le_trans (least_hi e u q a n) (tk_hi n)
theorem take_may (e u q a n : Int) : 0 ≤ (take e u q a n).m ∧ mayN (take e u q a n).m = true ∧ mayN (take e u q a n).x = true ∧ mayN (take e u q a n).y = true :=
  ⟨least_lo _ _ _ _ _, may_yes (least_lo _ _ _ _ _) (least_max _ _ _ _ _), may_yes (add_lo _ _) (add_hi _ _), may_yes (add_lo _ _) (add_hi _ _)⟩
/-- where all numbers may be -/
theorem take_in {e u q a n : Int} (e0 : 0 ≤ e) (e1 : e ≤ 1099511627776) (u0 : 0 ≤ u) (u1 : u ≤ 1099511627776) (q0 : 0 ≤ q) (q1 : q ≤ 1099511627776) (a0 : 0 ≤ a) (a1 : a ≤ 1099511627776) (n0 : 0 ≤ n) (n1 : n ≤ 1099511627776) :
    least e u q a n ≤ n ∧ (take e u q a n).cut = decide (least e u q a n < n) ∧ (u ≤ e → (take e u q a n).x = u + least e u q a n ∧ u + least e u q a n ≤ e) ∧ (a ≤ q → (take e u q a n).y = a + least e u q a n ∧ a + least e u q a n ≤ q) ∧ (e < u ∨ q < a → least e u q a n = 0) ∧
      (u ≤ e → a ≤ q → least e u q a n < n → u + least e u q a n = e ∨ a + least e u q a n = q) := by
  have hl := least_eq e u q a n
  have hlo := least_lo e u q a n
  have hhi := least_max e u q a n
  rw [tk_in e0 e1, tk_in u0 u1, tk_in q0 q1, tk_in a0 a1, tk_in n0 n1] at hl
  unfold take
  simp only [add_eq]
  rw [tk_in u0 u1, tk_in a0 a1, tk_in n0 n1, tk_in hlo hhi]
  generalize least e u q a n = m at *
  simp only [Int.min_def] at hl
  refine ⟨?_, rfl, ?_, ?_, ?_, ?_⟩ <;> (split at hl <;> split at hl <;> (try split at hl) <;> (try split at hl) <;> (try intro _) <;> (try intro _) <;> (try intro _) <;> (try rw [if_pos (by omega)]) <;> omega)

theorem left_lo (a b : Int) : 0 ≤ left a b := tk_lo _
theorem left_hi (a b : Int) : left a b ≤ 1099511627776 := tk_hi _
theorem least_left (e u q a n : Int) : least e u q a n = min (tk n) (min (left e u) (left q a)) := by rw [least_eq, left_eq, left_eq]
theorem left_after {e u m : Int} (h0 : 0 ≤ m) (h : m ≤ left e u) : left e (add u m) = left e u - m := by
  have m1 : m ≤ 1099511627776 := Int.le_trans h (left_hi _ _)
  have e0 := tk_lo e; have e1 := tk_hi e; have u0 := tk_lo u; have u1 := tk_hi u
  rw [left_eq] at h
  have hA := add_eq u m
  rw [tk_in h0 m1] at hA
  rw [left_eq, left_eq, tk_in (add_lo _ _) (add_hi _ _)]
  generalize add u m = X at *
  generalize tk e = E at *
  generalize tk u = U at *
  split at h <;> split at hA <;> split <;> (try split) <;> omega
theorem add_after {u m n : Int} (m0 : 0 ≤ m) (n0 : 0 ≤ n) (h : m + n ≤ 1099511627776) : add (add u m) n = add u (m + n) := by
  have u0 := tk_lo u; have u1 := tk_hi u
  have hA := add_eq u m
  have hB := add_eq (add u m) n
  have hC := add_eq u (m + n)
  rw [tk_in (add_lo _ _) (add_hi _ _), tk_in n0 (by omega)] at hB
  rw [tk_in m0 (by omega)] at hA
  rw [tk_in (by omega) h] at hC
  generalize add u m = X at *
  generalize tk u = U at *
  rw [hB, hC]
  split at hA <;> split <;> split <;> omega
/-- in two goes as in one -/
theorem take_twice (e u q al a b : Int) (a0 : 0 ≤ a) (a1 : a ≤ 549755813888) (b0 : 0 ≤ b) (b1 : b ≤ 549755813888) :
    (take e u q al (a + b)).m = (take e u q al a).m + (take e (take e u q al a).x q (take e u q al a).y b).m ∧
    (take e u q al (a + b)).x = (take e (take e u q al a).x q (take e u q al a).y b).x ∧ (take e u q al (a + b)).y = (take e (take e u q al a).x q (take e u q al a).y b).y := by
  unfold take
  simp only
  have h1 := least_left e u q al a
  have h3 := least_left e u q al (a + b)
  rw [tk_in a0 (by omega)] at h1
  rw [tk_in (by omega) (by omega)] at h3
  have m0 := least_lo e u q al a
  have mE : least e u q al a ≤ left e u := by rw [h1]; simp only [Int.min_def]; split <;> (try split) <;> omega
  have mQ : least e u q al a ≤ left q al := by rw [h1]; simp only [Int.min_def]; split <;> (try split) <;> omega
  have h2 := least_left e (add u (least e u q al a)) q (add al (least e u q al a)) b
  rw [tk_in b0 (by omega), left_after m0 mE, left_after m0 mQ] at h2
  have n0 := least_lo e (add u (least e u q al a)) q (add al (least e u q al a)) b
  have l0 := left_lo e u; have l1 := left_hi e u; have k0 := left_lo q al; have k1 := left_hi q al
  generalize hN : least e (add u (least e u q al a)) q (add al (least e u q al a)) b = n at *
  clear hN
  generalize least e u q al a = m at *
  generalize least e u q al (a + b) = p at *
  generalize left e u = L at *
  generalize left q al = K at *
  have hp : p = m + n := by
    simp only [Int.min_def] at h1 h2 h3
    split at h1 <;> (try split at h1) <;> split at h2 <;> (try split at h2) <;> split at h3 <;> (try split at h3) <;> omega
  have hle : m + n ≤ 1099511627776 := by
    rw [← hp, h3]; simp only [Int.min_def]; split <;> (try split) <;> omega
  subst hp
  exact ⟨rfl, (add_after m0 n0 hle).symm, (add_after m0 n0 hle).symm⟩
/-- where one limit is used up -/
theorem take_none {e q al n : Int} (e0 : 0 ≤ e) (e1 : e ≤ 1099511627776) (q0 : 0 ≤ q) (q1 : q ≤ 1099511627776) (a0 : 0 ≤ al) (a1 : al ≤ q) (n0 : 0 ≤ n) (n1 : n ≤ 1099511627776) :
    take e e q al n = ⟨0, e, al, decide (0 < n)⟩ ∧ take q al e e n = ⟨0, al, e, decide (0 < n)⟩ := by
  have h1 : least e e q al n = 0 := by
    have := least_eq e e q al n
    rw [tk_in e0 e1, tk_in q0 q1, tk_in a0 (by omega), tk_in n0 n1, if_pos (Int.le_refl _), if_pos a1] at this
    rw [this]; simp only [Int.min_def]; split <;> split <;> omega
  have h2 : least q al e e n = 0 := by
    have := least_eq q al e e n
    rw [tk_in e0 e1, tk_in q0 q1, tk_in a0 (by omega), tk_in n0 n1, if_pos (Int.le_refl _), if_pos a1] at this
    rw [this]; simp only [Int.min_def]; split <;> split <;> omega
  have k0 : tk 0 = 0 := rfl
  unfold take
  rw [h1, h2, tk_in n0 n1]
  unfold add
  rw [k0, tk_in e0 e1, tk_in a0 (by omega), Int.add_zero, Int.add_zero, tk_in e0 e1, tk_in a0 (by omega)]
  exact ⟨rfl, rfl⟩

#print axioms take_twice
#print axioms take_in
#print axioms take_none
end Go.Proofs.YtmodmfkcigibpaaDoor.Qt
