/- Plain facts on the verbs (layer 7): the table, names in great letters, who is found. No program in this text. -/
namespace Go.Proofs.Ytkkajbnonfnbjaa.Vb

structure Vb where
  name : List UInt8
  kind : Int
  arg : Int
  path : Bool
deriving DecidableEq
def noVb : Vb := ⟨[], 0, 0, false⟩
def verbs : List Vb := [
  ⟨[65, 66, 79, 82], 9, 0, false⟩,
  ⟨[65, 67, 67, 84], 0, 2, false⟩,
  ⟨[65, 76, 76, 79], 1, 2, false⟩,
  ⟨[65, 80, 80, 69], 3, 2, true⟩,
  ⟨[67, 68, 85, 80], 2, 0, false⟩,
  ⟨[67, 87, 68], 2, 2, true⟩,
  ⟨[68, 69, 76, 69], 1, 2, true⟩,
  ⟨[69, 80, 82, 84], 5, 2, false⟩,
  ⟨[69, 80, 83, 86], 4, 0, false⟩,
  ⟨[70, 69, 65, 84], 1, 0, false⟩,
  ⟨[72, 69, 76, 80], 1, 1, false⟩,
  ⟨[76, 73, 83, 84], 3, 1, true⟩,
  ⟨[77, 68, 84, 77], 1, 2, true⟩,
  ⟨[77, 75, 68], 1, 2, true⟩,
  ⟨[77, 76, 83, 68], 3, 1, true⟩,
  ⟨[77, 76, 83, 84], 1, 1, true⟩,
  ⟨[77, 79, 68, 69], 1, 2, false⟩,
  ⟨[78, 76, 83, 84], 3, 1, true⟩,
  ⟨[78, 79, 79, 80], 1, 0, false⟩,
  ⟨[80, 65, 83, 83], 0, 1, false⟩,
  ⟨[80, 65, 83, 86], 4, 0, false⟩,
  ⟨[80, 79, 82, 84], 5, 2, false⟩,
  ⟨[80, 87, 68], 1, 0, false⟩,
  ⟨[81, 85, 73, 84], 10, 0, false⟩,
  ⟨[82, 69, 83, 84], 8, 2, false⟩,
  ⟨[82, 69, 84, 82], 3, 2, true⟩,
  ⟨[82, 77, 68], 1, 2, true⟩,
  ⟨[82, 78, 70, 82], 6, 2, true⟩,
  ⟨[82, 78, 84, 79], 7, 2, true⟩,
  ⟨[83, 73, 90, 69], 1, 2, true⟩,
  ⟨[83, 84, 65, 84], 1, 1, true⟩,
  ⟨[83, 84, 79, 82], 3, 2, true⟩,
  ⟨[83, 84, 82, 85], 1, 2, false⟩,
  ⟨[83, 89, 83, 84], 1, 0, false⟩,
  ⟨[84, 89, 80, 69], 1, 2, false⟩,
  ⟨[85, 83, 69, 82], 0, 2, false⟩]
def upB (c : UInt8) : UInt8 := if 97 ≤ c.toNat ∧ c.toNat ≤ 122 then UInt8.ofNat (c.toNat - 32) else c
def upper (l : List UInt8) : List UInt8 := l.map upB
def hasIn (vs : List Vb) (n : List UInt8) : Vb × Bool := match vs.find? (fun v => v.name == n) with
  | some v => (v, true)
  | none => (noVb, false)
/-- who has this name -/
def has (n : List UInt8) : Vb × Bool := hasIn verbs n
def found (s : List UInt8) : Vb × Bool := has (upper s)

theorem verbs_len : verbs.length = 36 := rfl
set_option maxRecDepth 100000 in
theorem up_up (c : UInt8) : upB (upB c) = upB c := by
  have h : ∀ n : Fin 256, upB (upB (UInt8.ofNat n.val)) = upB (UInt8.ofNat n.val) := by decide
  have := h ⟨c.toNat, UInt8.toNat_lt c⟩
  simpa using this
theorem upper_upper (l : List UInt8) : upper (upper l) = upper l := by
  unfold upper
  rw [List.map_map]
  exact List.map_congr_left (fun c _ => up_up c)
set_option maxRecDepth 100000 in
theorem up_not (c : UInt8) : ¬ (97 ≤ (upB c).toNat ∧ (upB c).toNat ≤ 122) := by
  have h : ∀ n : Fin 256, ¬ (97 ≤ (upB (UInt8.ofNat n.val)).toNat ∧ (upB (UInt8.ofNat n.val)).toNat ≤ 122) := by decide
  have := h ⟨c.toNat, UInt8.toNat_lt c⟩
  simpa using this
theorem upper_length (l : List UInt8) : (upper l).length = l.length := by simp [upper]
theorem upper_take (l : List UInt8) (n : Nat) : upper (l.take n) = (upper l).take n := by unfold upper; rw [List.map_take]
theorem found_upper (s : List UInt8) : found (upper s) = found s := by unfold found; rw [upper_upper]
/-- who is found has the name -/
theorem has_name {n : List UInt8} (h : (has n).2 = true) : (has n).1.name = n := by
  unfold has hasIn at h ⊢
  split
  · rename_i v hv
    have := List.find?_some hv
    simpa using this
  · rename_i hv; rw [hv] at h; cases h
/-- who is found by a name in great letters has it -/
theorem found_name {n : List UInt8} (hu : upper n = n) (h : (found n).2 = true) : (found n).1.name = n := by
  have := has_name (n := upper n) h
  rw [hu] at this
  unfold found
  rw [hu]; exact this
/-- each of them is found by its name -/
theorem has_each : ∀ v ∈ verbs, has v.name = (v, true) := by decide
theorem up_each : ∀ v ∈ verbs, upper v.name = v.name := by decide
set_option maxRecDepth 100000 in
theorem path_each : ∀ v ∈ verbs, (v.path = true → v.arg ≠ 0) ∧ 0 ≤ v.arg ∧ v.arg ≤ 2 ∧ 0 ≤ v.kind ∧ v.kind < 11 := by decide
theorem len_each : ∀ v ∈ verbs, v.name.length = 3 ∨ v.name.length = 4 := by decide
set_option maxRecDepth 100000 in
theorem kind_each : ∀ v ∈ verbs, (v.kind = 3 → v.path = true ∧ 0 < v.arg) ∧ (v.kind = 4 ∨ v.kind = 9 ∨ v.kind = 10 → v.arg = 0 ∧ v.path = false) ∧ (v.kind = 5 ∨ v.kind = 8 → v.arg = 2 ∧ v.path = false) ∧ (v.kind = 6 ∨ v.kind = 7 → v.arg = 2 ∧ v.path = true) ∧ (v.kind = 0 → v.path = false ∧ 0 < v.arg) := by decide

set_option maxRecDepth 100000 in
theorem kinds_cases : ∀ v ∈ verbs, (v.kind = 0 ∧ v.path = false ∧ 0 < v.arg) ∨ v.kind = 1 ∨ v.kind = 2 ∨ (v.kind = 3 ∧ v.path = true ∧ 0 < v.arg) ∨ (v.kind = 4 ∧ v.path = false ∧ v.arg = 0) ∨ (v.kind = 5 ∧ v.path = false ∧ v.arg = 2) ∨ (v.kind = 6 ∧ v.path = true ∧ v.arg = 2) ∨ (v.kind = 7 ∧ v.path = true ∧ v.arg = 2) ∨ (v.kind = 8 ∧ v.path = false ∧ v.arg = 2) ∨ (v.kind = 9 ∧ v.path = false ∧ v.arg = 0) ∨ (v.kind = 10 ∧ v.path = false ∧ v.arg = 0) := by decide

theorem letters_each : ∀ v ∈ verbs, ∀ c ∈ v.name, 65 ≤ c.toNat ∧ c.toNat ≤ 90 := by decide
set_option maxRecDepth 100000 in
theorem names_apart : ∀ i : Fin 36, ∀ j : Fin 36, i ≠ j → (verbs[i.val]'i.isLt).name ≠ (verbs[j.val]'j.isLt).name := by decide
theorem names_ne {i j : Nat} (hi : i < verbs.length) (hj : j < verbs.length) (h : i ≠ j) : verbs[i].name ≠ verbs[j].name :=
  names_apart ⟨i, hi⟩ ⟨j, hj⟩ (fun e => h (Fin.mk.inj e))
theorem up_big {c : UInt8} (h1 : 65 ≤ c.toNat) (h2 : c.toNat ≤ 90) : (c + 32).toNat = c.toNat + 32 ∧ upB (c + 32) = c := by
  have h : (c + 32).toNat = c.toNat + 32 := by
    rw [UInt8.toNat_add]
    show (c.toNat + 32) % 256 = _
    omega
  refine ⟨h, ?_⟩
  unfold upB
  rw [if_pos (by omega), h]
  apply UInt8.toNat.inj
  rw [UInt8.toNat_ofNat_of_lt' (by show c.toNat + 32 - 32 < 256; omega)]
  omega
theorem up_letter {c : UInt8} (h1 : 65 ≤ c.toNat) (h2 : c.toNat ≤ 90) : upB c = c := by
  unfold upB
  rw [if_neg (by omega)]

/-- the rest of a search: none of the first k has the name -/
theorem has_step {vs : List Vb} {n : List UInt8} {k : Nat} (hk : k < vs.length) (h : vs[k].name ≠ n) : hasIn (vs.drop k) n = hasIn (vs.drop (k + 1)) n := by
  unfold hasIn
  rw [List.drop_eq_getElem_cons hk, List.find?_cons_of_neg (by simpa using h)]
theorem has_hit {vs : List Vb} {n : List UInt8} {k : Nat} (hk : k < vs.length) (h : vs[k].name = n) : hasIn (vs.drop k) n = (vs[k], true) := by
  unfold hasIn
  rw [List.drop_eq_getElem_cons hk, List.find?_cons_of_pos (by simpa using h)]
theorem has_end (vs : List Vb) (n : List UInt8) : hasIn (vs.drop vs.length) n = (noVb, false) := by
  unfold hasIn
  rw [List.drop_length]; rfl

#print axioms has_each
end Go.Proofs.Ytkkajbnonfnbjaa.Vb
