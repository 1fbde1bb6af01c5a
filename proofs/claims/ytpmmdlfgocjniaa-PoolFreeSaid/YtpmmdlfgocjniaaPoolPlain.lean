/- Plain facts of layer 15: ports that may be, which of them are free, which one is picked. -/
import Derived.Lib.Hide
namespace Go.Proofs.Ytpmmdlfgocjniaa.Po
set_option linter.unusedVariables false

def mayB (low high : Int) : Bool := decide (1024 ≤ low) && (decide (low ≤ high) && decide (high ≤ 65535))
def num (low high : Int) : Int := high - low + 1
def order (low n s : Int) : List Int := (List.range n.toNat).map (fun k : Nat => low + (s + (k : Int)) % n)
def ports (low n : Int) : List Int := (List.range n.toNat).map (fun k : Nat => low + (k : Int))
def idle (busy : List Int) (p : Int) : Bool := !busy.contains p
def pick (low high draw : Int) (busy : List Int) : Int × Bool :=
  if mayB low high then (match (order low (num low high) (draw % num low high)).find? (idle busy) with
    | some p => (p, true)
    | none => (0, false)) else (0, false)
def free (low high : Int) (busy : List Int) : Int := if mayB low high then (((ports low (num low high)).filter (idle busy)).length : Int) else 0

structure Fine (low high : Int) : Prop where
  lo : 1024 ≤ low
  le : low ≤ high
  hi : high ≤ 65535
theorem may_iff (low high : Int) : mayB low high = true ↔ Fine low high := by
  unfold mayB
  simp only [Bool.and_eq_true, decide_eq_true_eq]
  exact ⟨fun h => ⟨h.1, h.2.1, h.2.2⟩, fun h => ⟨h.lo, h.le, h.hi⟩⟩
theorem may_no {low high : Int} (h : ¬ Fine low high) : mayB low high = false := by
  cases hc : mayB low high with
  | false => rfl
  | true => exact absurd ((may_iff _ _).1 hc) h
theorem pick_no {low high : Int} (h : mayB low high = false) (d : Int) (busy : List Int) : pick low high d busy = (0, false) := by unfold pick; rw [h]; rfl
theorem free_no {low high : Int} (h : mayB low high = false) (busy : List Int) : free low high busy = 0 := by unfold free; rw [h]; rfl
theorem idle_iff (busy : List Int) (p : Int) : idle busy p = true ↔ p ∉ busy := by
  unfold idle
  rw [Bool.not_eq_true', ← Bool.not_eq_true, List.contains_iff_mem]

theorem mem_ports {low n p : Int} : p ∈ ports low n ↔ low ≤ p ∧ p < low + n := by
  unfold ports
  simp only [List.mem_map, List.mem_range]
  constructor
  · rintro ⟨k, hk, rfl⟩; omega
  · intro h; exact ⟨(p - low).toNat, by omega, by omega⟩
theorem mem_order {low n s p : Int} (hn : 0 < n) : p ∈ order low n s ↔ low ≤ p ∧ p < low + n := by
  unfold order
  simp only [List.mem_map, List.mem_range]
  constructor
  · rintro ⟨k, hk, rfl⟩
    have h0 := Int.emod_nonneg (s + (k : Int)) (show n ≠ 0 by omega)
    have h1 := Int.emod_lt_of_pos (s + (k : Int)) hn
    omega
  · intro h
    have h0 := Int.emod_nonneg (p - low - s) (show n ≠ 0 by omega)
    have h1 := Int.emod_lt_of_pos (p - low - s) hn
    refine ⟨((p - low - s) % n).toNat, by omega, ?_⟩
    rw [Int.toNat_of_nonneg h0, Int.add_emod_emod, show s + (p - low - s) = p - low from by omega, Int.emod_eq_of_lt (by omega) (by omega)]
    omega
theorem nodup_ports (low n : Int) : (ports low n).Nodup := by
  unfold ports
  rw [List.nodup_iff_pairwise_ne, List.pairwise_map]
  exact (List.nodup_iff_pairwise_ne.1 List.nodup_range).imp fun {a b} h e => h (by omega)

structure Picked (low high : Int) (busy : List Int) (p : Int) : Prop where
  fine : Fine low high
  lo : low ≤ p
  hi : p ≤ high
  out : p ∉ busy
theorem pick_cases (low high draw : Int) (busy : List Int) : (∃ p, pick low high draw busy = (p, true) ∧ Picked low high busy p) ∨
    (pick low high draw busy = (0, false) ∧ (Fine low high → ∀ p, low ≤ p → p ≤ high → p ∈ busy)) := by
  cases hm : mayB low high with
  | false => exact Or.inr ⟨pick_no hm _ _, fun h => by rw [(may_iff _ _).2 h] at hm; cases hm⟩
  | true =>
    have hf := (may_iff _ _).1 hm
    have hle := hf.le
    have hn : 0 < num low high := by unfold num; omega
    unfold pick
    rw [hm, if_pos rfl]
    cases hq : (order low (num low high) (draw % num low high)).find? (idle busy) with
    | some p =>
      left
      have h1 := (mem_order hn).1 (List.mem_of_find?_eq_some hq)
      have h2 := (idle_iff _ _).1 (List.find?_some hq)
      unfold num at h1
      exact ⟨p, rfl, hf, h1.1, by omega, h2⟩
    | none =>
      right
      refine ⟨rfl, fun _ p h1 h2 => ?_⟩
      have h3 := List.find?_eq_none.1 hq p ((mem_order hn).2 ⟨h1, by unfold num; omega⟩)
      rw [idle_iff] at h3
      exact Classical.byContradiction h3
theorem free_none {low high : Int} {busy : List Int} (h : Fine low high → ∀ p, low ≤ p → p ≤ high → p ∈ busy) : free low high busy = 0 := by
  cases hm : mayB low high with
  | false => exact free_no hm _
  | true =>
    have hf := (may_iff _ _).1 hm
    unfold free
    rw [hm, if_pos rfl]
    have : (ports low (num low high)).filter (idle busy) = [] := by
      rw [List.filter_eq_nil_iff]
      intro p hp
      have := mem_ports.1 hp
      unfold num at this
      rw [idle_iff]
      exact fun hn => hn (h hf p this.1 (by omega))
    rw [this]; rfl
/-- one more that is busy: one less that is free -/
theorem free_less {low high : Int} {busy : List Int} {p : Int} (h : Picked low high busy p) : 1 ≤ free low high busy ∧ free low high (busy ++ [p]) = free low high busy - 1 := by
  have hm := (may_iff _ _).2 h.fine
  unfold free
  rw [hm, if_pos rfl, if_pos rfl]
  have hmem : p ∈ (ports low (num low high)).filter (idle busy) := by
    rw [List.mem_filter]
    have := h.lo; have := h.hi
    exact ⟨mem_ports.2 ⟨h.lo, by unfold num; omega⟩, (idle_iff _ _).2 h.out⟩
  have hnd : ((ports low (num low high)).filter (idle busy)).Nodup := (nodup_ports _ _).sublist List.filter_sublist
  have he : (ports low (num low high)).filter (idle (busy ++ [p])) = ((ports low (num low high)).filter (idle busy)).erase p := by
    rw [hnd.erase_eq_filter, List.filter_filter]
    apply List.filter_congr
    intro x _
    unfold idle
    rw [Bool.eq_iff_iff]
    simp
    constructor
    · rintro ⟨a, b⟩; exact ⟨b, a⟩
    · rintro ⟨a, b⟩; exact ⟨b, a⟩
  rw [he, List.length_erase_of_mem hmem]
  have := List.length_pos_of_mem hmem
  omega
/-- draws that differ by a whole number of all -/
theorem pick_turn {low high s times : Int} {busy : List Int} : pick low high (s + times * (high - low + 1)) busy = pick low high s busy := by
  unfold pick
  have : (s + times * (high - low + 1)) % num low high = s % num low high := by unfold num; rw [Int.mul_comm]; exact Int.add_mul_emod_self_left _ _ _
  rw [this]
theorem pick_first {low high s : Int} {busy : List Int} (hf : Fine low high) (h0 : 0 ≤ s) (h1 : s ≤ high - low) (hb : low + s ∉ busy) : pick low high s busy = (low + s, true) := by
  have hm := (may_iff _ _).2 hf
  have hn : 0 < num low high := by have := hf.le; unfold num; omega
  unfold pick
  rw [hm, if_pos rfl]
  have e : s % num low high = s := Int.emod_eq_of_lt h0 (by unfold num; omega)
  have hq : (order low (num low high) s).find? (idle busy) = some (low + s) := by
    unfold order
    obtain ⟨m, hm'⟩ : ∃ m, (num low high).toNat = m + 1 := ⟨(num low high).toNat - 1, by omega⟩
    rw [hm', List.range_succ_eq_map, List.map_cons, List.find?_cons]
    have e0 : low + (s + ((0 : Nat) : Int)) % num low high = low + s := by rw [show s + ((0 : Nat) : Int) = s from by simp, e]
    rw [e0, (idle_iff _ _).2 hb]
  rw [e, hq]
/-- what is not one of them does not matter -/
theorem idle_more {busy : List Int} {p x : Int} (h : x ≠ p) : idle (busy ++ [p]) x = idle busy x := by
  rw [Bool.eq_iff_iff, idle_iff, idle_iff]
  simp [h]
theorem find_congr {l : List Int} {f g : Int → Bool} (h : ∀ x ∈ l, f x = g x) : l.find? f = l.find? g := by
  induction l with
  | nil => rfl
  | cons a l ih => rw [List.find?_cons, List.find?_cons, h a List.mem_cons_self, ih (fun x hx => h x (List.mem_cons_of_mem _ hx))]
theorem pick_more {low high draw p : Int} {busy : List Int} (h : p < low ∨ high < p) : pick low high draw (busy ++ [p]) = pick low high draw busy ∧ free low high (busy ++ [p]) = free low high busy := by
  cases hm : mayB low high with
  | false => rw [pick_no hm, pick_no hm, free_no hm, free_no hm]; exact ⟨rfl, rfl⟩
  | true =>
    have hf := (may_iff _ _).1 hm
    have hle := hf.le
    have hn : 0 < num low high := by unfold num; omega
    constructor
    · unfold pick
      rw [find_congr (fun x hx => idle_more (p := p) (by have := (mem_order hn).1 hx; unfold num at this; omega))]
    · unfold free
      rw [List.filter_congr (fun x hx => idle_more (p := p) (by have := mem_ports.1 hx; unfold num at this; omega))]
/-- where all but one are busy -/
theorem pick_one {low high draw q : Int} {busy : List Int} (hf : Fine low high) (h0 : low ≤ q) (h1 : q ≤ high) (hq : q ∉ busy) (ho : ∀ p, low ≤ p → p ≤ high → p ≠ q → p ∈ busy) : pick low high draw busy = (q, true) ∧ free low high busy = 1 := by
  constructor
  · rcases pick_cases low high draw busy with ⟨p, h, hp⟩ | ⟨_, h⟩
    · by_cases e : p = q
      · rw [h, e]
      · exact absurd (ho p hp.lo hp.hi e) hp.out
    · exact absurd (h hf q h0 h1) hq
  · have hm := (may_iff _ _).2 hf
    unfold free
    rw [hm, if_pos rfl]
    have e : (ports low (num low high)).filter (idle busy) = (ports low (num low high)).filter (· == q) := by
      apply List.filter_congr
      intro x hx
      have hx := mem_ports.1 hx
      unfold num at hx
      rw [Bool.eq_iff_iff, idle_iff, beq_iff_eq]
      constructor
      · intro hn; exact Classical.byContradiction fun e => hn (ho x hx.1 (by omega) e)
      · rintro rfl; exact hq
    rw [e]
    have hc : (ports low (num low high)).count q = 1 := by
      rw [(nodup_ports _ _).count]
      rw [if_pos (mem_ports.2 ⟨h0, by unfold num; omega⟩)]
    rw [List.count_eq_length_filter] at hc
    rw [hc]; rfl
theorem free_all {low high : Int} (hf : Fine low high) : free low high [] = high - low + 1 := by
  have hm := (may_iff _ _).2 hf
  have := hf.le
  unfold free
  rw [hm, if_pos rfl]
  have e : (ports low (num low high)).filter (idle []) = ports low (num low high) := List.filter_eq_self.2 (fun x _ => rfl)
  rw [e]
  unfold ports
  rw [List.length_map, List.length_range]
  unfold num
  omega
/-- the lists of the statement PoolFull -/
def allL (low : Int) (k : Nat) : List Int := (List.range k).map (fun i : Nat => low + (i : Int))
def mostL (low : Int) (s : Int) (k : Nat) : List Int := ((List.range k).filter (fun i : Nat => decide ((i : Int) ≠ s))).map (fun i : Nat => low + (i : Int))
theorem all_next (low : Int) (k : Nat) : allL low (k + 1) = allL low k ++ [low + (k : Int)] := by unfold allL; rw [List.range_succ, List.map_append]; rfl
theorem most_next (low s : Int) (k : Nat) : mostL low s (k + 1) = if (k : Int) = s then mostL low s k else mostL low s k ++ [low + (k : Int)] := by
  unfold mostL
  rw [List.range_succ, List.filter_append, List.map_append]
  by_cases h : (k : Int) = s
  · rw [if_pos h]; simp [h]
  · rw [if_neg h]; simp [h]
theorem mem_all {low : Int} {k : Nat} {p : Int} : p ∈ allL low k ↔ low ≤ p ∧ p < low + (k : Int) := by
  unfold allL
  simp only [List.mem_map, List.mem_range]
  constructor
  · rintro ⟨i, hi, rfl⟩; omega
  · intro h; exact ⟨(p - low).toNat, by omega, by omega⟩
theorem mem_most {low s : Int} {k : Nat} {p : Int} : p ∈ mostL low s k ↔ low ≤ p ∧ p < low + (k : Int) ∧ p ≠ low + s := by
  unfold mostL
  simp only [List.mem_map, List.mem_filter, List.mem_range, decide_eq_true_eq]
  constructor
  · rintro ⟨i, ⟨hi, hs⟩, rfl⟩; omega
  · intro h; exact ⟨(p - low).toNat, ⟨by omega, by omega⟩, by omega⟩
theorem most_len (low s : Int) (k : Nat) : (mostL low s k).length ≤ k := by
  unfold mostL
  rw [List.length_map]
  exact Nat.le_trans (List.length_filter_le _ _) (by simp)
theorem all_len (low : Int) (k : Nat) : (allL low k).length = k := by unfold allL; simp

/-! ### the loops -/
theorem pick_at {low high draw : Int} {busy : List Int} (hf : Fine low high) {k : Nat} (hk : (k : Int) < num low high) (hb : low + (draw % num low high + (k : Int)) % num low high ∉ busy)
    (hn : ∀ j : Nat, j < k → low + (draw % num low high + (j : Int)) % num low high ∈ busy) : pick low high draw busy = (low + (draw % num low high + (k : Int)) % num low high, true) := by
  unfold pick
  rw [(may_iff _ _).2 hf, if_pos rfl]
  have hq : (order low (num low high) (draw % num low high)).find? (idle busy) = some (low + (draw % num low high + (k : Int)) % num low high) := by
    unfold order
    rw [List.find?_eq_some_iff_getElem]
    refine ⟨(idle_iff _ _).2 hb, k, by rw [List.length_map, List.length_range]; omega, by simp, fun j hj => ?_⟩
    have := hn j hj
    simp only [List.getElem_map, List.getElem_range]
    rw [Bool.not_eq_true', ← Bool.not_eq_true, idle_iff]
    exact fun h => h this
  rw [hq]
theorem pick_end {low high draw : Int} {busy : List Int} (hn : ∀ j : Nat, (j : Int) < num low high → low + (draw % num low high + (j : Int)) % num low high ∈ busy) : pick low high draw busy = (0, false) := by
  unfold pick
  split
  · have hq : (order low (num low high) (draw % num low high)).find? (idle busy) = none := by
      unfold order
      rw [List.find?_eq_none]
      intro x hx
      obtain ⟨k, hk, rfl⟩ := List.mem_map.1 hx
      rw [List.mem_range] at hk
      rw [idle_iff]
      exact fun h => h (hn k (by omega))
    rw [hq]
  · rfl
/-- how many of the first k are free -/
def freeTo (low : Int) (busy : List Int) (k : Nat) : Nat := (((List.range k).map (fun i : Nat => low + (i : Int))).filter (idle busy)).length
theorem freeTo_next (low : Int) (busy : List Int) (k : Nat) : freeTo low busy (k + 1) = freeTo low busy k + (if idle busy (low + (k : Int)) then 1 else 0) := by
  unfold freeTo
  rw [List.range_succ, List.map_append, List.filter_append, List.length_append]
  congr 1
  show ((([low + (k : Int)] : List Int).filter (idle busy)).length) = _
  cases h : idle busy (low + (k : Int)) <;> simp [h]
theorem freeTo_le (low : Int) (busy : List Int) (k : Nat) : freeTo low busy k ≤ k := by
  unfold freeTo
  exact Nat.le_trans (List.length_filter_le _ _) (by simp)
theorem free_to {low high : Int} {busy : List Int} (hf : Fine low high) : free low high busy = (freeTo low busy (num low high).toNat : Int) := by
  unfold free
  rw [(may_iff _ _).2 hf, if_pos rfl]
  rfl
/-- Go's remainder, mended -/
theorem rem_mend (d n : Int) (hn : 0 < n) : (if Int.tmod d n < 0 then Int.tmod d n + n else Int.tmod d n) = d % n := by
  have h0 := Int.emod_nonneg d (show n ≠ 0 by omega)
  have h1 := Int.emod_lt_of_pos d hn
  have ht := Int.tmod_eq_emod (a := d) (b := n)
  by_cases hd : 0 ≤ d
  · have : Int.tmod d n = d % n := Int.tmod_eq_emod_of_nonneg hd
    rw [this, if_neg (by omega)]
  · rw [ht]
    by_cases hv : n ∣ d
    · have : d % n = 0 := Int.emod_eq_zero_of_dvd hv
      rw [this]; simp [hd, hv]
    · have hne : d % n ≠ 0 := fun e => hv (Int.dvd_of_emod_eq_zero e)
      have ha : (n.natAbs : Int) = n := by omega
      simp only [hd, hv, false_or, if_false, ha]
      rw [if_pos (by omega)]
      omega

#print axioms free_less
#print axioms pick_one
#print axioms rem_mend
end Go.Proofs.Ytpmmdlfgocjniaa.Po
