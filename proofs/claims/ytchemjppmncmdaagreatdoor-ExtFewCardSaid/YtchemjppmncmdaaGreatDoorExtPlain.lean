/- Plain facts on ends and ports as EPRT and EPSV tell them: written, read, found. No program in this text. -/
import Derived.Test.YtchemjppmncmdaaGreatDoorSixPlain
namespace Go.Proofs.YtchemjppmncmdaaGreatDoor.Ext
open Go Go.Proofs.YtchemjppmncmdaaGreatDoor.Quad Go.Proofs.YtchemjppmncmdaaGreatDoor.Six

/-! what is written -/
def extL (a b c d p : Int) : List UInt8 := [124, 49, 124] ++ textL a b c d ++ [124] ++ Lib.itoa p ++ [124]
def portL (n : Int) : List UInt8 := [40, 124, 124, 124] ++ Lib.itoa n ++ [124, 41]
/-- a mark -/
def markB (c : UInt8) : Bool := decide (33 ≤ c.toNat) && decide (c.toNat ≤ 126) && !(decide (48 ≤ c.toNat) && decide (c.toNat ≤ 57))

/-! what is read: the error's number, and the end -/
def five (c : UInt8) (l : List UInt8) : Bool := markB c && ((cutL c l).length == 5 && (cutL c l).getD 4 [] == [])
def kindB (p : List UInt8) : Bool := getB p 9 && decide (1 ≤ getV p 9)
def portB (p : List UInt8) : Bool := getB p 65535 && decide (1 ≤ getV p 65535)
def extC : List UInt8 → Int
  | [] => 2
  | c :: r =>
    if five c (c :: r) then
      if kindB ((cutL c (c :: r)).getD 1 []) then
        if getV ((cutL c (c :: r)).getD 1 []) 9 = 1 then
          if readB ((cutL c (c :: r)).getD 2 []) && portB ((cutL c (c :: r)).getD 3 []) then 0 else 2
        else 8
      else 2
    else 2
theorem extC_cons (c : UInt8) (r : List UInt8) : extC (c :: r) = (if five c (c :: r) then (if kindB ((cutL c (c :: r)).getD 1 []) then (if getV ((cutL c (c :: r)).getD 1 []) 9 = 1 then (if readB ((cutL c (c :: r)).getD 2 []) && portB ((cutL c (c :: r)).getD 3 []) then 0 else 2) else 8) else 2) else 2) := rfl
def partOf (l : List UInt8) (i : Nat) : List UInt8 := match l with
  | [] => []
  | c :: r => (cutL c (c :: r)).getD i []
def extH (l : List UInt8) (i : Nat) : Int := if extC l = 0 then readH (partOf l 2) i else 0
def extP (l : List UInt8) : Int := if extC l = 0 then getV (partOf l 3) 65535 else 0
theorem extH_no {l : List UInt8} (h : extC l ≠ 0) (i : Nat) : extH l i = 0 := by unfold extH; rw [if_neg h]
theorem extP_no {l : List UInt8} (h : extC l ≠ 0) : extP l = 0 := by unfold extP; rw [if_neg h]
theorem extC_mem (l : List UInt8) : extC l = 0 ∨ extC l = 2 ∨ extC l = 8 := by
  cases l with
  | nil => exact Or.inr (Or.inl rfl)
  | cons c r =>
    rw [extC_cons]
    split
    · split
      · split
        · split
          · exact Or.inl rfl
          · exact Or.inr (Or.inl rfl)
        · exact Or.inr (Or.inr rfl)
      · exact Or.inr (Or.inl rfl)
    · exact Or.inr (Or.inl rfl)
theorem extP_some {l : List UInt8} (h : extC l = 0) : 1 ≤ extP l ∧ extP l ≤ 65535 := by
  unfold extP; rw [if_pos h]
  cases l with
  | nil => cases h
  | cons c r =>
    rw [extC_cons] at h
    split at h
    · split at h
      · split at h
        · split at h
          · rename_i h4
            rw [Bool.and_eq_true] at h4
            have h5 := h4.2
            unfold portB at h5
            rw [Bool.and_eq_true, decide_eq_true_eq] at h5
            exact ⟨h5.2, getV_hi (by omega)⟩
          · cases h
        · cases h
      · cases h
    · cases h
theorem extH_lo (l : List UInt8) (i : Nat) : 0 ≤ extH l i := by unfold extH; split; exact readH_lo _ _; omega
theorem extH_hi (l : List UInt8) (i : Nat) : extH l i ≤ 255 := by unfold extH; split; exact readH_hi _ _; omega
theorem extP_lo (l : List UInt8) : 0 ≤ extP l := by
  by_cases h : extC l = 0
  · have := (extP_some h).1; omega
  · rw [extP_no h]; omega
theorem extP_hi (l : List UInt8) : extP l ≤ 65535 := by
  by_cases h : extC l = 0
  · exact (extP_some h).2
  · rw [extP_no h]; omega

/-- a text of five parts, way by way -/
theorem cut_five {c : UInt8} {k h p : List UInt8} (hk : c ∉ k) (hh : c ∉ h) (hp : c ∉ p) : cutL c (c :: (k ++ c :: (h ++ c :: (p ++ [c])))) = [[], k, h, p, []] := by
  have e1 := cutL_at (c := c) (p := []) (k ++ c :: (h ++ c :: (p ++ [c]))) (by simp)
  rw [List.nil_append] at e1
  rw [e1, cutL_at _ hk, cutL_at _ hh, cutL_at _ hp]; rfl
theorem read_parts {c : UInt8} {k h p : List UInt8} (hm : markB c = true) (hk : c ∉ k) (hh : c ∉ h) (hp : c ∉ p) :
    extC (c :: (k ++ c :: (h ++ c :: (p ++ [c])))) = (if kindB k then if getV k 9 = 1 then if readB h && portB p then 0 else 2 else 8 else 2) ∧
    partOf (c :: (k ++ c :: (h ++ c :: (p ++ [c])))) 2 = h ∧ partOf (c :: (k ++ c :: (h ++ c :: (p ++ [c])))) 3 = p := by
  have e := cut_five (c := c) hk hh hp
  refine ⟨?_, by unfold partOf; simp only [e]; rfl, by unfold partOf; simp only [e]; rfl⟩
  rw [extC_cons]
  unfold five
  simp only [e, hm]
  simp

theorem markless_text {a b c d : Int} (ha : 0 ≤ a) (hb : 0 ≤ b) (hc : 0 ≤ c) (hd : 0 ≤ d) : (124 : UInt8) ∉ textL a b c d := fun h => by
  have := text_bytes ha hb hc hd h
  revert this; decide
theorem digitless {n : Int} (h : 0 ≤ n) {c : UInt8} (hc : c.toNat < 48 ∨ 57 < c.toNat) : c ∉ Lib.itoa n := by rw [itoa_pos h]; exact digit_out hc
theorem extL_shape (a b c d p : Int) : extL a b c d p = 124 :: ([49] ++ 124 :: (textL a b c d ++ 124 :: (Lib.itoa p ++ [124]))) := by unfold extL; simp
theorem get_itoa {n most : Int} (h0 : 0 ≤ n) (h1 : n ≤ 65535) (hm : n ≤ most) : getB (Lib.itoa n) most = true ∧ getV (Lib.itoa n) most = n := by
  have g : getO (Lib.itoa n) = some n.toNat := by
    refine (getO_iff _ _).2 ⟨(itoa_pos h0).symm, ?_⟩
    rw [itoa_pos h0, Lib.decDigits_length]
    have := nDigits_le 4 n.toNat (by omega)
    omega
  exact ⟨by rw [getB_some g]; simp; omega, by rw [getV_yes g (by omega)]; omega⟩
theorem itoa1' : Lib.itoa 1 = [49] := by rw [itoa_pos (by omega)]; exact Lib.decDigits_one (i := 1) (by omega)
theorem kind_one : kindB [49] = true ∧ getV [49] 9 = 1 := by
  have h := get_itoa (n := 1) (most := 9) (by omega) (by omega) (by omega)
  rw [itoa1'] at h
  exact ⟨by unfold kindB; rw [h.1, h.2]; rfl, h.2⟩
theorem ext_text {a b c d p : Int} (ha : 0 ≤ a ∧ a ≤ 255) (hb : 0 ≤ b ∧ b ≤ 255) (hc : 0 ≤ c ∧ c ≤ 255) (hd : 0 ≤ d ∧ d ≤ 255) (hp : 1 ≤ p ∧ p ≤ 65535) :
    extC (extL a b c d p) = 0 ∧ extH (extL a b c d p) 0 = a ∧ extH (extL a b c d p) 1 = b ∧ extH (extL a b c d p) 2 = c ∧ extH (extL a b c d p) 3 = d ∧ extP (extL a b c d p) = p := by
  obtain ⟨e0, e2, e3⟩ := read_parts (c := 124) (k := [49]) (h := textL a b c d) (p := Lib.itoa p) (by decide) (by decide) (markless_text ha.1 hb.1 hc.1 hd.1) (digitless (by omega) (by decide))
  rw [← extL_shape] at e0 e2 e3
  obtain ⟨r, r0, r1, r2, r3⟩ := read_text ha hb hc hd
  have g := get_itoa (n := p) (most := 65535) (by omega) hp.2 hp.2
  have hpB : portB (Lib.itoa p) = true := by unfold portB; rw [g.1, g.2]; simp; omega
  rw [kind_one.1, kind_one.2, r, hpB] at e0
  simp at e0
  refine ⟨e0, ?_, ?_, ?_, ?_, ?_⟩
  · unfold extH; rw [if_pos e0, e2]; exact r0
  · unfold extH; rw [if_pos e0, e2]; exact r1
  · unfold extH; rw [if_pos e0, e2]; exact r2
  · unfold extH; rw [if_pos e0, e2]; exact r3
  · unfold extP; rw [if_pos e0, e3]; exact g.2

/-! a beginning is none -/
theorem cutL_count (c : UInt8) : ∀ (l : List UInt8), (cutL c l).length = l.count c + 1
  | [] => rfl
  | b :: r => by
    have ih := cutL_count c r
    simp only [cutL]
    by_cases h : b = c
    · subst h; simp [ih]
    · rw [if_neg h, List.count_cons_of_ne h]
      cases e : cutL c r with
      | nil => exact absurd e (cutL_ne c r)
      | cons x t => rw [e] at ih; simpa using ih
theorem extL_count {a b c d p : Int} (ha : 0 ≤ a) (hb : 0 ≤ b) (hc : 0 ≤ c) (hd : 0 ≤ d) (hp : 0 ≤ p) : (extL a b c d p).count 124 = 4 := by
  have h1 : (textL a b c d).count 124 = 0 := List.count_eq_zero.2 (markless_text ha hb hc hd)
  have h2 : (Lib.itoa p).count 124 = 0 := List.count_eq_zero.2 (digitless hp (by decide))
  unfold extL
  simp [List.count_append, h1, h2]
theorem ext_cut {a b c d p : Int} (ha : 0 ≤ a) (hb : 0 ≤ b) (hc : 0 ≤ c) (hd : 0 ≤ d) (hp : 0 ≤ p) {k : Nat} (hk : k < (extL a b c d p).length) : extC ((extL a b c d p).take k) = 2 := by
  have hcnt := extL_count ha hb hc hd hp
  have hs : extL a b c d p = (extL a b c d p).take k ++ (extL a b c d p).drop k := (List.take_append_drop k _).symm
  have hlast : (124 : UInt8) ∈ (extL a b c d p).drop k := by
    have e : extL a b c d p = ([124, 49, 124] ++ textL a b c d ++ [124] ++ Lib.itoa p) ++ [124] := rfl
    have hl : k ≤ ([124, 49, 124] ++ textL a b c d ++ [124] ++ Lib.itoa p).length := by
      rw [e, List.length_append] at hk; simp only [List.length_singleton] at hk; omega
    rw [e, List.drop_append_of_le_length hl]; simp
  have h3 : ((extL a b c d p).take k).count 124 ≤ 3 := by
    have h1 := List.count_pos_iff.2 hlast
    have h2 := hcnt
    rw [hs, List.count_append] at h2
    omega
  cases k with
  | zero => rfl
  | succ k =>
    have e : (extL a b c d p).take (k + 1) = 124 :: ([49, 124] ++ textL a b c d ++ [124] ++ Lib.itoa p ++ [124]).take k := by unfold extL; simp
    rw [e] at h3 ⊢
    have hn := cutL_count 124 (124 :: ([49, 124] ++ textL a b c d ++ [124] ++ Lib.itoa p ++ [124]).take k)
    generalize ([49, 124] ++ textL a b c d ++ [124] ++ Lib.itoa p ++ [124]).take k = r at h3 hn ⊢
    have hf : five 124 (124 :: r) = false := by
      unfold five
      have : ((cutL 124 (124 :: r)).length == 5) = false := by rw [beq_eq_false_iff_ne]; omega
      rw [this]; simp
    rw [extC_cons, hf]; rfl

/-! kinds -/
theorem kind_byte (k : UInt8) : (kindB [k] = true ↔ 49 ≤ k.toNat ∧ k.toNat ≤ 57) ∧ (kindB [k] = true → getV [k] 9 = (k.toNat : Int) - 48) := by
  by_cases h : 48 ≤ k.toNat ∧ k.toNat ≤ 57
  · have g : getO [k] = some (k.toNat - 48) := by
      refine (getO_iff _ _).2 ⟨?_, by simp⟩
      rw [Lib.decDigits_one (by omega)]
      congr 1
      apply UInt8.toNat.inj
      rw [UInt8.toNat_ofNat']
      omega
    have hv : getV [k] 9 = ((k.toNat - 48 : Nat) : Int) := getV_yes g (by omega)
    have hB : getB [k] 9 = true := by rw [getB_some g]; simp; omega
    unfold kindB
    rw [hB, hv]
    refine ⟨?_, fun _ => by omega⟩
    simp; omega
  · have hB : getB [k] 9 = false := ref_odd (k := 0) (c := k) rfl (by omega) 9
    unfold kindB
    rw [hB]
    refine ⟨?_, fun h' => by cases h'⟩
    simp; omega
theorem ext_kind {k : UInt8} {h : List UInt8} (hk : k ≠ 124) (hh : (124 : UInt8) ∉ h) :
    (50 ≤ k.toNat ∧ k.toNat ≤ 57 → extC (124 :: ([k] ++ 124 :: (h ++ 124 :: ([56, 48] ++ [124])))) = 8) ∧ (k.toNat < 49 ∨ 57 < k.toNat → extC (124 :: ([k] ++ 124 :: (h ++ 124 :: ([56, 48] ++ [124])))) = 2) := by
  obtain ⟨e0, _, _⟩ := read_parts (c := 124) (k := [k]) (h := h) (p := [56, 48]) (by decide) (by simpa using fun e => hk e.symm) hh (by decide)
  obtain ⟨b1, b2⟩ := kind_byte k
  rw [e0]
  constructor
  · rintro ⟨h1, h2⟩
    have hb := b1.2 ⟨by omega, h2⟩
    rw [if_pos hb, if_neg (by rw [b2 hb]; omega)]
  · intro h1
    rw [if_neg (fun hb => by have := b1.1 hb; omega)]

/-! what is found -/
def mid (t : List UInt8) : List UInt8 := (t.drop 3).take (t.length - 1 - 3)
def holdB (t : List UInt8) : Bool := decide (5 ≤ t.length) && (markB (t.getD 0 0) && (t.getD 1 0 == t.getD 0 0 && (t.getD 2 0 == t.getD 0 0 && (t.getD (t.length - 1) 0 == t.getD 0 0 && portB (mid t)))))
def holdN (t : List UInt8) : Int := if holdB t then getV (mid t) 65535 else 0
theorem holdN_no {t : List UInt8} (h : holdB t = false) : holdN t = 0 := by unfold holdN; rw [h]; rfl
theorem hold_short {t : List UInt8} (h : t.length < 5) : holdB t = false := by
  unfold holdB; rw [decide_eq_false (by omega)]; rfl
theorem hold_port {n : Int} (h0 : 1 ≤ n) (h1 : n ≤ 65535) : holdB ([124, 124, 124] ++ Lib.itoa n ++ [124]) = true ∧ holdN ([124, 124, 124] ++ Lib.itoa n ++ [124]) = n := by
  have g := get_itoa (n := n) (most := 65535) (by omega) h1 h1
  have hl := itoa_long n
  have hm : mid ([124, 124, 124] ++ Lib.itoa n ++ [124]) = Lib.itoa n := by unfold mid; simp
  have hB : holdB ([124, 124, 124] ++ Lib.itoa n ++ [124]) = true := by
    unfold holdB portB
    rw [hm, g.1, g.2]
    simp [markB]
    omega
  exact ⟨hB, by unfold holdN; rw [hB, hm]; exact g.2⟩
theorem find_port {ahead : List UInt8} {n : Int} (h : (40 : UInt8) ∉ ahead) (h0 : 0 ≤ n) : insL (ahead ++ portL n ++ [46]) = [124, 124, 124] ++ Lib.itoa n ++ [124] := by
  have e : ahead ++ portL n ++ [46] = ahead ++ [40] ++ ([124, 124, 124] ++ Lib.itoa n ++ [124]) ++ [41] ++ [46] := by unfold portL; simp
  rw [e]
  refine find_written h ?_
  simp only [List.mem_append, not_or]
  exact ⟨⟨by decide, digitless h0 (by decide)⟩, by decide⟩

#print axioms ext_text
#print axioms ext_cut
#print axioms ext_kind
#print axioms hold_port
end Go.Proofs.YtchemjppmncmdaaGreatDoor.Ext
