/- Plain facts on what is escaped: where the next 255 stands, how long it is. No program in this text. -/
import Derived.Test.YtkbekabpbgdhfaaDoorTelPlain
import Derived.Lib.IndexLaws
namespace Go.Proofs.YtkbekabpbgdhfaaDoor.Tel
open Go
set_option linter.unusedSimpArgs false

theorem esc_none : ∀ {l : List UInt8}, (255 : UInt8) ∉ l → esc l = l
  | [], _ => rfl
  | c :: r, h => by
    simp only [List.mem_cons, not_or] at h
    have hc : c ≠ 255 := fun e => h.1 e.symm
    simp [esc, hc, esc_none h.2]
theorem esc_count : ∀ (l : List UInt8), (esc l).length = l.length + l.count 255
  | [] => rfl
  | c :: r => by
    have h := esc_count r
    by_cases hc : c = 255
    · subst hc; simp [esc, h]; omega
    · simp [esc, h, hc]; omega
/-- where the next one stands -/
theorem next_some {l : List UInt8} {st : Nat} (h : 0 < (l.drop st).count 255) :
    ∃ i : Nat, Lib.indexByte (l.drop st) 255 = (i : Int) ∧ st + i < l.length ∧
      esc (l.take (st + i + 1)) = esc (l.take st) ++ (l.drop st).take i ++ [255, 255] ∧ (l.drop (st + i + 1)).count 255 + 1 = (l.drop st).count 255 := by
  have hge := Lib.indexByte_ge (l.drop st) 255
  have hne : Lib.indexByte (l.drop st) 255 ≠ -1 := by
    intro e
    have hn := Lib.indexByte_none e
    have hm : (255 : UInt8) ∈ l.drop st := List.count_pos_iff.1 h
    obtain ⟨k, hk, hk2⟩ := List.getElem_of_mem hm
    exact hn k (by rw [List.getElem?_eq_getElem hk, hk2])
  obtain ⟨i, hi⟩ : ∃ i : Nat, Lib.indexByte (l.drop st) 255 = (i : Int) := ⟨(Lib.indexByte (l.drop st) 255).toNat, by omega⟩
  obtain ⟨h1, h2⟩ := Lib.indexByte_some hi
  obtain ⟨hil, hi255⟩ := List.getElem?_eq_some_iff.1 h1
  rw [List.length_drop] at hil
  have hpre : (255 : UInt8) ∉ (l.drop st).take i := by
    intro hm
    obtain ⟨k, hk, hk2⟩ := List.getElem_of_mem hm
    have hk' : k < i := by simp at hk; omega
    refine h2 k hk' ?_
    rw [List.getElem_take] at hk2
    rw [List.getElem?_eq_getElem (by simp at hk; simp; omega), hk2]
  have hsplit : l.drop st = (l.drop st).take i ++ 255 :: l.drop (st + i + 1) := by
    have e : (l.drop st).drop i = 255 :: l.drop (st + i + 1) := by
      rw [List.drop_eq_getElem_cons (by rw [List.length_drop]; omega), hi255, List.drop_drop]
      rfl
    rw [← e, List.take_append_drop]
  refine ⟨i, hi, by omega, ?_, ?_⟩
  · have e : l.take (st + i + 1) = l.take st ++ ((l.drop st).take i ++ [255]) := by
      rw [show st + i + 1 = st + (i + 1) from by omega, List.take_add, List.take_succ_eq_append_getElem (by rw [List.length_drop]; omega), hi255]
    rw [e, esc_append, esc_append, esc_none hpre]
    have : esc [255] = [255, 255] := by decide
    rw [this, List.append_assoc]
  · conv => rhs; rw [hsplit]
    rw [List.count_append, List.count_eq_zero.2 hpre]
    simp
/-- none is left -/
theorem next_none {l : List UInt8} {st : Nat} (h : (l.drop st).count 255 = 0) : esc (l.take st) ++ l.drop st = esc l := by
  have e := esc_append (l.take st) (l.drop st)
  rw [List.take_append_drop, esc_none (List.count_eq_zero.1 h)] at e
  exact e.symm

#print axioms next_some
end Go.Proofs.YtkbekabpbgdhfaaDoor.Tel
