/- More plain facts of layer 21: what a link carries, told by its parts. -/
import Derived.Test.YtfeiafjeidnmkaaDataPlain
namespace Go.Proofs.Ytfeiafjeidnmkaa.Da
set_option linter.unusedVariables false

theorem carry_nil {x : PL} {c : Int} (hm : mayL x = true) (hh : hasL x c = true) : carryL x c [] = (x, [], true) := by
  unfold carryL
  rw [if_neg (by rintro (h | h); rw [hm] at h; cases h; rw [hh] at h; cases h), if_pos (show ([] : List UInt8).length = 0 from rfl)]
theorem carry_send {x : PL} {c : Int} {d : List UInt8} (hm : mayL x = true) (hh : hasL x c = true) (hd : d.length ≠ 0) (ho : -1 < otherL x.a x.b c) : carryL x c d = (x, [sendO (otherL x.a x.b c) d], true) := by
  unfold carryL
  rw [if_neg (by rintro (h | h); rw [hm] at h; cases h; rw [hh] at h; cases h), if_neg hd, if_pos ho]
theorem carry_full {x : PL} {c : Int} {d : List UInt8} (hm : mayL x = true) (hh : hasL x c = true) (hd : d.length ≠ 0) (ho : ¬ -1 < otherL x.a x.b c) (hl : x.ws.length = 4) : carryL x c d = (x, [], false) := by
  unfold carryL
  rw [if_neg (by rintro (h | h); rw [hm] at h; cases h; rw [hh] at h; cases h), if_neg hd, if_neg ho, if_pos hl]
theorem carry_wait {x : PL} {c : Int} {d : List UInt8} (hm : mayL x = true) (hh : hasL x c = true) (hd : d.length ≠ 0) (ho : ¬ -1 < otherL x.a x.b c) (hl : x.ws.length ≠ 4) : carryL x c d = (⟨x.sess, x.a, x.b, x.ws ++ [d]⟩, [], true) := by
  unfold carryL
  rw [if_neg (by rintro (h | h); rw [hm] at h; cases h; rw [hh] at h; cases h), if_neg hd, if_neg ho, if_neg hl]
/-- one that is asked for -/
theorem asked_may {W : List (List UInt8)} (hl : W.length ≤ 4) (hf : fullB W = true) : mayL ⟨0, 5, -1, W⟩ = true :=
  mayL_of (by show (0 : Int) ≤ 0; decide) (by show (0 : Int) ≤ 5; decide) (by show (-1 : Int) ≤ -1; decide) (by show (-1 : Int) ≠ 5; decide) (by
    show waitB (-1) W = true
    unfold waitB
    rw [if_neg (by decide), decide_eq_true hl, hf]; rfl)
theorem asked_parts {W : List (List UInt8)} (h : mayL ⟨0, 5, -1, W⟩ = true) : W.length ≤ 4 ∧ fullB W = true := by
  obtain ⟨-, -, -, -, h4⟩ := mayL_parts h
  have h4 : waitB (-1) W = true := h4
  unfold waitB at h4
  rw [if_neg (by decide)] at h4
  simpa using h4
theorem there_may : mayL ⟨0, 5, 6, []⟩ = true := rfl
theorem asked_has (W : List (List UInt8)) : hasL ⟨0, 5, -1, W⟩ 5 = true := rfl
theorem there_has : hasL ⟨0, 5, 6, []⟩ 5 = true := rfl
theorem asked_carry {W : List (List UInt8)} {d : List UInt8} (hm : mayL ⟨0, 5, -1, W⟩ = true) (hd : d.length ≠ 0) (hl : W.length ≠ 4) : carryL ⟨0, 5, -1, W⟩ 5 d = (⟨0, 5, -1, W ++ [d]⟩, [], true) := carry_wait hm (asked_has W) hd (by show ¬ (-1 : Int) < -1; decide) hl
theorem asked_full {W : List (List UInt8)} {d : List UInt8} (hm : mayL ⟨0, 5, -1, W⟩ = true) (hd : d.length ≠ 0) (hl : W.length = 4) : carryL ⟨0, 5, -1, W⟩ 5 d = (⟨0, 5, -1, W⟩, [], false) := carry_full hm (asked_has W) hd (by show ¬ (-1 : Int) < -1; decide) hl
theorem asked_nil {W : List (List UInt8)} (hm : mayL ⟨0, 5, -1, W⟩ = true) : carryL ⟨0, 5, -1, W⟩ 5 [] = (⟨0, 5, -1, W⟩, [], true) := carry_nil hm (asked_has W)
theorem there_carry {d : List UInt8} (hd : d.length ≠ 0) : carryL ⟨0, 5, 6, []⟩ 5 d = (⟨0, 5, 6, []⟩, [sendO 6 d], true) := carry_send there_may there_has hd (by show (-1 : Int) < 6; decide)
theorem there_nil : carryL ⟨0, 5, 6, []⟩ 5 [] = (⟨0, 5, 6, []⟩, [], true) := carry_nil there_may there_has
theorem asked_join {W : List (List UInt8)} (hm : mayL ⟨0, 5, -1, W⟩ = true) : joinL ⟨0, 5, -1, W⟩ 6 = (⟨0, 5, 6, []⟩, W.map (sendO 6), true) := by
  unfold joinL
  rw [if_neg (by
    rintro (h | h | h | h)
    · rw [hm] at h; cases h
    · exact absurd (show (-1 : Int) < -1 from h) (by decide)
    · exact absurd h (by decide)
    · exact absurd (show (6 : Int) = 5 from h) (by decide))]
theorem full_of (s : List UInt8) (hs : s.length ≠ 0) (i : Nat) : fullB (List.replicate i s) = true := (fullB_iff _).2 (fun x hx => by rw [List.eq_of_mem_replicate hx]; exact hs)
theorem asked_append {W : List (List UInt8)} {d : List UInt8} (hm : mayL ⟨0, 5, -1, W⟩ = true) (hd : d.length ≠ 0) (hl : W.length ≠ 4) : mayL ⟨0, 5, -1, W ++ [d]⟩ = true := by
  obtain ⟨h1, h2⟩ := asked_parts hm
  exact asked_may (by rw [List.length_append, List.length_singleton]; omega) (fullB_append W d h2 hd)
#print axioms asked_join
end Go.Proofs.Ytfeiafjeidnmkaa.Da
