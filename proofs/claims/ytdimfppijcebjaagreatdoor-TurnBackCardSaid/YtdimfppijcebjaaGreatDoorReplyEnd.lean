/- The contracts of what the code of layer 9 asks of one line: strings.Cut at a blank, cutEnd, isText, isCode, firstCode, strings.CutPrefix. -/
import Derived.Test.YtdimfppijcebjaaGreatDoorReplyCut
import Derived.Test.YtdimfppijcebjaaGreatDoorQuadCode
import Derived.Test.YtdimfppijcebjaaGreatDoorClean
import Derived.Test.YtdimfppijcebjaaGreatDoorTexts
import Derived.BigQuiet
import Derived.Deep.QuietTactic
namespace Go.Proofs.YtdimfppijcebjaaGreatDoor.Rp
open Go.Proofs.YtdimfppijcebjaaGreatDoor Go.Proofs.YtdimfppijcebjaaGreatDoor.Cm Go.Proofs.YtdimfppijcebjaaGreatDoor.Quad
open Go Go.ChangeShapes Go.WideShapes Go.ChangeAt Go.RowKit
set_option maxRecDepth 100000
set_option linter.unusedSimpArgs false

theorem drew_below (w : World) : Below w.heap.size w w.drew := ⟨rfl, rfl, rfl, Nat.le_refl _, fun _ _ => rfl⟩

set_option maxHeartbeats 2000000 in
/-- a text cut at its first blank -/
theorem litecut_any (s : List UInt8) (hs : s.length ≤ 9223372036854775807) (w : World) :
    Calls Tryz.prog 81 #[.string ⟨s.toArray⟩, .string ⟨#[32]⟩] w fun e w' => (∃ b, e = .returned (.tuple #[.string ⟨(head s).toArray⟩, .string ⟨(rest s).toArray⟩, .bool b])) ∧ Below w.heap.size w w' := by
  have HX := Lib.hid (fun W => Tryz.stringslite_Index_one ⟨s.toArray⟩ 32 W)
  rw [show (ByteArray.mk s.toArray).data.toList = s from by simp] at HX
  rcases byte_index s with ⟨h1, h2, h3⟩ | ⟨h1, h2⟩
  · rw [h1] at HX
    have H2 := Lib.hid h2
    have H3 := Lib.hid h3
    clear h1 h2 h3
    go_enter Tryz.func81, Tryz.ntmps81
    go_wp2_with (go_at_call 98; refine (HX.out _).mono ?_; rintro e w1 ⟨rfl, rfl⟩)
    go_ret3
    exact ⟨⟨_, by rw [H2.out, H3.out] <;> rfl⟩, Below.refl _ _⟩
  · rw [h1] at HX
    obtain ⟨n, hn⟩ : ∃ n, n = (head s).length := ⟨_, rfl⟩
    have hl : s.length = n + 1 + (rest s).length := by
      have := congrArg List.length h2
      rw [List.length_append, List.length_cons] at this; omega
    rw [← hn] at HX
    have e1 : Hid ((ByteArray.mk s.toArray).extract 0 n = ⟨(head s).toArray⟩) := Lib.hid (by
      apply ByteArray.ext
      rw [ByteArray.data_extract]
      show s.toArray.extract 0 n = (head s).toArray
      rw [List.extract_toArray, List.extract_eq_take_drop]
      simp [hn, take_head])
    have e2 : Hid ((ByteArray.mk s.toArray).extract (n + 1) s.length = ⟨(rest s).toArray⟩) := Lib.hid (by
      apply ByteArray.ext
      rw [ByteArray.data_extract]
      show s.toArray.extract (n + 1) s.length = (rest s).toArray
      rw [List.extract_toArray, List.extract_eq_take_drop]
      unfold rest
      rw [← hn, List.take_of_length_le (by rw [List.length_drop]; omega)])
    have c2 : (n : Int) ≤ (s.length : Int) := by omega
    have c4 : (n : Int) + 1 ≤ (s.length : Int) := by omega
    have c0 : (0 : Int) ≤ (n : Int) := by omega
    have c3 : (0 : Int) ≤ (n : Int) + 1 := by omega
    clear h1 h2 hl hn
    go_enter Tryz.func81, Tryz.ntmps81
    go_wp2_with (go_at_call 98; refine (HX.out _).mono ?_; rintro e w1 ⟨rfl, rfl⟩)
    go_quiet (fail)
    go_wp2_with fail
    go_ret3
    exact ⟨⟨_, by rw [← e1.out, ← e2.out] <;> rfl⟩, ⟨rfl, rfl, rfl, Nat.le_refl _, fun _ _ => rfl⟩⟩

set_option maxHeartbeats 1000000 in
theorem cut_any (s : List UInt8) (hs : s.length ≤ 9223372036854775807) (w : World) :
    Calls Tryz.prog 66 #[.string ⟨s.toArray⟩, .string ⟨#[32]⟩] w fun e w' => (∃ b, e = .returned (.tuple #[.string ⟨(head s).toArray⟩, .string ⟨(rest s).toArray⟩, .bool b])) ∧ Below w.heap.size w w' := by
  have HX := Lib.hid (fun W => litecut_any s hs W)
  go_enter Tryz.func66, Tryz.ntmps66
  go_wp2_with (go_at_call 81; refine (HX.out _).mono ?_; rintro e w1 ⟨⟨b, rfl⟩, b1⟩)
  go_ret3
  exact ⟨⟨_, rfl⟩, b1⟩

set_option maxHeartbeats 1000000 in
theorem cutEnd_any (code : Int) (lo : -9223372036854775808 ≤ code) (hi : code ≤ 9223372036854775807) (s : List UInt8) (hs : s.length ≤ 9223372036854775807) (w : World) (E : Env w) :
    Calls Tryz.prog 40 #[.string ⟨s.toArray⟩, .int .i64 code] w fun e w' => e = .returned (.tuple #[.string ⟨(cutT code s).toArray⟩, .bool (ends code s)]) ∧ Below w.heap.size w w' := by
  have HC := Lib.hid (fun W => cut_any s hs W)
  have HN := Lib.hid (fun W EW => num_any code lo hi W EW)
  have hT : cutT code s = if ends code s then rest s else [] := rfl
  rw [ends_head] at hT
  have hE := ends_head code s
  generalize ends code s = en at hE ⊢
  generalize cutT code s = t at hT ⊢
  generalize head s = q at HC hT hE
  generalize rest s = r at HC hT
  generalize Lib.itoa code = d at HN hT hE
  cases h : (q == d) with
  | false =>
    rw [h] at hT hE
    rw [if_neg (by decide)] at hT
    have HT := Lib.hid hT
    have HE := Lib.hid hE
    clear hT hE
    go_enter Tryz.func40, Tryz.ntmps40
    go_wp2_with (first
      | (go_at_call 66; refine (HC.out _).mono ?_; rintro e w1 ⟨⟨b, rfl⟩, b1⟩)
      | (go_at_call 57; refine (HN.out _ (E.below b1)).mono ?_; rintro e w2 ⟨rfl, b2⟩))
    go_ret2
    exact ⟨by rw [HT.out, HE.out] <;> rfl, below_trans b1 b2⟩
  | true =>
    rw [h] at hT hE
    rw [if_pos rfl] at hT
    have HT := Lib.hid hT
    have HE := Lib.hid hE
    clear hT hE
    go_enter Tryz.func40, Tryz.ntmps40
    go_wp2_with (first
      | (go_at_call 66; refine (HC.out _).mono ?_; rintro e w1 ⟨⟨b, rfl⟩, b1⟩)
      | (go_at_call 57; refine (HN.out _ (E.below b1)).mono ?_; rintro e w2 ⟨rfl, b2⟩))
    go_ret2
    exact ⟨by rw [HT.out, HE.out] <;> rfl, below_trans b1 b2⟩

set_option maxHeartbeats 1000000 in
theorem isText_any (s : List UInt8) (hs : s.length ≤ 9223372036854775807) (most : Nat) (w : World) :
    Calls Tryz.prog 41 #[.string ⟨s.toArray⟩, .int .i64 (most : Int)] w fun e w' => e = .returned (.bool (decide (s.length ≤ most) && clean s)) ∧ w' = w := by
  have HC := Lib.hid (fun W => lclean_same s hs W)
  by_cases h : s.length ≤ most
  · have g : (s.length : Int) ≤ (most : Int) := by omega
    rw [decide_eq_true h]
    generalize clean s = c at HC ⊢
    clear h
    go_enter Tryz.func41, Tryz.ntmps41
    go_wp2_with (go_at_call 37; refine (HC.out _).mono ?_; rintro e w1 ⟨rfl, rfl⟩)
    go_ret
    exact ⟨rfl, rfl⟩
  · have g : ¬ (s.length : Int) ≤ (most : Int) := by omega
    rw [decide_eq_false h]
    clear h
    go_enter Tryz.func41, Tryz.ntmps41
    go_wp2_with fail
    go_ret
    exact ⟨rfl, rfl⟩

theorem isCode_any (n : Int) (w : World) :
    Calls Tryz.prog 39 #[.int .i64 n] w fun e w' => e = .returned (.bool (decide (100 ≤ n) && decide (n ≤ 599))) ∧ w' = w := by
  have HV : Hid ((decide (100 ≤ n) && decide (n ≤ 599)) = if 100 ≤ n then (if n ≤ 599 then true else false) else false) := Lib.hid (by by_cases h : 100 ≤ n <;> by_cases h' : n ≤ 599 <;> simp [h, h'])
  generalize (decide (100 ≤ n) && decide (n ≤ 599)) = b at HV ⊢
  by_cases h : 100 ≤ n
  · by_cases h' : n ≤ 599
    · have HW := Lib.hid (HV.out.trans (by rw [if_pos h, if_pos h']))
      clear HV
      go_enter Tryz.func39, Tryz.ntmps39
      go_wp2_with fail
      go_ret
      exact ⟨by rw [HW.out] <;> rfl, rfl⟩
    · have HW := Lib.hid (HV.out.trans (by rw [if_pos h, if_neg h']))
      clear HV
      go_enter Tryz.func39, Tryz.ntmps39
      go_wp2_with fail
      go_ret
      exact ⟨by rw [HW.out] <;> rfl, rfl⟩
  · have HW := Lib.hid (HV.out.trans (by rw [if_neg h]))
    clear HV
    go_enter Tryz.func39, Tryz.ntmps39
    go_wp2_with fail
    go_ret
    exact ⟨by rw [HW.out] <;> rfl, rfl⟩


theorem cutPrefix_any (l p : List UInt8) (w : World) :
    Calls Tryz.prog 92 #[str l, str p] w fun e w' => e = .returned (.tuple #[str (Lib.trimPrefix l p), .bool (Lib.hasPrefix l p)]) ∧ w' = w := by
  have h := Tryz.strings_CutPrefix ⟨l.toArray⟩ ⟨p.toArray⟩ w
  rw [show (ByteArray.mk l.toArray).data.toList = l from by simp, show (ByteArray.mk p.toArray).data.toList = p from by simp] at h
  exact h

#print axioms cutEnd_any
end Go.Proofs.YtdimfppijcebjaaGreatDoor.Rp
