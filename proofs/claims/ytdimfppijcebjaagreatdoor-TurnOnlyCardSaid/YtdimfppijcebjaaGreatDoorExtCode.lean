/- The contracts of ext.Port, readMarkedPort, Find, split. -/
import Derived.Test.YtdimfppijcebjaaGreatDoorExtPure
namespace Go.Proofs.YtdimfppijcebjaaGreatDoor.Ext
open Go.Proofs.YtdimfppijcebjaaGreatDoor.Quad Go.Proofs.YtdimfppijcebjaaGreatDoor.Six Go.Proofs.YtdimfppijcebjaaGreatDoor
open Go.ChangeShapes Go.WideShapes Go.ChangeAt Go.RowKit Go.Sort

theorem port_long {n : Int} (h0 : 0 ≤ n) (h1 : n ≤ 65535) : (Lib.itoa n).length ≤ 5 := by
  rw [itoa_pos h0, Lib.decDigits_length]
  have := nDigits_le 4 n.toNat (by omega)
  omega

set_option maxHeartbeats 1000000 in
theorem port_yes (n : Int) (h0 : 1 ≤ n) (h1 : n ≤ 65535) (w : World) (E : Env w) :
    Calls Tryz.prog 34 #[.int .i64 n] w fun e w' => e = .returned (.tuple #[str (portL n), .bool true]) ∧ Below w.heap.size w w' := by
  have hp : portN n = true := by unfold portN; simp [h0, h1]
  have hT : Hid ((ByteArray.mk #[40, 124, 124, 124] ++ ByteArray.mk (Lib.itoa n).toArray ++ ByteArray.mk #[124, 41]) = ⟨(portL n).toArray⟩) := by
    show _ = _
    rw [show (ByteArray.mk #[40, 124, 124, 124]) = ⟨([40, 124, 124, 124] : List UInt8).toArray⟩ from rfl, show (ByteArray.mk #[124, 41]) = ⟨([124, 41] : List UInt8).toArray⟩ from rfl, app_str, app_str]
    rfl
  have ll := port_long (n := n) (by omega) h1
  have C := Lib.hid (num_any n (by omega) (by omega) w E)
  generalize Lib.itoa n = t at hT ll C
  generalize portL n = u at hT ⊢
  have n0 : ¬ 9223372036854775807 < 4 + t.length := by omega
  have n1 : ¬ 9223372036854775807 < 4 + t.length + 2 := by omega
  clear ll
  go_enter Tryz.func34, Tryz.ntmps34
  go_wp2_with (first | (go_at_call 59; refine (isPort_any _ _).mono ?_; rintro e w2 ⟨rfl, rfl⟩) | (go_at_call 57; refine C.out.mono ?_; rintro e w1 ⟨rfl, b1⟩))
  go_ret2
  refine ⟨?_, b1⟩
  show Ending.returned (.tuple #[.string (ByteArray.mk #[40, 124, 124, 124] ++ ByteArray.mk t.toArray ++ ByteArray.mk #[124, 41]), .bool true]) = _
  rw [hT.out]
theorem port_no (n : Int) (h : n < 1 ∨ 65535 < n) (w : World) :
    Calls Tryz.prog 34 #[.int .i64 n] w fun e w' => e = .returned (.tuple #[str [], .bool false]) ∧ Below w.heap.size w w' := by
  have hp : portN n = false := by unfold portN; simp; omega
  clear h
  go_enter Tryz.func34, Tryz.ntmps34
  go_wp2_with (go_at_call 59; refine (isPort_any _ _).mono ?_; rintro e w2 ⟨rfl, rfl⟩)
  go_ret2
  exact ⟨rfl, Below.refl _ _⟩

theorem cutPrefix_any (l p : List UInt8) (w : World) :
    Calls Tryz.prog 92 #[str l, str p] w fun e w' => e = .returned (.tuple #[str (Lib.trimPrefix l p), .bool (Lib.hasPrefix l p)]) ∧ w' = w := by
  have h := Tryz.strings_CutPrefix ⟨l.toArray⟩ ⟨p.toArray⟩ w
  rw [show (ByteArray.mk l.toArray).data.toList = l from by simp, show (ByteArray.mk p.toArray).data.toList = p from by simp] at h
  exact h
theorem cutSuffix_any (l p : List UInt8) (hl : l.length ≤ 9223372036854775807) (w : World) :
    Calls Tryz.prog 93 #[str l, str p] w fun e w' => e = .returned (.tuple #[str (Lib.trimSuffix l p), .bool (Lib.hasSuffix l p)]) ∧ w' = w := by
  have h := Tryz.strings_CutSuffix ⟨l.toArray⟩ ⟨p.toArray⟩ w (by rw [size_of]; exact hl)
  rw [show (ByteArray.mk l.toArray).data.toList = l from by simp, show (ByteArray.mk p.toArray).data.toList = p from by simp] at h
  exact h

/-- what readMarkedPort answers -/
def HeldPost (aF : Addr) (t : List UInt8) (e : Ending) : Prop :=
  (holdB t = true ∧ e = .returned (.tuple #[.int .i64 (holdN t), .nilIface])) ∨ (holdB t = false ∧ ∃ p, e = .returned (.tuple #[.int .i64 0, faultV p aF]))

set_option maxHeartbeats 2000000 in
set_option maxRecDepth 100000 in
theorem marked_any (t : List UInt8) (ht : t.length ≤ 1000000) (aF aK : Addr) (w : World) (E : Env w) (R : Errs aF aK w) :
    Calls Tryz.prog 73 #[str t] w fun e w' => HeldPost aF t e ∧ Below w.heap.size w w' := by
  by_cases hf : t = [] ∨ ∃ c r, t = c :: r ∧ markB c = false
  · have hB : Hid (holdB t = false) := by
      show holdB t = false
      rcases hf with rfl | ⟨c, r, rfl, hm⟩
      · rfl
      · exact hold_markless hm
    have C := Lib.hid (firstMark_no t hf aF aK w R)
    clear hf ht
    go_enter Tryz.func73, Tryz.ntmps73
    go_wp2_with (go_at_call 91; refine C.out.mono ?_; rintro e w1 ⟨rfl, b1⟩)
    go_ret2
    exact ⟨Or.inr ⟨hB.out, _, rfl⟩, b1⟩
  · obtain ⟨c, r, hl, hm⟩ : ∃ c r, t = c :: r ∧ markB c = true := by
      cases t with
      | nil => exact absurd (Or.inl rfl) hf
      | cons c r =>
        refine ⟨c, r, rfl, ?_⟩
        cases h : markB c with
        | true => rfl
        | false => exact absurd (Or.inr ⟨c, r, rfl, h⟩) hf
    have C := Lib.hid (firstMark_yes t c r hl hm w)
    have hH : Hid (holdB t = (Lib.hasPrefix t [c, c, c] && (Lib.hasSuffix (t.drop 3) [c] && portB ((t.drop 3).take ((t.drop 3).length - 1))))) := by
      show holdB t = _
      subst hl; exact hold_is hm
    have hM : Hid (mid t = (t.drop 3).take ((t.drop 3).length - 1)) := by
      show mid t = _
      subst hl; exact hold_mid
    have CP := Lib.hid (fun W => show Calls Tryz.prog 92 #[str t, .string (ByteArray.mk #[c] ++ ByteArray.mk #[c] ++ ByteArray.mk #[c])] W fun e w' => e = .returned (.tuple #[str (Lib.trimPrefix t [c, c, c]), .bool (Lib.hasPrefix t [c, c, c])]) ∧ w' = W by
      have := cutPrefix_any t [c, c, c] W
      rw [show (ByteArray.mk #[c]) = ⟨([c] : List UInt8).toArray⟩ from rfl, app_str, app_str]; exact this)
    clear hf hl hm
    cases hp : Lib.hasPrefix t [c, c, c] with
    | false =>
      have hB : Hid (holdB t = false) := by show holdB t = false; rw [hH.out, hp]; rfl
      have e1 : Lib.trimPrefix t [c, c, c] = t := by unfold Lib.trimPrefix; rw [hp]; rfl
      rw [e1, hp] at CP
      have CS := Lib.hid (fun W => cutSuffix_any t [c] (by omega) W)
      clear hH hM hp e1 ht
      generalize Lib.trimSuffix t [c] = u at CS
      cases hs : Lib.hasSuffix t [c] with
      | false =>
        rw [hs] at CS
        clear hs
        go_enter Tryz.func73, Tryz.ntmps73
        go_wp2_with (first | (go_at_call 91; refine C.out.mono ?_; rintro e w1 ⟨rfl, rfl⟩) | (go_at_call 92; refine (CP.out _).mono ?_; rintro e w1 ⟨rfl, rfl⟩) | (go_at_call 93; refine (CS.out _).mono ?_; rintro e w1 ⟨rfl, rfl⟩))
        have k := R.form
        go_region
        all_goals (go_wp2_with fail; go_ret2; exact ⟨Or.inr ⟨hB.out, _, rfl⟩, drew_below _⟩)
      | true =>
        rw [hs] at CS
        clear hs
        go_enter Tryz.func73, Tryz.ntmps73
        go_wp2_with (first | (go_at_call 91; refine C.out.mono ?_; rintro e w1 ⟨rfl, rfl⟩) | (go_at_call 92; refine (CP.out _).mono ?_; rintro e w1 ⟨rfl, rfl⟩) | (go_at_call 93; refine (CS.out _).mono ?_; rintro e w1 ⟨rfl, rfl⟩))
        have k := R.form
        go_region
        all_goals (go_wp2_with fail; go_ret2; exact ⟨Or.inr ⟨hB.out, _, rfl⟩, drew_below _⟩)
    | true =>
      have e1 : Lib.trimPrefix t [c, c, c] = t.drop 3 := by unfold Lib.trimPrefix; rw [hp]; rfl
      rw [e1, hp] at CP
      rw [hp] at hH
      have hu : (t.drop 3).length ≤ 1000000 := by simp; omega
      generalize t.drop 3 = u at CP hH hM hu
      have CS := Lib.hid (fun W => cutSuffix_any u [c] (by omega) W)
      clear hp e1 ht hu
      cases hs : Lib.hasSuffix u [c] with
      | false =>
        have hB : Hid (holdB t = false) := by show holdB t = false; rw [hH.out, hs]; rfl
        rw [hs] at CS
        generalize Lib.trimSuffix u [c] = v at CS
        clear hs hH hM
        go_enter Tryz.func73, Tryz.ntmps73
        go_wp2_with (first | (go_at_call 91; refine C.out.mono ?_; rintro e w1 ⟨rfl, rfl⟩) | (go_at_call 92; refine (CP.out _).mono ?_; rintro e w1 ⟨rfl, rfl⟩) | (go_at_call 93; refine (CS.out _).mono ?_; rintro e w1 ⟨rfl, rfl⟩))
        have k := R.form
        go_region
        all_goals (go_wp2_with fail; go_ret2; exact ⟨Or.inr ⟨hB.out, _, rfl⟩, drew_below _⟩)
      | true =>
        have e2 : Lib.trimSuffix u [c] = u.take (u.length - 1) := by unfold Lib.trimSuffix; rw [hs]; rfl
        rw [hs, e2] at CS
        rw [hs] at hH
        clear hs e2
        generalize u.take (u.length - 1) = v at CS hH hM
        cases hv : portB v with
        | false =>
          have hB : Hid (holdB t = false) := by show holdB t = false; rw [hH.out, hv]; rfl
          have CR := Lib.hid (readPort_no v hv aF aK w E R)
          clear hv hH hM
          go_enter Tryz.func73, Tryz.ntmps73
          go_wp2_with (first | (go_at_call 91; refine C.out.mono ?_; rintro e w1 ⟨rfl, rfl⟩) | (go_at_call 92; refine (CP.out _).mono ?_; rintro e w1 ⟨rfl, rfl⟩) | (go_at_call 93; refine (CS.out _).mono ?_; rintro e w1 ⟨rfl, rfl⟩) | (go_at_call 94; refine CR.out.mono ?_; rintro e w2 ⟨rfl, b2⟩))
          go_ret2
          exact ⟨Or.inr ⟨hB.out, _, rfl⟩, b2⟩
        | true =>
          have hB : Hid (holdB t = true) := by show holdB t = true; rw [hH.out, hv]; rfl
          have hN : Hid (holdN t = getV v 65535) := by show holdN t = _; unfold holdN; rw [hB.out, hM.out]; rfl
          have CR := Lib.hid (readPort_yes v hv w E)
          clear hv hH hM
          go_enter Tryz.func73, Tryz.ntmps73
          go_wp2_with (first | (go_at_call 91; refine C.out.mono ?_; rintro e w1 ⟨rfl, rfl⟩) | (go_at_call 92; refine (CP.out _).mono ?_; rintro e w1 ⟨rfl, rfl⟩) | (go_at_call 93; refine (CS.out _).mono ?_; rintro e w1 ⟨rfl, rfl⟩) | (go_at_call 94; refine CR.out.mono ?_; rintro e w2 ⟨rfl, b2⟩))
          go_ret2
          exact ⟨Or.inl ⟨hB.out, by rw [hN.out]; rfl⟩, b2⟩

set_option maxHeartbeats 1000000 in
set_option maxRecDepth 100000 in
theorem find_any (l : List UInt8) (hl : l.length ≤ 1000000) (w : World) (E : Env w) :
    Calls Tryz.prog 53 #[str l] w fun e w' => e = .returned (.tuple #[.int .i64 (holdN (insL l)), .bool (holdB (insL l))]) ∧ Below w.heap.size w w' := by
  obtain ⟨aF, aK, R⟩ := E.errs
  have C1 := Lib.hid (inside_any l hl w E)
  have hi := insL_le l
  generalize insL l = t at C1 hi ⊢
  have C2 := Lib.hid (fun W EW RW => marked_any t (by omega) aF aK W EW RW)
  clear hl hi
  go_enter Tryz.func53, Tryz.ntmps53
  go_wp2_with (first | (go_at_call 74; refine C1.out.mono ?_; rintro e w1 ⟨rfl, b1⟩) | (go_at_call 73; refine (C2.out _ (E.below b1) (R.below b1)).mono ?_; rintro e w2 ⟨hh, b2⟩; have B2 := below_trans b1 b2; rcases hh with ⟨hB, rfl⟩ | ⟨hB, p, rfl⟩))
  · have hB' := Lib.hid hB
    clear hB
    go_wp2_with (go_at_call 75; refine (number_nil _).mono ?_; rintro e w3 ⟨rfl, b3⟩)
    go_ret2
    rw [hB'.out]; exact ⟨rfl, below_trans B2 b3⟩
  · have hB' := Lib.hid hB
    have hN := Lib.hid (holdN_no hB)
    clear hB
    go_wp2_with (go_at_call 75; refine (number_form p aF aK _ (R.below B2)).mono ?_; rintro e w3 ⟨rfl, b3⟩)
    go_ret2
    rw [hB'.out, hN.out]; exact ⟨rfl, below_trans B2 b3⟩

end Go.Proofs.YtdimfppijcebjaaGreatDoor.Ext
