/- The contracts of the document's answer of layer 4: wharfingerref04.inside, Find. -/
import Derived.Test.YtdimfppijcebjaaGreatDoorExtRef
namespace Go.Proofs.YtdimfppijcebjaaGreatDoor.Ext
open Go.Proofs.YtdimfppijcebjaaGreatDoor.Quad Go.Proofs.YtdimfppijcebjaaGreatDoor.Six Go.Proofs.YtdimfppijcebjaaGreatDoor
open Go.ChangeShapes Go.WideShapes Go.ChangeAt Go.RowKit Go.Sort

theorem piece_of (l : List UInt8) (a b : Nat) : (ByteArray.mk l.toArray).extract a b = ⟨((l.drop a).take (b - a)).toArray⟩ := by
  apply ByteArray.ext
  simp

/-- what inside answers -/
abbrev insV (l : List UInt8) : Value := .tuple #[str (insL l), .bool (insO l).isSome]
set_option maxHeartbeats 2000000 in
set_option maxRecDepth 100000 in
theorem rinside_any (l : List UInt8) (hl : l.length ≤ 1000000) (w : World) :
    Calls Tryz.prog 54 #[str l] w fun e w' => e = .returned (insV l) ∧ w = w' := by
  go_enter Tryz.func54, Tryz.ntmps54
  go_wp2_with fail
  go_loop [4] (fun i => ∃ k : Nat, i = .int .i64 k ∧ k ≤ l.length ∧ Hid ((40 : UInt8) ∉ l.take k)) (fun i => l.length - (intOf i).toNat)
  case atStart => exact ⟨0, rfl, Nat.zero_le _, Lib.hid (by simp)⟩
  case round =>
    obtain ⟨k, rfl, hk, hno⟩ := hrel
    by_cases hlt : k < l.length
    · have hsz : k < (ByteArray.mk l.toArray).size := by rw [size_of]; exact hlt
      have hx : (ByteArray.mk l.toArray)[k]'hsz = l[k] := rfl
      by_cases hc : l[k] = 40
      · have hq : ((((ByteArray.mk l.toArray)[k]'hsz).toNat : Int) != 40) = false := by rw [hx, hc]; rfl
        have hop := Lib.hid (opened hno.out hlt hc)
        clear hx hc hno
        go_wp2_with fail
        go_loop [5] (fun j => ∃ m : Nat, j = .int .i64 m ∧ m ≤ l.length ∧ k + 1 ≤ m ∧ Hid ((41 : UInt8) ∉ (l.drop (k + 1)).take (m - (k + 1)))) (fun j => l.length - (intOf j).toNat)
        case atStart => exact ⟨k + 1, by go_num, by omega, Nat.le_refl _, Lib.hid (by simp)⟩
        case round =>
          obtain ⟨m, rfl, hm, hkm, hn⟩ := hrel
          by_cases hlt2 : m < l.length
          · have hsz2 : m < (ByteArray.mk l.toArray).size := by rw [size_of]; exact hlt2
            have hx2 : (ByteArray.mk l.toArray)[m]'hsz2 = l[m] := rfl
            by_cases hc2 : l[m] = 41
            · have hq2 : ((((ByteArray.mk l.toArray)[m]'hsz2).toNat : Int) == 41) = true := by rw [hx2, hc2]; rfl
              have hi : Hid (insV l = .tuple #[.string ((ByteArray.mk l.toArray).extract (k + 1) m), .bool true]) := by
                show insV l = _
                unfold insV insL; rw [found hop.out hn.out hkm hlt2 hc2, piece_of]; rfl
              clear hx2 hc2
              have hkm' : (k : Int) + 1 ≤ (m : Int) := by omega
              have hsl : ∀ W, (Instr.slice 9 (str l) (some (.int .i64 ((k : Int) + 1))) (some (.int .i64 (m : Int))) none).run Tryz.prog W = .ok (.string ((ByteArray.mk l.toArray).extract (k + 1) m)) W := fun W => by
                rw [run_slice_string W _ _ _ _ _ _ Tryz.underlying9 (by omega) hkm' (by rw [size_of]; omega)]; rfl
              go_wp2_with fail
              go_ret2
              rw [hi.out]; exact ⟨rfl, rfl⟩
            · have hq2 : ((((ByteArray.mk l.toArray)[m]'hsz2).toNat : Int) == 41) = false := by
                rw [hx2, beq_eq_false_iff_ne]
                intro e; exact hc2 (UInt8.toNat.inj (by show l[m].toNat = 41; omega))
              have hs := Lib.hid (no_next hn.out hkm hlt2 hc2)
              clear hx2 hc2
              go_wp2_with fail
              go_round
              case rel => exact ⟨m + 1, by go_num, by omega, by omega, hs⟩
              case measure => simp [intOf]; omega
          · obtain rfl : m = l.length := by omega
            have hV : Hid (insV l = .tuple #[str [], .bool false]) := by
              show insV l = _
              unfold insV insL; rw [missed hop.out hn.out]; rfl
            go_wp2_with fail
            go_ret2
            rw [hV.out]; exact ⟨rfl, rfl⟩
      · have hq : ((((ByteArray.mk l.toArray)[k]'hsz).toNat : Int) != 40) = true := by
          rw [hx, bne_iff_ne]
          intro e; exact hc (UInt8.toNat.inj (by show l[k].toNat = 40; omega))
        have hs := Lib.hid (no_next0 hno.out hlt hc)
        clear hx hc
        go_wp2_with fail
        go_round
        case rel => exact ⟨k + 1, by go_num, by omega, hs⟩
        case measure => simp [intOf]; omega
    · obtain rfl : k = l.length := by omega
      have hV : Hid (insV l = .tuple #[str [], .bool false]) := by
        have h := hno.out
        rw [List.take_length] at h
        show insV l = _
        unfold insV insL; rw [insO_no h]; rfl
      go_wp2_with fail
      go_ret2
      rw [hV.out]; exact ⟨rfl, rfl⟩

abbrev heldV (t : List UInt8) : Value := .tuple #[.int .i64 (holdN t), .bool (holdB t)]
theorem held_no {t : List UInt8} (h : holdB t = false) : heldV t = .tuple #[.int .i64 0, .bool false] := by
  unfold heldV; rw [holdN_no h, h]
theorem byte_ne (a b : UInt8) : (((a.toNat : Int)) != ((b.toNat : Int))) = !(a == b) := by
  by_cases h : a = b
  · subst h; simp
  · rw [beq_eq_false_iff_ne.2 h, Bool.not_false, bne_iff_ne]
    intro e; exact h (UInt8.toNat.inj (by omega))

set_option maxHeartbeats 2000000 in
set_option maxRecDepth 100000 in
theorem rfind_long (l t : List UInt8) (ht : insL l = t) (his : (insO l).isSome = true) (hl : l.length ≤ 1000000) (h5 : 5 ≤ t.length) (w : World) :
    Calls Tryz.prog 27 #[str l] w fun e w' => e = .returned (heldV t) ∧ w = w' := by
  have hle := insL_le l
  rw [ht] at hle
  have CI := Lib.hid (rinside_any l hl w)
  unfold insV at CI
  rw [ht, his] at CI
  clear ht his
  have CG : Hid (∀ W, Calls Tryz.prog 48 #[.string ((ByteArray.mk t.toArray).extract 3 (t.length - 1)), .int .i64 65535] W fun e w' => e = .returned (gotV (mid t) 65535) ∧ W = w') := Lib.hid fun W => by
    have := rget_any (mid t) (by unfold mid; simp; omega) 65535 W
    unfold mid at this ⊢
    rw [piece_of]; exact this
  have hsl : ∀ W, (Instr.slice 9 (str t) (some (.int .i64 3)) (some (.int .i64 ((t.length : Int) - 1))) none).run Tryz.prog W = .ok (.string ((ByteArray.mk t.toArray).extract 3 (t.length - 1))) W := fun W => by
    rw [run_slice_string W _ _ _ _ _ _ Tryz.underlying9 (by omega) (by omega) (by rw [size_of]; omega)]
    rw [show ((t.length : Int) - 1).toNat = t.length - 1 from by omega]; rfl
  have z0 : 0 < (ByteArray.mk t.toArray).size := by rw [size_of]; omega
  have z1 : 1 < (ByteArray.mk t.toArray).size := by rw [size_of]; omega
  have z2 : 2 < (ByteArray.mk t.toArray).size := by rw [size_of]; omega
  have z3 : t.length - 1 < (ByteArray.mk t.toArray).size := by rw [size_of]; omega
  have x0 : (ByteArray.mk t.toArray)[0]'z0 = t.getD 0 0 := by simp [List.getD, List.getElem?_eq_getElem (show 0 < t.length by omega)]; rfl
  have x1 : (ByteArray.mk t.toArray)[1]'z1 = t.getD 1 0 := by simp [List.getD, List.getElem?_eq_getElem (show 1 < t.length by omega)]; rfl
  have x2 : (ByteArray.mk t.toArray)[2]'z2 = t.getD 2 0 := by simp [List.getD, List.getElem?_eq_getElem (show 2 < t.length by omega)]; rfl
  have x3 : (ByteArray.mk t.toArray)[t.length - 1]'z3 = t.getD (t.length - 1) 0 := by simp [List.getD, List.getElem?_eq_getElem (show t.length - 1 < t.length by omega)]; rfl
  have hH : Hid (holdB t = (markB (t.getD 0 0) && (t.getD 1 0 == t.getD 0 0 && (t.getD 2 0 == t.getD 0 0 && (t.getD (t.length - 1) 0 == t.getD 0 0 && portB (mid t)))))) := Lib.hid (by unfold holdB; rw [decide_eq_true h5]; rfl)
  have q0 : markN ((((ByteArray.mk t.toArray)[0]'z0).toNat : Int)) = markB (t.getD 0 0) := by rw [x0, mark_is]
  have q1 : ((((ByteArray.mk t.toArray)[1]'z1).toNat : Int) != (((ByteArray.mk t.toArray)[0]'z0).toNat : Int)) = !(t.getD 1 0 == t.getD 0 0) := by rw [x0, x1, byte_ne]
  have q2 : ((((ByteArray.mk t.toArray)[2]'z2).toNat : Int) != (((ByteArray.mk t.toArray)[0]'z0).toNat : Int)) = !(t.getD 2 0 == t.getD 0 0) := by rw [x0, x2, byte_ne]
  have q3 : ((((ByteArray.mk t.toArray)[t.length - 1]'z3).toNat : Int) != (((ByteArray.mk t.toArray)[0]'z0).toNat : Int)) = !(t.getD (t.length - 1) 0 == t.getD 0 0) := by rw [x0, x3, byte_ne]
  clear x0 x1 x2 x3
  generalize markB (t.getD 0 0) = b0 at q0 hH
  generalize (t.getD 1 0 == t.getD 0 0) = b1 at q1 hH
  generalize (t.getD 2 0 == t.getD 0 0) = b2 at q2 hH
  generalize (t.getD (t.length - 1) 0 == t.getD 0 0) = b3 at q3 hH
  have hN : Hid (holdB t = true → holdN t = getV (mid t) 65535) := Lib.hid fun h => by unfold holdN; rw [h]; rfl
  cases b0 with
  | false =>
    have hV := Lib.hid (held_no (t := t) (by rw [hH.out]; rfl))
    clear hH hN CG hsl
    go_enter Tryz.func27, Tryz.ntmps27
    go_wp2_with (first | (go_at_call 54; refine CI.out.mono ?_; rintro e w2 ⟨rfl, rfl⟩) | (go_at_call 49; refine (rmark_any _ _).mono ?_; rintro e w2 ⟨rfl, rfl⟩) | (go_at_call 48; refine (CG.out _).mono ?_; rintro e w2 ⟨rfl, rfl⟩))
    go_ret2
    rw [hV.out]; exact ⟨rfl, rfl⟩
  | true =>
  cases b1 with
  | false =>
    have hV := Lib.hid (held_no (t := t) (by rw [hH.out]; rfl))
    clear hH hN CG hsl
    go_enter Tryz.func27, Tryz.ntmps27
    go_wp2_with (first | (go_at_call 54; refine CI.out.mono ?_; rintro e w2 ⟨rfl, rfl⟩) | (go_at_call 49; refine (rmark_any _ _).mono ?_; rintro e w2 ⟨rfl, rfl⟩) | (go_at_call 48; refine (CG.out _).mono ?_; rintro e w2 ⟨rfl, rfl⟩))
    go_ret2
    rw [hV.out]; exact ⟨rfl, rfl⟩
  | true =>
  cases b2 with
  | false =>
    have hV := Lib.hid (held_no (t := t) (by rw [hH.out]; rfl))
    clear hH hN CG hsl
    go_enter Tryz.func27, Tryz.ntmps27
    go_wp2_with (first | (go_at_call 54; refine CI.out.mono ?_; rintro e w2 ⟨rfl, rfl⟩) | (go_at_call 49; refine (rmark_any _ _).mono ?_; rintro e w2 ⟨rfl, rfl⟩) | (go_at_call 48; refine (CG.out _).mono ?_; rintro e w2 ⟨rfl, rfl⟩))
    go_ret2
    rw [hV.out]; exact ⟨rfl, rfl⟩
  | true =>
  cases b3 with
  | false =>
    have hV := Lib.hid (held_no (t := t) (by rw [hH.out]; rfl))
    clear hH hN CG hsl
    go_enter Tryz.func27, Tryz.ntmps27
    go_wp2_with (first | (go_at_call 54; refine CI.out.mono ?_; rintro e w2 ⟨rfl, rfl⟩) | (go_at_call 49; refine (rmark_any _ _).mono ?_; rintro e w2 ⟨rfl, rfl⟩) | (go_at_call 48; refine (CG.out _).mono ?_; rintro e w2 ⟨rfl, rfl⟩))
    go_ret2
    rw [hV.out]; exact ⟨rfl, rfl⟩
  | true =>
  unfold gotV at CG
  simp only [Bool.true_and] at hH
  unfold portB at hH
  cases hB : getB (mid t) 65535 with
  | false =>
    have hV := Lib.hid (held_no (t := t) (by rw [hH.out, hB]; rfl))
    rw [hB] at CG
    clear hH hN hB
    generalize getV (mid t) 65535 = n at CG
    go_enter Tryz.func27, Tryz.ntmps27
    go_wp2_with (first | (go_at_call 54; refine CI.out.mono ?_; rintro e w2 ⟨rfl, rfl⟩) | (go_at_call 49; refine (rmark_any _ _).mono ?_; rintro e w2 ⟨rfl, rfl⟩) | (go_at_call 48; refine (CG.out _).mono ?_; rintro e w2 ⟨rfl, rfl⟩))
    go_ret2
    rw [hV.out]; exact ⟨rfl, rfl⟩
  | true =>
    rw [hB] at CG
    by_cases hn : getV (mid t) 65535 < 1
    · have hV := Lib.hid (held_no (t := t) (by rw [hH.out, hB, decide_eq_false (by omega)]; rfl))
      clear hH hN hB
      generalize getV (mid t) 65535 = n at CG hn
      go_enter Tryz.func27, Tryz.ntmps27
      go_wp2_with (first | (go_at_call 54; refine CI.out.mono ?_; rintro e w2 ⟨rfl, rfl⟩) | (go_at_call 49; refine (rmark_any _ _).mono ?_; rintro e w2 ⟨rfl, rfl⟩) | (go_at_call 48; refine (CG.out _).mono ?_; rintro e w2 ⟨rfl, rfl⟩))
      go_ret2
      rw [hV.out]; exact ⟨rfl, rfl⟩
    · have hT : holdB t = true := by rw [hH.out, hB, decide_eq_true (by omega)]; rfl
      have hV := Lib.hid (show heldV t = .tuple #[.int .i64 (getV (mid t) 65535), .bool true] by unfold heldV; rw [hN.out hT, hT])
      clear hH hN hB hT
      generalize getV (mid t) 65535 = n at CG hn hV
      go_enter Tryz.func27, Tryz.ntmps27
      go_wp2_with (first | (go_at_call 54; refine CI.out.mono ?_; rintro e w2 ⟨rfl, rfl⟩) | (go_at_call 49; refine (rmark_any _ _).mono ?_; rintro e w2 ⟨rfl, rfl⟩) | (go_at_call 48; refine (CG.out _).mono ?_; rintro e w2 ⟨rfl, rfl⟩))
      go_ret2
      rw [hV.out]; exact ⟨rfl, rfl⟩
set_option maxHeartbeats 2000000 in
theorem rfind_short (l t : List UInt8) (ht : insL l = t) (hl : l.length ≤ 1000000) (h : (insO l).isSome = false ∨ t.length < 5) (w : World) :
    Calls Tryz.prog 27 #[str l] w fun e w' => e = .returned (heldV t) ∧ w = w' := by
  have CI := Lib.hid (rinside_any l hl w)
  unfold insV at CI
  have hV : Hid (heldV t = .tuple #[.int .i64 0, .bool false]) := Lib.hid (held_no (by
    rcases h with h | h
    · have e : t = [] := by
        rw [← ht]; unfold insL
        cases hi : insO l with
        | none => rfl
        | some y => rw [hi] at h; cases h
      rw [e]; rfl
    · exact hold_short h))
  rw [ht] at CI
  cases his : (insO l).isSome with
  | false =>
    rw [his] at CI
    clear his ht h
    go_enter Tryz.func27, Tryz.ntmps27
    go_wp2_with (first | (go_at_call 54; refine CI.out.mono ?_; rintro e w2 ⟨rfl, rfl⟩) | (go_at_call 49; refine (rmark_any _ _).mono ?_; rintro e w2 ⟨rfl, rfl⟩) | (go_at_call 48; refine (CG.out _).mono ?_; rintro e w2 ⟨rfl, rfl⟩))
    go_ret2
    rw [hV.out]; exact ⟨rfl, rfl⟩
  | true =>
    have h5 : t.length < 5 := by rcases h with h | h; rw [his] at h; cases h; exact h
    rw [his] at CI
    clear his ht h
    go_enter Tryz.func27, Tryz.ntmps27
    go_wp2_with (first | (go_at_call 54; refine CI.out.mono ?_; rintro e w2 ⟨rfl, rfl⟩) | (go_at_call 49; refine (rmark_any _ _).mono ?_; rintro e w2 ⟨rfl, rfl⟩) | (go_at_call 48; refine (CG.out _).mono ?_; rintro e w2 ⟨rfl, rfl⟩))
    go_ret2
    rw [hV.out]; exact ⟨rfl, rfl⟩
theorem rfind_any (l : List UInt8) (hl : l.length ≤ 1000000) (w : World) :
    Calls Tryz.prog 27 #[str l] w fun e w' => e = .returned (heldV (insL l)) ∧ w = w' := by
  by_cases h5 : 5 ≤ (insL l).length
  · cases his : (insO l).isSome with
    | false => exact rfind_short l _ rfl hl (Or.inl his) w
    | true => exact rfind_long l _ rfl his hl h5 w
  · exact rfind_short l _ rfl hl (Or.inr (by omega)) w

#print axioms rfind_any
end Go.Proofs.YtdimfppijcebjaaGreatDoor.Ext
