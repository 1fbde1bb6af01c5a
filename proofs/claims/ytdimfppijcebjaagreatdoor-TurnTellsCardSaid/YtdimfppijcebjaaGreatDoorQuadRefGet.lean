/- The contracts of the document's answer of layer 2: wharfingerref02.Get. -/
import Derived.Test.YtdimfppijcebjaaGreatDoorQuadRef
import Derived.IntWalk
namespace Go.Proofs.YtdimfppijcebjaaGreatDoor.Quad
open Go.ChangeShapes Go.WideShapes Go.ChangeAt Go.RowKit Go.Sort

theorem rnum_any (n : Int) (h0 : -9223372036854775808 ≤ n) (h1 : n ≤ 9223372036854775807) (w : World) :
    Calls Tryz.prog 61 #[.int .i64 n] w fun e w' => e = .returned (str (Lib.itoa n)) ∧ w = w' := by
  by_cases h : n < 0
  · obtain ⟨u, rfl⟩ : ∃ u : Nat, n = -(u : Int) := ⟨n.natAbs, by omega⟩
    exact rnum_neg u (by omega) (by omega) w
  · obtain ⟨u, rfl⟩ : ∃ u : Nat, n = (u : Int) := ⟨n.toNat, by omega⟩
    exact rnum_pos u h1 w

theorem digit_step {l : List UInt8} {k m : Nat} (hk : k < l.length) (h : Lib.decFrom 0 (l.take k) = some m) (h0 : 48 ≤ l[k].toNat) (h1 : l[k].toNat ≤ 57) : Lib.decFrom 0 (l.take (k + 1)) = some (10 * m + (l[k].toNat - 48)) := by
  have := Lib.decFrom_take l k 0 m l[k] (l[k].toNat - 48) h (List.getElem?_eq_getElem hk) (by unfold Lib.digitVal; rw [if_pos ⟨h0, h1⟩])
  rw [this, Nat.mul_comm]

set_option maxHeartbeats 1000000 in
set_option maxRecDepth 100000 in
theorem rget_any (l : List UInt8) (hl : l.length ≤ 9223372036854775807) (most : Int) (w : World) :
    Calls Tryz.prog 48 #[str l, .int .i64 most] w fun e w' => e = .returned (gotV l most) ∧ w = w' := by
  by_cases hz : l = []
  · subst hz
    have hd := Lib.hid (got_no (ref_empty most))
    go_enter Tryz.func48, Tryz.ntmps48
    go_wp2_with fail
    go_ret2
    rw [hd.out]; exact ⟨rfl, rfl⟩
  have hpos : 0 < l.length := List.length_pos_iff.2 hz
  have hz' : (((l.length : Nat) : Int) == 0) = false := by rw [beq_eq_false_iff_ne]; omega
  by_cases h18 : 18 < l.length
  · have hd := Lib.hid (got_no (code_long h18 most))
    go_enter Tryz.func48, Tryz.ntmps48
    go_wp2_with fail
    go_ret2
    rw [hd.out]; exact ⟨rfl, rfl⟩
  clear hz
  go_enter Tryz.func48, Tryz.ntmps48
  go_wp2_with fail
  go_loop [6, 7] (fun a b => ∃ k m : Nat, k ≤ l.length ∧ b = .int .i64 k ∧ a = .int .i64 m ∧ Hid (Lib.decFrom 0 (l.take k) = some m)) (fun _ b => l.length - (intOf b).toNat)
  case atStart => exact ⟨0, 0, Nat.zero_le _, rfl, rfl, Lib.hid rfl⟩
  case round =>
    obtain ⟨k, m, hk, rfl, rfl, hm⟩ := hrel
    have hb := decFrom_lt hm.out (by simp; omega)
    by_cases hlt : k < l.length
    · have hsz : k < (ByteArray.mk l.toArray).size := by rw [size_mk]; exact hlt
      have hx : (ByteArray.mk l.toArray)[k]'hsz = l[k] := rfl
      by_cases hlo : l[k].toNat < 48
      · have hd := Lib.hid (got_no (ref_odd (List.getElem?_eq_getElem hlt) (Or.inl hlo) most))
        have hq : (((ByteArray.mk l.toArray)[k]'hsz).toNat : Int) < 48 := by rw [hx]; omega
        clear hx
        go_wp2_with fail
        go_ret2
        rw [hd.out]; exact ⟨rfl, rfl⟩
      · by_cases hhi : 57 < l[k].toNat
        · have hd := Lib.hid (got_no (ref_odd (List.getElem?_eq_getElem hlt) (Or.inr hhi) most))
          have hq : ¬ (((ByteArray.mk l.toArray)[k]'hsz).toNat : Int) < 48 := by rw [hx]; omega
          have hq' : 57 < (((ByteArray.mk l.toArray)[k]'hsz).toNat : Int) := by rw [hx]; omega
          clear hx
          go_wp2_with fail
          go_ret2
          rw [hd.out]; exact ⟨rfl, rfl⟩
        · have hs := digit_step hlt hm.out (by omega) (by omega)
          have hb2 := decFrom_lt hs (by simp; omega)
          have HS := Lib.hid hs
          clear hs
          obtain ⟨c, hc⟩ : ∃ c : Nat, l[k].toNat = c := ⟨_, rfl⟩
          have hx' : ((ByteArray.mk l.toArray)[k]'hsz).toNat = c := by rw [hx]; exact hc
          rw [hc] at hlo hhi hb2 HS
          clear hx hc
          go_wp2_with fail
          go_round
          case rel => exact ⟨k + 1, 10 * m + (c - 48), by omega, by go_num, by go_num, HS⟩
          case measure => simp [intOf]; omega
    · obtain rfl : k = l.length := by omega
      have hm' := hm.out
      rw [List.take_length] at hm'
      rcases ref_all hm' (by omega) most with ⟨h1, hB⟩ | ⟨h1, h2, hB⟩ | ⟨h1, h2, hB, hV⟩
      · have hd := Lib.hid (got_no hB)
        clear hm' hB
        go_wp2_with fail
        go_ret2
        rw [hd.out]; exact ⟨rfl, rfl⟩
      · have hd := Lib.hid (got_no hB)
        have h2' : (Lib.itoa (m : Int) == l) = false := beq_eq_false_iff_ne.2 h2
        clear hm' hB h2
        go_wp2_with (go_at_call 61; refine (rnum_any (m : Int) (by omega) (by omega) _).mono ?_; rintro e w' ⟨rfl, rfl⟩)
        go_ret2
        rw [hd.out]; exact ⟨rfl, rfl⟩
      · have hd := Lib.hid (got_yes hB hV)
        have h2' : (Lib.itoa (m : Int) == l) = true := beq_iff_eq.2 h2
        clear hm' hB h2 hV
        go_wp2_with (go_at_call 61; refine (rnum_any (m : Int) (by omega) (by omega) _).mono ?_; rintro e w' ⟨rfl, rfl⟩)
        go_ret2
        rw [hd.out]; exact ⟨rfl, rfl⟩

end Go.Proofs.YtdimfppijcebjaaGreatDoor.Quad
