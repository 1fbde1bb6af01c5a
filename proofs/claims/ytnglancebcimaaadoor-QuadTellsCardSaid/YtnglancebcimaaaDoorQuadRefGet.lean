/- The contracts of the document's answer of layer 2: wharfingerref02.Get and Text. -/
import Derived.Test.YtnglancebcimaaaDoorQuadRef
import Derived.IntWalk
namespace Go.Proofs.YtnglancebcimaaaDoor.Quad
open Go.ChangeShapes Go.WideShapes Go.ChangeAt Go.RowKit Go.Sort

theorem rnum_any (n : Int) (h0 : -9223372036854775808 ≤ n) (h1 : n ≤ 9223372036854775807) (w : World) :
    Calls Tryd.prog 14 #[.int .i64 n] w fun e w' => e = .returned (str (Lib.itoa n)) ∧ w = w' := by
  by_cases h : n < 0
  · obtain ⟨u, rfl⟩ : ∃ u : Nat, n = -(u : Int) := ⟨n.natAbs, by omega⟩
    exact rnum_neg u (by omega) (by omega) w
  · obtain ⟨u, rfl⟩ : ∃ u : Nat, n = (u : Int) := ⟨n.toNat, by omega⟩
    exact rnum_pos u h1 w

theorem digit_step {l : List UInt8} {k m : Nat} (hk : k < l.length) (h : Lib.decFrom 0 (l.take k) = some m) (h0 : 48 ≤ l[k].toNat) (h1 : l[k].toNat ≤ 57) : Lib.decFrom 0 (l.take (k + 1)) = some (10 * m + (l[k].toNat - 48)) := by
  have := Lib.decFrom_take l k 0 m l[k] (l[k].toNat - 48) h (List.getElem?_eq_getElem hk) (by unfold Lib.digitVal; rw [if_pos ⟨h0, h1⟩])
  rw [this, Nat.mul_comm]

set_option maxHeartbeats 1000000 in
set_option maxRecDepth 100000 in
theorem rget_any (l : List UInt8) (hl : l.length ≤ 9223372036854775807) (most : Int) (w : World) :
    Calls Tryd.prog 10 #[str l, .int .i64 most] w fun e w' => e = .returned (gotV l most) ∧ w = w' := by
  by_cases hz : l = []
  · subst hz
    have hd := Lib.hid (got_no (ref_empty most))
    go_enter Tryd.func10, Tryd.ntmps10
    go_wp2_with fail
    go_ret2
    rw [hd.out]; exact ⟨rfl, rfl⟩
  have hpos : 0 < l.length := List.length_pos_iff.2 hz
  have hz' : (((l.length : Nat) : Int) == 0) = false := by rw [beq_eq_false_iff_ne]; omega
  by_cases h18 : 18 < l.length
  · have hd := Lib.hid (got_no (code_long h18 most))
    go_enter Tryd.func10, Tryd.ntmps10
    go_wp2_with fail
    go_ret2
    rw [hd.out]; exact ⟨rfl, rfl⟩
  clear hz
  go_enter Tryd.func10, Tryd.ntmps10
  go_wp2_with fail
  go_loop [6, 7] (fun a b => ∃ k m : Nat, k ≤ l.length ∧ b = .int .i64 k ∧ a = .int .i64 m ∧ Hid (Lib.decFrom 0 (l.take k) = some m)) (fun _ b => l.length - (intOf b).toNat)
  case atStart => exact ⟨0, 0, Nat.zero_le _, rfl, rfl, Lib.hid rfl⟩
  case round =>
    obtain ⟨k, m, hk, rfl, rfl, hm⟩ := hrel
    have hb := decFrom_lt hm.out (by simp; omega)
    by_cases hlt : k < l.length
    · have hsz : k < (ByteArray.mk l.toArray).size := by rw [size_mk]; exact hlt
      have hx : (ByteArray.mk l.toArray)[k]'hsz = l[k] := rfl
      by_cases hlo : l[k].toNat < 48
      · have hd := Lib.hid (got_no (ref_odd (List.getElem?_eq_getElem hlt) (Or.inl hlo) most))
        have hq : (((ByteArray.mk l.toArray)[k]'hsz).toNat : Int) < 48 := by rw [hx]; omega
        clear hx
        go_wp2_with fail
        go_ret2
        rw [hd.out]; exact ⟨rfl, rfl⟩
      · by_cases hhi : 57 < l[k].toNat
        · have hd := Lib.hid (got_no (ref_odd (List.getElem?_eq_getElem hlt) (Or.inr hhi) most))
          have hq : ¬ (((ByteArray.mk l.toArray)[k]'hsz).toNat : Int) < 48 := by rw [hx]; omega
          have hq' : 57 < (((ByteArray.mk l.toArray)[k]'hsz).toNat : Int) := by rw [hx]; omega
          clear hx
          go_wp2_with fail
          go_ret2
          rw [hd.out]; exact ⟨rfl, rfl⟩
        · have hs := digit_step hlt hm.out (by omega) (by omega)
          have hb2 := decFrom_lt hs (by simp; omega)
          have HS := Lib.hid hs
          clear hs
          obtain ⟨c, hc⟩ : ∃ c : Nat, l[k].toNat = c := ⟨_, rfl⟩
          have hx' : ((ByteArray.mk l.toArray)[k]'hsz).toNat = c := by rw [hx]; exact hc
          rw [hc] at hlo hhi hb2 HS
          clear hx hc
          go_wp2_with fail
          go_round
          case rel => exact ⟨k + 1, 10 * m + (c - 48), by omega, by go_num, by go_num, HS⟩
          case measure => simp [intOf]; omega
    · obtain rfl : k = l.length := by omega
      have hm' := hm.out
      rw [List.take_length] at hm'
      rcases ref_all hm' (by omega) most with ⟨h1, hB⟩ | ⟨h1, h2, hB⟩ | ⟨h1, h2, hB, hV⟩
      · have hd := Lib.hid (got_no hB)
        clear hm' hB
        go_wp2_with fail
        go_ret2
        rw [hd.out]; exact ⟨rfl, rfl⟩
      · have hd := Lib.hid (got_no hB)
        have h2' : (Lib.itoa (m : Int) == l) = false := beq_eq_false_iff_ne.2 h2
        clear hm' hB h2
        go_wp2_with (go_at_call 14; refine (rnum_any (m : Int) (by omega) (by omega) _).mono ?_; rintro e w' ⟨rfl, rfl⟩)
        go_ret2
        rw [hd.out]; exact ⟨rfl, rfl⟩
      · have hd := Lib.hid (got_yes hB hV)
        have h2' : (Lib.itoa (m : Int) == l) = true := beq_iff_eq.2 h2
        clear hm' hB h2 hV
        go_wp2_with (go_at_call 14; refine (rnum_any (m : Int) (by omega) (by omega) _).mono ?_; rintro e w' ⟨rfl, rfl⟩)
        go_ret2
        rw [hd.out]; exact ⟨rfl, rfl⟩

set_option maxHeartbeats 1000000 in
set_option maxRecDepth 100000 in
theorem rtext_any (a b c d : Int) (ha : 0 ≤ a) (ha' : a ≤ 255) (hb : 0 ≤ b) (hb' : b ≤ 255) (hc : 0 ≤ c) (hc' : c ≤ 255) (hd : 0 ≤ d) (hd' : d ≤ 255) (w : World) :
    Calls Tryd.prog 16 #[hostV a b c d] w fun e w' => e = .returned (str (textL a b c d)) ∧ Below w.heap.size w w' := by
  have la := itoa_short ha ha'; have lb := itoa_short hb hb'; have lc := itoa_short hc hc'; have ld := itoa_short hd hd'
  have hT : Hid (textL a b c d = Lib.itoa a ++ [46] ++ Lib.itoa b ++ [46] ++ Lib.itoa c ++ [46] ++ Lib.itoa d) := by
    show textL a b c d = _
    unfold textL; simp
  have CA := Lib.hid (fun W => rnum_any a (by omega) (by omega) W)
  have CB := Lib.hid (fun W => rnum_any b (by omega) (by omega) W)
  have CC := Lib.hid (fun W => rnum_any c (by omega) (by omega) W)
  have CD := Lib.hid (fun W => rnum_any d (by omega) (by omega) W)
  generalize Lib.itoa a = pa at la hT CA
  generalize Lib.itoa b = pb at lb hT CB
  generalize Lib.itoa c = pc at lc hT CC
  generalize Lib.itoa d = pd at ld hT CD
  go_enter Tryd.func16, Tryd.ntmps16
  go_wp2_with fail
  obtain ⟨w0, e0, R0, B0⟩ : ∃ w0, w.alloc (.cells #[.int .u8 a, .int .u8 b, .int .u8 c, .int .u8 d] 23) = w0 ∧ IsRow w0 w.heap.size 23 #[.int .u8 a, .int .u8 b, .int .u8 c, .int .u8 d] ∧ Below w.heap.size w w0 :=
    ⟨_, rfl, IsRow.made _ _ _, (Below.refl _ _).alloc (Nat.le_refl _) _⟩
  rw [e0]
  clear e0
  have k0 := cell_regrown (show w0.cell? ⟨w.heap.size, 0, none⟩ = some (.int .u8 a) from R0.cell 0)
  have k1 := cell_regrown (show w0.cell? ⟨w.heap.size, 1, none⟩ = some (.int .u8 b) from R0.cell 1)
  have k2 := cell_regrown (show w0.cell? ⟨w.heap.size, 2, none⟩ = some (.int .u8 c) from R0.cell 2)
  have k3 := cell_regrown (show w0.cell? ⟨w.heap.size, 3, none⟩ = some (.int .u8 d) from R0.cell 3)
  have lift : ∀ {n : Int} {r : List UInt8}, (∀ W, Calls Tryd.prog 14 #[.int .i64 n] W fun e w' => e = .returned (str r) ∧ W = w') → ∀ d os, Calls Tryd.prog 14 #[.int .i64 n] (grow (redrawn w0 d) os) fun e w'' => e = .returned (str r) ∧ ∃ p : Regrown, w'' = grow (redrawn w0 p.d) p.os :=
    fun h d os => (h _).mono fun _ _ ⟨he, hw⟩ => ⟨he, ⟨d, os⟩, hw.symm⟩
  have KA := Lib.hid (lift CA.out); have KB := Lib.hid (lift CB.out); have KC := Lib.hid (lift CC.out); have KD := Lib.hid (lift CD.out)
  clear lift CA CB CC CD
  have n0 : ¬ 9223372036854775807 < pa.length + 1 := by omega
  have n1 : ¬ 9223372036854775807 < pa.length + 1 + pb.length := by omega
  have n2 : ¬ 9223372036854775807 < pa.length + 1 + pb.length + 1 := by omega
  have n3 : ¬ 9223372036854775807 < pa.length + 1 + pb.length + 1 + pc.length := by omega
  have n4 : ¬ 9223372036854775807 < pa.length + 1 + pb.length + 1 + pc.length + 1 := by omega
  have n5 : ¬ 9223372036854775807 < pa.length + 1 + pb.length + 1 + pc.length + 1 + pd.length := by omega
  have wa : IntKind.i64.wrap a = a := IntWalk.i64_in _ (by omega)
  have wb : IntKind.i64.wrap b = b := IntWalk.i64_in _ (by omega)
  have wc : IntKind.i64.wrap c = c := IntWalk.i64_in _ (by omega)
  have wd : IntKind.i64.wrap d = d := IntWalk.i64_in _ (by omega)
  refine wp_region_quiet_below (by kernel_rfl) (by kernel_rfl) ?_
  repeat (quiet_step (first | with_reducible exact KA.out _ _ | with_reducible exact KB.out _ _ | with_reducible exact KC.out _ _ | with_reducible exact KD.out _ _))
  refine wpQuiet_nil ?_
  intro _ hw'
  obtain ⟨⟨dq, osq⟩, hw''⟩ := hw'
  subst hw''
  go_wp2_with fail
  go_ret
  refine ⟨?_, below_trans B0 (below_regrown w0 dq osq)⟩
  rw [hT.out]
  refine congrArg (fun x => Ending.returned (.string x)) ?_
  have e46 : (ByteArray.mk #[46]) = ⟨([46] : List UInt8).toArray⟩ := rfl
  rw [e46, app_str, app_str, app_str, app_str, app_str, app_str]

end Go.Proofs.YtnglancebcimaaaDoor.Quad
