/- The document's answer of layer 16: those that are not over, those of other sessions (gen-hole-ref.py). -/
import Derived.Test.YtaahghjllfkmaaaHoleRef
namespace Go.Proofs.Ytaahghjllfkmaaa.Hl
open Go.Proofs.Ytaahghjllfkmaaa
open Go Go.ChangeShapes Go.WideShapes Go.ChangeAt Go.RowKit
set_option maxRecDepth 100000
set_option linter.unusedSimpArgs false
set_option linter.unusedVariables false
theorem holes_one (wr : World) (x : Ho) : HolesIs (wr.alloc (.cells #[.int .i64 x.port, .int .i64 x.sess, .int .i64 x.ten, .int .u8 x.a, .int .u8 x.b, .int .u8 x.c, .int .u8 x.d, .int .u8 x.e, .int .u8 x.f, .int .u8 x.g, .int .u8 x.h, .int .i64 x.tport, .int .i64 x.dead] 28)) (.slice (some ⟨wr.heap.size, 0, none⟩) 1 1) [x] := by
  refine Or.inr ⟨_, _, rfl, Nat.le_refl _, by show 1 ≤ maxLen; decide, holes_flat (fun j u hj => ?_)⟩
  rw [show (⟨wr.heap.size, 0, none⟩ : Addr).add j = ⟨wr.heap.size, j, none⟩ from by unfold Addr.add; split <;> simp_all, (IsRow.made wr 28 #[.int .i64 x.port, .int .i64 x.sess, .int .i64 x.ten, .int .u8 x.a, .int .u8 x.b, .int .u8 x.c, .int .u8 x.d, .int .u8 x.e, .int .u8 x.f, .int .u8 x.g, .int .u8 x.h, .int .i64 x.tport, .int .i64 x.dead]).cell]
  rw [← hj]
  simp [flatT]
theorem OwnHoles.form' {base : Nat} {w : World} {v : Value} {l : List Ho} (h : OwnHoles base w v l) : ∃ p n c, v = .slice p n c ∧ n = l.length := h.holes.form

set_option maxHeartbeats 4000000 in
theorem rsweep_any (u : Value) (l : List Ho) (n0 : Int) (hl : l.length ≤ 100000) (w : World) (H : HolesIs w u l) :
    Calls Try.prog 18 #[u, .int .i64 n0] w fun e w' => (∃ p n c, e = .returned (.slice p n c) ∧ HolesIs w' (.slice p n c) (sweep l n0)) ∧ Below w.heap.size w w' := by
  have hmax := H.max
  obtain ⟨p, n, c, rfl, hn⟩ := H.form
  have HN := Lib.hid hn
  have HR := Lib.hid H
  rw [← hn] at hmax hl
  clear hn H
  have HE : Hid (sweep l n0 = l.filter (fun x => decide (n0 < x.dead))) := Lib.hid rfl
  generalize sweep l n0 = out at HE ⊢
  go_enter Try.func18, Try.ntmps18
  go_wp2_with fail
  go_loopw [5, 6] (fun x5 x6 wr => ∃ (k : Nat) (p2 : Option Addr) (n2 c2 : Nat), x5 = .slice p2 n2 c2 ∧ x6 = .int .i64 (k : Int) ∧ k ≤ n ∧ Hid (OwnHoles w.heap.size wr (.slice p2 n2 c2) ((l.take k).filter (fun x => decide (n0 < x.dead)))) ∧ Hid (Below w.heap.size w wr)) (fun _ i _ => n - (intOf i).toNat)
  case atStart => exact ⟨0, none, 0, 0, rfl, rfl, Nat.zero_le _, Lib.hid (OwnHoles.nil _ _), Lib.hid (Below.refl _ _)⟩
  case round =>
    obtain ⟨k, p2, n2, c2, rfl, rfl, hk, HO, HB⟩ := hrel
    by_cases hlt : k < n
    · have hji : (k : Int) < (n : Int) := by omega
      have HK : Hid (k + 1 ≤ n) := Lib.hid hlt
      have hkl : k < l.length := by rw [← HN.out]; exact hlt
      have HLEN : Hid (((l.take k).filter (fun x => decide (n0 < x.dead))).length ≤ 100000) := Lib.hid (Nat.le_trans (List.length_filter_le _ _) (by rw [List.length_take]; omega))
      obtain ⟨b1, o1, rfl, hb1, hc1⟩ := (HR.out.call HB.out).some (by omega)
      have T1 := hc1 k hkl
      have a0 := T1.c0; have a1 := T1.c1; have a2 := T1.c2; have a3 := T1.c3; have a4 := T1.c4; have a5 := T1.c5; have a6 := T1.c6; have a7 := T1.c7; have a8 := T1.c8; have a9 := T1.c9; have a10 := T1.c10; have a11 := T1.c11; have a12 := T1.c12
      have HNX := Lib.hid (filter_next (f := (fun x => decide (n0 < x.dead))) hkl)
      clear T1 hc1
      generalize l[k] = x at *
      by_cases h1 : n0 < x.dead
      · have HO4 : Hid ((l.take (k + 1)).filter (fun x => decide (n0 < x.dead)) = (l.take k).filter (fun x => decide (n0 < x.dead)) ++ [x]) := Lib.hid (by rw [HNX.out, decide_eq_true h1]; rfl)
        go_wp2_with (first
          | (at_builtin; refine wpList_append_holes rfl _ _ rfl w.heap.size (.slice p2 n2 c2) ((l.take k).filter (fun x => decide (n0 < x.dead))) rfl (HO.out.alloc _) (.slice (some ⟨wr.heap.size, 0, none⟩) 1 1) [x] rfl (holes_one wr x) (by have := HLEN.out; simp only [List.length_singleton]; omega) (by have := HB.out.size; simp; omega) ?_; intro v4 w4 o4 g4 e4; clear e4; have B4 := Lib.hid ((HB.out.alloc HB.out.size (.cells #[.int .i64 x.port, .int .i64 x.sess, .int .i64 x.ten, .int .u8 x.a, .int .u8 x.b, .int .u8 x.c, .int .u8 x.d, .int .u8 x.e, .int .u8 x.f, .int .u8 x.g, .int .u8 x.h, .int .i64 x.tport, .int .i64 x.dead] 28)).grown g4 (by have := HB.out.size; simp; omega) HO.out.ge); have O4 := Lib.hid o4; obtain ⟨p4, n4, c4, rfl, -⟩ := (OwnHoles.form' O4.out); clear o4 g4))
        go_roundw
        case rel => exact ⟨k + 1, p4, n4, c4, rfl, by go_num, HK.out, by rw [HO4.out]; exact O4, B4⟩
        case measure => have := HK.out; simp [intOf]; omega
      · have HO4 : Hid ((l.take (k + 1)).filter (fun x => decide (n0 < x.dead)) = (l.take k).filter (fun x => decide (n0 < x.dead))) := Lib.hid (by rw [HNX.out, decide_eq_false h1]; simp)
        go_wp2_with fail
        go_roundw
        case rel => exact ⟨k + 1, p2, n2, c2, rfl, by go_num, HK.out, by rw [HO4.out]; exact HO, HB⟩
        case measure => have := HK.out; simp [intOf]; omega
    · have hji : ¬ (k : Int) < (n : Int) := by omega
      have hE : (l.take k).filter (fun x => decide (n0 < x.dead)) = out := by rw [HE.out, List.take_of_length_le (by have := HN.out; omega)]
      rw [hE] at HO
      clear hE
      go_wp2_with fail
      go_ret
      exact ⟨⟨p2, n2, c2, rfl, HO.out.holes⟩, HB.out⟩

set_option maxHeartbeats 4000000 in
theorem rrevoke_any (u : Value) (l : List Ho) (n0 : Int) (hl : l.length ≤ 100000) (w : World) (H : HolesIs w u l) :
    Calls Try.prog 20 #[u, .int .i64 n0] w fun e w' => (∃ p n c, e = .returned (.slice p n c) ∧ HolesIs w' (.slice p n c) (revoke l n0)) ∧ Below w.heap.size w w' := by
  have hmax := H.max
  obtain ⟨p, n, c, rfl, hn⟩ := H.form
  have HN := Lib.hid hn
  have HR := Lib.hid H
  rw [← hn] at hmax hl
  clear hn H
  have HE : Hid (revoke l n0 = l.filter (fun x => !(x.sess == n0))) := Lib.hid rfl
  generalize revoke l n0 = out at HE ⊢
  go_enter Try.func20, Try.ntmps20
  go_wp2_with fail
  go_loopw [5, 6] (fun x5 x6 wr => ∃ (k : Nat) (p2 : Option Addr) (n2 c2 : Nat), x5 = .slice p2 n2 c2 ∧ x6 = .int .i64 (k : Int) ∧ k ≤ n ∧ Hid (OwnHoles w.heap.size wr (.slice p2 n2 c2) ((l.take k).filter (fun x => !(x.sess == n0)))) ∧ Hid (Below w.heap.size w wr)) (fun _ i _ => n - (intOf i).toNat)
  case atStart => exact ⟨0, none, 0, 0, rfl, rfl, Nat.zero_le _, Lib.hid (OwnHoles.nil _ _), Lib.hid (Below.refl _ _)⟩
  case round =>
    obtain ⟨k, p2, n2, c2, rfl, rfl, hk, HO, HB⟩ := hrel
    by_cases hlt : k < n
    · have hji : (k : Int) < (n : Int) := by omega
      have HK : Hid (k + 1 ≤ n) := Lib.hid hlt
      have hkl : k < l.length := by rw [← HN.out]; exact hlt
      have HLEN : Hid (((l.take k).filter (fun x => !(x.sess == n0))).length ≤ 100000) := Lib.hid (Nat.le_trans (List.length_filter_le _ _) (by rw [List.length_take]; omega))
      obtain ⟨b1, o1, rfl, hb1, hc1⟩ := (HR.out.call HB.out).some (by omega)
      have T1 := hc1 k hkl
      have a0 := T1.c0; have a1 := T1.c1; have a2 := T1.c2; have a3 := T1.c3; have a4 := T1.c4; have a5 := T1.c5; have a6 := T1.c6; have a7 := T1.c7; have a8 := T1.c8; have a9 := T1.c9; have a10 := T1.c10; have a11 := T1.c11; have a12 := T1.c12
      have HNX := Lib.hid (filter_next (f := (fun x => !(x.sess == n0))) hkl)
      clear T1 hc1
      generalize l[k] = x at *
      cases h1 : (x.sess == n0) with
      | false =>
        have h1n : (x.sess != n0) = true := by rw [bne, h1]; rfl
        have HO4 : Hid ((l.take (k + 1)).filter (fun x => !(x.sess == n0)) = (l.take k).filter (fun x => !(x.sess == n0)) ++ [x]) := Lib.hid (by rw [HNX.out, h1]; rfl)
        go_wp2_with (first
          | (at_builtin; refine wpList_append_holes rfl _ _ rfl w.heap.size (.slice p2 n2 c2) ((l.take k).filter (fun x => !(x.sess == n0))) rfl (HO.out.alloc _) (.slice (some ⟨wr.heap.size, 0, none⟩) 1 1) [x] rfl (holes_one wr x) (by have := HLEN.out; simp only [List.length_singleton]; omega) (by have := HB.out.size; simp; omega) ?_; intro v4 w4 o4 g4 e4; clear e4; have B4 := Lib.hid ((HB.out.alloc HB.out.size (.cells #[.int .i64 x.port, .int .i64 x.sess, .int .i64 x.ten, .int .u8 x.a, .int .u8 x.b, .int .u8 x.c, .int .u8 x.d, .int .u8 x.e, .int .u8 x.f, .int .u8 x.g, .int .u8 x.h, .int .i64 x.tport, .int .i64 x.dead] 28)).grown g4 (by have := HB.out.size; simp; omega) HO.out.ge); have O4 := Lib.hid o4; obtain ⟨p4, n4, c4, rfl, -⟩ := (OwnHoles.form' O4.out); clear o4 g4))
        go_roundw
        case rel => exact ⟨k + 1, p4, n4, c4, rfl, by go_num, HK.out, by rw [HO4.out]; exact O4, B4⟩
        case measure => have := HK.out; simp [intOf]; omega
      | true =>
        have h1n : (x.sess != n0) = false := by rw [bne, h1]; rfl
        have HO4 : Hid ((l.take (k + 1)).filter (fun x => !(x.sess == n0)) = (l.take k).filter (fun x => !(x.sess == n0))) := Lib.hid (by rw [HNX.out, h1]; simp)
        go_wp2_with fail
        go_roundw
        case rel => exact ⟨k + 1, p2, n2, c2, rfl, by go_num, HK.out, by rw [HO4.out]; exact HO, HB⟩
        case measure => have := HK.out; simp [intOf]; omega
    · have hji : ¬ (k : Int) < (n : Int) := by omega
      have hE : (l.take k).filter (fun x => !(x.sess == n0)) = out := by rw [HE.out, List.take_of_length_le (by have := HN.out; omega)]
      rw [hE] at HO
      clear hE
      go_wp2_with fail
      go_ret
      exact ⟨⟨p2, n2, c2, rfl, HO.out.holes⟩, HB.out⟩

#print axioms rsweep_any
#print axioms rrevoke_any
end Go.Proofs.Ytaahghjllfkmaaa.Hl
