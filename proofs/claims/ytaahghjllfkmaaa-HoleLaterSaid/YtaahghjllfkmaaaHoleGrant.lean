/- The document's answer of layer 16: ports, one more (gen-hole-ref.py). -/
import Derived.Test.YtaahghjllfkmaaaHoleKeep
import Derived.Deep.RegionLaw
namespace Go.Proofs.Ytaahghjllfkmaaa.Hl
open Go.Proofs.Ytaahghjllfkmaaa
open Go Go.ChangeShapes Go.WideShapes Go.ChangeAt Go.RowKit
set_option maxRecDepth 100000
set_option linter.unusedSimpArgs false
set_option linter.unusedVariables false
theorem holes_lit {w : World} {b : Nat} {x : Ho} (h : IsRow w b 28 #[.int .i64 x.port, .int .i64 x.sess, .int .i64 x.ten, .int .u8 x.a, .int .u8 x.b, .int .u8 x.c, .int .u8 x.d, .int .u8 x.e, .int .u8 x.f, .int .u8 x.g, .int .u8 x.h, .int .i64 x.tport, .int .i64 x.dead]) : HolesIs w (.slice (some ⟨b, 0, none⟩) 1 1) [x] := by
  refine Or.inr ⟨_, _, rfl, Nat.le_refl _, by show 1 ≤ maxLen; decide, holes_flat (fun j u hj => ?_)⟩
  rw [show (⟨b, 0, none⟩ : Addr).add j = ⟨b, j, none⟩ from by unfold Addr.add; split <;> simp_all, h.cell]
  rw [← hj]
  simp [flatT]

set_option maxHeartbeats 4000000 in
theorem rports_any (u : Value) (l : List Ho) (hl : l.length ≤ 100000) (w : World) (H : HolesIs w u l) :
    Calls Try.prog 22 #[u] w fun e w' => (∃ p n c, e = .returned (.slice p n c) ∧ IntsIs w' (.slice p n c) (ports l)) ∧ Below w.heap.size w w' := by
  have hmax := H.max
  obtain ⟨p, n, c, rfl, hn⟩ := H.form
  have HN := Lib.hid hn
  have HR := Lib.hid H
  rw [← hn] at hmax hl
  clear hn H
  have HE : Hid (ports l = l.map (fun x => x.port)) := Lib.hid rfl
  generalize ports l = out at HE ⊢
  go_enter Try.func22, Try.ntmps22
  go_wp2_with fail
  go_loopw [3, 4] (fun x3 x4 wr => ∃ (k : Nat) (p2 : Option Addr) (n2 c2 : Nat), x3 = .slice p2 n2 c2 ∧ x4 = .int .i64 (k : Int) ∧ k ≤ n ∧ Hid (OwnInts w.heap.size wr (.slice p2 n2 c2) ((l.take k).map (fun x => x.port))) ∧ Hid (Below w.heap.size w wr)) (fun _ i _ => n - (intOf i).toNat)
  case atStart => exact ⟨0, none, 0, 0, rfl, rfl, Nat.zero_le _, Lib.hid (OwnInts.nil _ _), Lib.hid (Below.refl _ _)⟩
  case round =>
    obtain ⟨k, p2, n2, c2, rfl, rfl, hk, HO, HB⟩ := hrel
    by_cases hlt : k < n
    · have hji : (k : Int) < (n : Int) := by omega
      have HK : Hid (k + 1 ≤ n) := Lib.hid hlt
      have hkl : k < l.length := by rw [← HN.out]; exact hlt
      have HLEN : Hid (((l.take k).map (fun x => x.port)).length ≤ 100000) := Lib.hid (by rw [List.length_map, List.length_take]; omega)
      obtain ⟨b1, o1, rfl, hb1, hc1⟩ := (HR.out.call HB.out).some (by omega)
      have a0 := (hc1 k hkl).c0
      have HNX : Hid ((l.take (k + 1)).map (fun x => x.port) = (l.take k).map (fun x => x.port) ++ [l[k].port]) := Lib.hid (by rw [List.take_succ_eq_append_getElem hkl, List.map_append]; rfl)
      clear hc1
      generalize l[k] = x at *
      go_wp2_with (first
        | (at_builtin; refine wpList_append_ints rfl _ _ rfl w.heap.size (.slice p2 n2 c2) ((l.take k).map (fun x => x.port)) rfl (HO.out.alloc _) (.slice (some ⟨wr.heap.size, 0, none⟩) 1 1) [x.port] rfl (ints_one wr x.port) (by have := HLEN.out; simp only [List.length_singleton]; omega) (by have := HB.out.size; simp; omega) ?_; intro v4 w4 o4 g4 e4; clear e4; have B4 := Lib.hid ((HB.out.alloc HB.out.size (.cells #[.int .i64 x.port] 3)).grown g4 (by have := HB.out.size; simp; omega) HO.out.ge); have O4 := Lib.hid o4; obtain ⟨p4, n4, c4, rfl, -⟩ := O4.out.form; clear o4 g4))
      go_roundw
      case rel => exact ⟨k + 1, p4, n4, c4, rfl, by go_num, HK.out, by rw [HNX.out]; exact O4, B4⟩
      case measure => have := HK.out; simp [intOf]; omega
    · have hji : ¬ (k : Int) < (n : Int) := by omega
      have hE : (l.take k).map (fun x => x.port) = out := by rw [HE.out, List.take_of_length_le (by have := HN.out; omega)]
      rw [hE] at HO
      clear hE
      go_wp2_with fail
      go_ret
      exact ⟨⟨p2, n2, c2, rfl, HO.out.ints⟩, HB.out⟩

set_option maxHeartbeats 8000000 in
theorem rgrant_any (u : Value) (l : List Ho) (q : Ho) (most : Int) (hl : l.length ≤ 100000) (w : World) (H : HolesIs w u l) :
    Calls Try.prog 13 #[u, holeV q, .int .i64 most] w fun e w' => (∃ p n c, e = .returned (.tuple #[.slice p n c, .int .i64 (grant l q most).2]) ∧ HolesIs w' (.slice p n c) (grant l q most).1) ∧ Below w.heap.size w w' := by
  have hmax := H.max
  obtain ⟨p, n, c, rfl, hn⟩ := H.form
  have HN := Lib.hid hn
  have HR := Lib.hid H
  rw [← hn] at hmax hl
  clear hn H
  have HMy := Lib.hid (fun W => rmay_any q W)
  have C0 := Lib.hid (IsRow.made w 28 #[.int .i64 q.port, .int .i64 q.sess, .int .i64 q.ten, .int .u8 q.a, .int .u8 q.b, .int .u8 q.c, .int .u8 q.d, .int .u8 q.e, .int .u8 q.f, .int .u8 q.g, .int .u8 q.h, .int .i64 q.tport, .int .i64 q.dead])
  have B0 := Lib.hid ((Below.refl w.heap.size w).alloc (Nat.le_refl _) (.cells #[.int .i64 q.port, .int .i64 q.sess, .int .i64 q.ten, .int .u8 q.a, .int .u8 q.b, .int .u8 q.c, .int .u8 q.d, .int .u8 q.e, .int .u8 q.f, .int .u8 q.g, .int .u8 q.h, .int .i64 q.tport, .int .i64 q.dead] 28))
  cases hm : mayH q with
  | false =>
    have HV : Hid (grant l q most = ([], 1)) := Lib.hid (by unfold grant; rw [hm]; rfl)
    rw [hm] at HMy
    clear hm
    generalize grant l q most = z at *
    go_enter Try.func13, Try.ntmps13
    go_wp2_with (first
      | (go_at_call 11; refine (HMy.out _).mono ?_; rintro e w1 ⟨rfl, b1⟩; have B1 := Lib.hid (B0.out.trans (b1.mono B0.out.size)); have C1 := Lib.hid (C0.out.call b1); clear HMy b1))
    refine bodyPost_ret (v := .tuple #[.slice none 0 0, .int .i64 1]) (by simp [results, Try.results13, go_sem]) rfl ?_
    exact ⟨⟨none, 0, 0, by rw [HV.out], by rw [HV.out]; exact HolesIs.nil _⟩, B1.out⟩
  | true =>
    have HF : Hid ((has l q.port = true ∨ most ≤ (tens l q.ten : Int)) → grant l q most = ([], 4)) := Lib.hid (fun h => by
      rcases grant_ways l q most with ⟨h1, _⟩ | ⟨_, _, e⟩ | ⟨_, h2, h3, _⟩
      · rw [hm] at h1; cases h1
      · exact e
      · rcases h with h | h
        · rw [h2] at h; cases h
        · exact absurd h h3)
    have HG : Hid (has l q.port = false → ¬ most ≤ (tens l q.ten : Int) → grant l q most = (l ++ [q], 0)) := Lib.hid (fun h h' => by
      rcases grant_ways l q most with ⟨h1, _⟩ | ⟨_, h2, _⟩ | ⟨_, _, _, e⟩
      · rw [hm] at h1; cases h1
      · rcases h2 with h2 | h2
        · rw [h] at h2; cases h2
        · exact absurd h2 h'
      · exact e)
    rw [hm] at HMy
    clear hm
    generalize grant l q most = z at *
    go_enter Try.func13, Try.ntmps13
    go_wp2_with (first
      | (go_at_call 11; refine (HMy.out _).mono ?_; rintro e w1 ⟨rfl, b1⟩; have B1 := Lib.hid (B0.out.trans (b1.mono B0.out.size)); have C1 := Lib.hid (C0.out.call b1); clear HMy b1))
    go_loopw [9, 10] (fun xn xi wr => ∃ (k c0 : Nat), xn = .int .i64 (c0 : Int) ∧ xi = .int .i64 (k : Int) ∧ k ≤ n ∧ Hid (c0 = tens (l.take k) q.ten) ∧ Hid (has (l.take k) q.port = false) ∧ Hid (IsRow wr w.heap.size 28 #[.int .i64 q.port, .int .i64 q.sess, .int .i64 q.ten, .int .u8 q.a, .int .u8 q.b, .int .u8 q.c, .int .u8 q.d, .int .u8 q.e, .int .u8 q.f, .int .u8 q.g, .int .u8 q.h, .int .i64 q.tport, .int .i64 q.dead]) ∧ Hid (Below w.heap.size w wr)) (fun _ i _ => n - (intOf i).toNat)
    case atStart => exact ⟨0, 0, rfl, rfl, Nat.zero_le _, Lib.hid rfl, Lib.hid rfl, C1, B1⟩
    case round =>
      obtain ⟨k, c0, rfl, rfl, hk, HT0, HP, HC, HB⟩ := hrel
      have kl := HC.out.lt
      have hc9 : c0 ≤ 100000 := by have := HT0.out; have := tens_le (l.take k) q.ten; rw [List.length_take] at this; omega
      by_cases hlt : k < n
      · have hji : (k : Int) < (n : Int) := by omega
        have HK : Hid (k + 1 ≤ n) := Lib.hid hlt
        have hkl : k < l.length := by rw [← HN.out]; exact hlt
        obtain ⟨b1, o1, rfl, hb1, hc1⟩ := (HR.out.call HB.out).some (by omega)
        have a0 := (hc1 k hkl).c0
        have a2 := (hc1 k hkl).c2
        have q0 := HC.out.cell 0
        have q2 := HC.out.cell 2
        have HPN := Lib.hid (has_next (p := q.port) hkl)
        have HTN := Lib.hid (tens_next (t := q.ten) hkl)
        have HHit : Hid ((l[k].port == q.port) = true → has l q.port = true) := Lib.hid (fun h => has_hit hkl h)
        clear hc1
        generalize l[k] = x at *
        cases h1 : (x.port == q.port) with
        | true =>
          have HV := Lib.hid (HF.out (Or.inl (HHit.out h1)))
          clear HF HG HPN HTN HHit
          go_wp2_with fail
          go_quiet (fail)
          go_wp2_with fail
          refine bodyPost_ret (v := .tuple #[.slice none 0 0, .int .i64 4]) (by simp [results, Try.results13, go_sem]) rfl ?_
          exact ⟨⟨none, 0, 0, by rw [HV.out], by rw [HV.out]; exact HolesIs.nil _⟩, HB.out.trans ⟨rfl, rfl, rfl, Nat.le_refl _, fun _ _ => rfl⟩⟩
        | false =>
          have HP2 : Hid (has (l.take (k + 1)) q.port = false) := Lib.hid (by rw [HPN.out, HP.out, h1]; rfl)
          cases h2 : (x.ten == q.ten) with
          | true =>
            have HT2 : Hid (c0 + 1 = tens (l.take (k + 1)) q.ten) := Lib.hid (by rw [HTN.out, h2, HT0.out]; rfl)
            clear HPN HTN HHit
            go_wp2_with fail
            go_quiet (fail)
            go_wp2_with fail
            go_quiet (fail)
            go_wp2_with fail
            go_roundw
            case rel => exact ⟨k + 1, c0 + 1, by go_num, by go_num, HK.out, HT2, HP2, Lib.hid HC.out.drew.drew, Lib.hid ((HB.out.trans ⟨rfl, rfl, rfl, Nat.le_refl _, fun _ _ => rfl⟩).trans ⟨rfl, rfl, rfl, Nat.le_refl _, fun _ _ => rfl⟩)⟩
            case measure => have := HK.out; simp [intOf]; omega
          | false =>
            have HT2 : Hid (c0 = tens (l.take (k + 1)) q.ten) := Lib.hid (by rw [HTN.out, h2, HT0.out]; rfl)
            clear HPN HTN HHit
            go_wp2_with fail
            go_quiet (fail)
            go_wp2_with fail
            go_quiet (fail)
            go_wp2_with fail
            go_roundw
            case rel => exact ⟨k + 1, c0, by go_num, by go_num, HK.out, HT2, HP2, Lib.hid HC.out.drew.drew, Lib.hid ((HB.out.trans ⟨rfl, rfl, rfl, Nat.le_refl _, fun _ _ => rfl⟩).trans ⟨rfl, rfl, rfl, Nat.le_refl _, fun _ _ => rfl⟩)⟩
            case measure => have := HK.out; simp [intOf]; omega
      · have hji : ¬ (k : Int) < (n : Int) := by omega
        have hkE : l.take k = l := List.take_of_length_le (by have := HN.out; omega)
        rw [hkE] at HT0 HP
        clear hkE
        by_cases hq : most ≤ (c0 : Int)
        · have HV := Lib.hid (HF.out (Or.inr (by rw [← HT0.out]; exact hq)))
          clear HF HG
          go_wp2_with fail
          refine bodyPost_ret (v := .tuple #[.slice none 0 0, .int .i64 4]) (by simp [results, Try.results13, go_sem]) rfl ?_
          exact ⟨⟨none, 0, 0, by rw [HV.out], by rw [HV.out]; exact HolesIs.nil _⟩, HB.out⟩
        · have HV := Lib.hid (HG.out HP.out (by rw [← HT0.out]; omega))
          clear HF HG
          go_wp2_with fail
          have L1 : Hid (([] : List Ho).length + l.length ≤ 1000000) := Lib.hid (by have := HN.out; simp; omega)
          have L3 : Hid (([] ++ l).length + [q].length ≤ 1000000) := Lib.hid (by have := HN.out; simp; omega)
          have y0 := HC.out.cell 0; have y1 := HC.out.cell 1; have y2 := HC.out.cell 2; have y3 := HC.out.cell 3; have y4 := HC.out.cell 4; have y5 := HC.out.cell 5; have y6 := HC.out.cell 6; have y7 := HC.out.cell 7; have y8 := HC.out.cell 8; have y9 := HC.out.cell 9; have y10 := HC.out.cell 10; have y11 := HC.out.cell 11; have y12 := HC.out.cell 12; have yl := HC.out.lt
          go_region_law (first | (refine step_append_holes (by rfl) (.const (.slice none 0 0)) (.tmp 42) (by rfl) wr.heap.size (.slice none 0 0) [] (by simp [Act.eval, Act.put]) (OwnHoles.nil _ _) (.slice p n c) l (by simp [Act.eval, Act.put]) (HR.out.call HB.out.drew) L1.out (Nat.le_refl _) ?_; intro v5 w5 o5 g5 e5; clear e5; have B5 := Lib.hid (HB.out.drew.grown g5 HB.out.size (OwnHoles.nil w.heap.size wr).ge); have RC5 := Lib.hid (row_grown HC.out.drew g5 (fun e => by cases e)); have W5 := Lib.hid (show wr.heap.size ≤ w5.heap.size from g5.size); clear g5; have O5 := Lib.hid (show OwnHoles wr.heap.size w5 v5 ([] ++ l) from o5); obtain ⟨p5, n5, c5, rfl, -⟩ := O5.out.form; clear o5; have x0 := RC5.out.cell 0; have x1 := RC5.out.cell 1; have x2 := RC5.out.cell 2; have x3 := RC5.out.cell 3; have x4 := RC5.out.cell 4; have x5 := RC5.out.cell 5; have x6 := RC5.out.cell 6; have x7 := RC5.out.cell 7; have x8 := RC5.out.cell 8; have x9 := RC5.out.cell 9; have x10 := RC5.out.cell 10; have x11 := RC5.out.cell 11; have x12 := RC5.out.cell 12; have xl := RC5.out.lt) | (refine step_append_holes (by rfl) (.const (.slice none 0 0)) (.tmp 42) (by rfl) wr.heap.size (.slice none 0 0) [] (by simp [Act.eval, Act.put]) (OwnHoles.nil _ _) (.slice p n c) l (by simp [Act.eval, Act.put]) (HR.out.call (HB.out.drew.alloc HB.out.size (.cells #[.int .i64 q.port, .int .i64 q.sess, .int .i64 q.ten, .int .u8 q.a, .int .u8 q.b, .int .u8 q.c, .int .u8 q.d, .int .u8 q.e, .int .u8 q.f, .int .u8 q.g, .int .u8 q.h, .int .i64 q.tport, .int .i64 q.dead] 28))) L1.out (by simp) ?_; intro v5 w5 o5 g5 e5; clear e5; have B5 := Lib.hid ((HB.out.drew.alloc HB.out.size (.cells #[.int .i64 q.port, .int .i64 q.sess, .int .i64 q.ten, .int .u8 q.a, .int .u8 q.b, .int .u8 q.c, .int .u8 q.d, .int .u8 q.e, .int .u8 q.f, .int .u8 q.g, .int .u8 q.h, .int .i64 q.tport, .int .i64 q.dead] 28)).grown g5 (Nat.le_trans HB.out.size (by simp)) (OwnHoles.nil w.heap.size wr).ge); have RC5 := Lib.hid (row_grown (HC.out.drew.alloc (.cells #[.int .i64 q.port, .int .i64 q.sess, .int .i64 q.ten, .int .u8 q.a, .int .u8 q.b, .int .u8 q.c, .int .u8 q.d, .int .u8 q.e, .int .u8 q.f, .int .u8 q.g, .int .u8 q.h, .int .i64 q.tport, .int .i64 q.dead] 28)) g5 (fun e => by cases e)); have LT5 := Lib.hid (row_grown (IsRow.made wr.drew 28 #[.int .i64 q.port, .int .i64 q.sess, .int .i64 q.ten, .int .u8 q.a, .int .u8 q.b, .int .u8 q.c, .int .u8 q.d, .int .u8 q.e, .int .u8 q.f, .int .u8 q.g, .int .u8 q.h, .int .i64 q.tport, .int .i64 q.dead]) g5 (fun e => by cases e)); have W5 := Lib.hid (show wr.heap.size ≤ w5.heap.size from Nat.le_trans (by simp) g5.size); clear g5; have O5 := Lib.hid (show OwnHoles wr.heap.size w5 v5 ([] ++ l) from o5); obtain ⟨p5, n5, c5, rfl, -⟩ := O5.out.form; clear o5; have x0 := RC5.out.cell 0; have x1 := RC5.out.cell 1; have x2 := RC5.out.cell 2; have x3 := RC5.out.cell 3; have x4 := RC5.out.cell 4; have x5 := RC5.out.cell 5; have x6 := RC5.out.cell 6; have x7 := RC5.out.cell 7; have x8 := RC5.out.cell 8; have x9 := RC5.out.cell 9; have x10 := RC5.out.cell 10; have x11 := RC5.out.cell 11; have x12 := RC5.out.cell 12; have xl := RC5.out.lt) | (refine step_append_holes (by rfl) (.tmp 43) (.tmp 45) (by rfl) wr.heap.size (.slice p5 n5 c5) ([] ++ l) (by simp [Act.eval, Act.put]) (O5.out.alloc (.cells #[.int .i64 q.port, .int .i64 q.sess, .int .i64 q.ten, .int .u8 q.a, .int .u8 q.b, .int .u8 q.c, .int .u8 q.d, .int .u8 q.e, .int .u8 q.f, .int .u8 q.g, .int .u8 q.h, .int .i64 q.tport, .int .i64 q.dead] 28)) (.slice (some ⟨w5.heap.size, 0, none⟩) 1 1) [q] (by simp [Act.eval, Act.put]) (holes_one w5 q) L3.out (Nat.le_trans W5.out (by simp)) ?_; intro v6 w6 o6 g6 e6; clear e6; have B6 := Lib.hid ((B5.out.alloc B5.out.size (.cells #[.int .i64 q.port, .int .i64 q.sess, .int .i64 q.ten, .int .u8 q.a, .int .u8 q.b, .int .u8 q.c, .int .u8 q.d, .int .u8 q.e, .int .u8 q.f, .int .u8 q.g, .int .u8 q.h, .int .i64 q.tport, .int .i64 q.dead] 28)).grown g6 (Nat.le_trans B5.out.size (by simp)) (fun k hk => Nat.le_trans HB.out.size (O5.out.ge k hk))); clear g6; have O6 := Lib.hid (show OwnHoles wr.heap.size w6 v6 ([] ++ l ++ [q]) from o6); obtain ⟨p6, n6, c6, rfl, -⟩ := O6.out.form; clear o6) | (refine step_append_holes (by rfl) (.tmp 43) (.tmp 45) (by rfl) wr.heap.size (.slice p5 n5 c5) ([] ++ l) (by simp [Act.eval, Act.put]) O5.out (.slice (some ⟨wr.heap.size, 0, none⟩) 1 1) [q] (by simp [Act.eval, Act.put]) (holes_lit LT5.out) L3.out W5.out ?_; intro v6 w6 o6 g6 e6; clear e6; have B6 := Lib.hid (B5.out.grown g6 B5.out.size (fun k hk => Nat.le_trans HB.out.size (O5.out.ge k hk))); clear g6; have O6 := Lib.hid (show OwnHoles wr.heap.size w6 v6 ([] ++ l ++ [q]) from o6); obtain ⟨p6, n6, c6, rfl, -⟩ := O6.out.form; clear o6))
          all_goals (
            go_wp2_with fail
            refine bodyPost_ret (v := .tuple #[.slice p6 n6 c6, .int .i64 0]) (by simp [results, Try.results13, go_sem]) rfl ?_
            exact ⟨⟨p6, n6, c6, by rw [HV.out], by rw [HV.out]; exact O6.out.holes⟩, B6.out⟩)

#print axioms rports_any
#print axioms rgrant_any
end Go.Proofs.Ytaahghjllfkmaaa.Hl
