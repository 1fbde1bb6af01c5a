/- The library's package slices, of pinholes and numbers: Index, Contains, Equal, Clone, Grow of none, Concat of two (gen-hole-slices.py). -/
import Derived.Test.YtaahghjllfkmaaaHoleMatch
import Derived.Lib.SliceRun
import Derived.Lib.AppendZerosOnto
import Derived.WalkMore
import Derived.LoopTactic
namespace Go.Proofs.Ytaahghjllfkmaaa.Hl
open Go.Proofs.Ytaahghjllfkmaaa
open Go Go.ChangeShapes Go.WideShapes Go.ChangeAt Go.RowKit
set_option maxRecDepth 100000
set_option linter.unusedSimpArgs false
set_option linter.unusedVariables false

set_option maxHeartbeats 4000000 in
theorem index_any (u : Value) (l : List Int) (n0 : Int) (b : Bool) (hb : l.contains n0 = b) (w : World) (H : IntsIs w u l) :
    Calls Try.prog 40 #[u, .int .i64 n0] w fun e w' => (∃ r : Int, e = .returned (.int .i64 r) ∧ (b = true → 0 ≤ r) ∧ (b = false → ¬ 0 ≤ r)) ∧ Below w.heap.size w w' := by
  have hmax := H.max
  obtain ⟨p, n, c, rfl, hn⟩ := H.form
  have HN := Lib.hid hn
  have HR := Lib.hid H
  rw [← hn] at hmax
  unfold maxLen at hmax
  have HE : Hid ((∀ j (hj : j < l.length), (n0 == l[j]) = false) → b = false) := Lib.hid (fun h => by
    rw [← hb, ← Bool.not_eq_true, List.contains_iff_mem]
    intro hm
    obtain ⟨j, hj, e⟩ := List.getElem_of_mem hm
    have := h j hj
    rw [e, beq_self_eq_true] at this; cases this)
  have HA : Hid (∀ j (hj : j < l.length), (n0 == l[j]) = true → b = true) := Lib.hid (fun j hj h => by
    rw [← hb, List.contains_iff_mem, beq_iff_eq.1 h]; exact List.getElem_mem _)
  clear hn H hb
  go_enter Try.func40, Try.ntmps40
  go_wp2_with fail
  go_loopw [8] (fun x8 wr => ∃ (k : Nat), x8 = .int .i64 (k : Int) ∧ k ≤ n ∧ Hid (∀ j (hj : j < l.length), j < k → (n0 == l[j]) = false) ∧ Hid (Below w.heap.size w wr)) (fun i _ => n - (intOf i).toNat)
  case atStart => exact ⟨0, rfl, Nat.zero_le _, Lib.hid (fun j _ h => absurd h (Nat.not_lt_zero j)), Lib.hid (Below.refl _ _)⟩
  case round =>
    obtain ⟨k, rfl, hk, HO, HB⟩ := hrel
    by_cases hlt : k < n
    · have hji : (k : Int) < (n : Int) := by omega
      have HK : Hid (k + 1 ≤ n) := Lib.hid hlt
      have hkl : k < l.length := by rw [← HN.out]; exact hlt
      obtain ⟨b1, o1, rfl, hb1, hc1⟩ := (HR.out.call HB.out).plain (by omega)
      have a0 := hc1 k hkl
      have HAK := Lib.hid (HA.out k hkl)
      have HNK : Hid ((n0 == l[k]) = false → ∀ j (hj : j < l.length), j < k + 1 → (n0 == l[j]) = false) := Lib.hid (fun h j hj hjk => by
        by_cases e : j = k
        · subst e; exact h
        · exact HO.out j hj (by omega))
      clear hc1
      generalize l[k] = x at *
      cases h1 : (n0 == x) with
      | true =>
        have HV := Lib.hid (HAK.out h1)
        clear HAK HNK
        go_wp2_with fail
        go_ret
        exact ⟨⟨(k : Int), rfl, (fun _ => by omega), (fun h => by rw [HV.out] at h; cases h)⟩, HB.out⟩
      | false =>
        have HV := Lib.hid (HNK.out h1)
        clear HAK HNK
        go_wp2_with fail
        go_roundw
        case rel => exact ⟨k + 1, by go_num, HK.out, HV, HB⟩
        case measure => have := HK.out; simp [intOf]; omega
    · have hji : ¬ (k : Int) < (n : Int) := by omega
      have HV := Lib.hid (HE.out (fun j hj => HO.out j hj (by have := HN.out; omega)))
      go_wp2_with fail
      go_ret
      exact ⟨⟨-1, rfl, (fun h => by rw [HV.out] at h; cases h), (fun _ => by decide)⟩, HB.out⟩

theorem contains_any (u : Value) (l : List Int) (n0 : Int) (b : Bool) (hb : l.contains n0 = b) (w : World) (H : IntsIs w u l) :
    Calls Try.prog 30 #[u, .int .i64 n0] w fun e w' => e = .returned (.bool b) ∧ Below w.heap.size w w' := by
  have HC := Lib.hid (index_any u l n0 b hb w H)
  obtain ⟨p, n, c, rfl, -⟩ := H.form
  clear H hb
  cases b with
  | true =>
    go_enter Try.func30, Try.ntmps30
    go_wp2_with (go_at_call 40; refine HC.out.mono ?_; rintro e w1 ⟨⟨r, rfl, h1, -⟩, b1⟩; have h2 := h1 rfl; have B1 := Lib.hid b1; clear HC h1 b1)
    go_ret
    exact ⟨rfl, B1.out⟩
  | false =>
    go_enter Try.func30, Try.ntmps30
    go_wp2_with (go_at_call 40; refine HC.out.mono ?_; rintro e w1 ⟨⟨r, rfl, -, h1⟩, b1⟩; have h2 := h1 rfl; have B1 := Lib.hid b1; clear HC h1 b1)
    go_ret
    exact ⟨by first | rfl | (simp; omega), B1.out⟩

set_option maxHeartbeats 4000000 in
theorem clone_holes (u : Value) (l : List Ho) (hl : l.length ≤ 100000) (w : World) (H : HolesIs w u l) :
    Calls Try.prog 34 #[u] w fun e w' => (∃ p n c, e = .returned (.slice p n c) ∧ OwnHoles w.heap.size w' (.slice p n c) l) ∧ Below w.heap.size w w' := by
  have q : ∀ (w : World) (a : Option Addr) (n c n' c' : Nat), (binOp .eql 22 (.slice a n c) (.slice none n' c')).run Try.prog w = .ok (.bool a.isNone) w := fun w a n c n' c' => Lib.run_eql_slice_nil w _ _ a n c n' c' Try.underlying22
  have HR := Lib.hid H
  have HLL := Lib.hid hl
  obtain ⟨p, n, c, rfl, hn⟩ := H.form
  clear H hl hn
  cases p with
  | none =>
    go_enter Try.func34, Try.ntmps34
    go_wp2_with fail
    go_ret
    have h := HR.out
    rcases h with ⟨e, rfl⟩ | ⟨a, c', e, _⟩
    · exact ⟨⟨none, 0, 0, rfl, OwnHoles.nil _ _⟩, Below.refl _ _⟩
    · cases e
  | some ad =>
    go_enter Try.func34, Try.ntmps34
    go_wp2_with (at_builtin; refine wpList_append_holes rfl _ _ rfl w.heap.size (.slice (some ⟨w.heap.size, 0, none⟩) 0 0) [] rfl (World.ownsRow_made w #[] 0 (Nat.le_refl _) (Nat.zero_le _) rfl) (.slice (some ad) n c) l rfl (HR.out.alloc _) ?qc1 ?qc2 ?_)
    case qc1 => have := HLL.out; simp; omega
    case qc2 => simp
    intro v' w1 hown hgrow _
    have HB : Below w.heap.size w w1 := ((Below.refl _ w).alloc (Nat.le_refl _) _).grown hgrow (by simp) (by intro k hk; simp [Value.ownBlock] at hk; omega)
    obtain ⟨p', n', c', rfl, -⟩ := hown.form
    go_wp2_with fail
    go_ret
    exact ⟨⟨p', n', c', rfl, hown⟩, HB⟩

set_option maxHeartbeats 2000000 in
/-- room for n pinholes -/
theorem grow_holes (n : Nat) (hn : n ≤ 200000) (w : World) :
    Calls Try.prog 41 #[.slice none 0 0, .int .i64 (n : Int)] w fun e w' => (∃ p c, e = .returned (.slice p 0 c) ∧ OwnHoles w.heap.size w' (.slice p 0 c) []) ∧ Below w.heap.size w w' := by
  by_cases h0 : 0 < n
  · obtain ⟨i0, hi, hz0, hz1, hz2⟩ := info_parts info_hole
    have h1 : ¬ ((n : Int) < 0) := by omega
    have h4 : (n : Int) > 0 := by omega
    have hold : (Builtin.firstCells i0.size 0 (.slice none 0 0)).run Try.prog w.drew = .ok ([] : List Value).toArray w.drew := run_firstCells_none w.drew i0.size 0 0 0
    have hr : ∀ ty, (Builtin.append_ #[22, 3] ty #[.slice none 0 0, .int .i64 (n : Int)]).run Try.prog w =
        .ok (.slice (some ⟨w.heap.size, 0, none⟩) (0 + n) (grownCap w (0 + n) 0 28)) (w.drew.alloc (.cells (([] : List Value).toArray ++ Builtin.zeroCells (Value.agg #[.int .i64 0, .int .i64 0, .int .i64 0, .int .u8 0, .int .u8 0, .int .u8 0, .int .u8 0, .int .u8 0, .int .u8 0, .int .u8 0, .int .u8 0, .int .i64 0, .int .i64 0]).cells n ++ Builtin.zeroCells (Value.agg #[.int .i64 0, .int .i64 0, .int .i64 0, .int .u8 0, .int .u8 0, .int .u8 0, .int .u8 0, .int .u8 0, .int .u8 0, .int .u8 0, .int .u8 0, .int .i64 0, .int .i64 0]).cells (grownCap w (0 + n) 0 28 - (0 + n))) 28)) := fun ty =>
      Lib.run_append_grow_zeros w 22 3 ty 28 i0 (.agg #[.int .i64 0, .int .i64 0, .int .i64 0, .int .u8 0, .int .u8 0, .int .u8 0, .int .u8 0, .int .u8 0, .int .u8 0, .int .u8 0, .int .u8 0, .int .i64 0, .int .i64 0]) .i64 .i64 Try.underlying22 Try.underlying3 hi hz0 none 0 0 [] hold n h0 (by rw [hz1]; decide) (by omega) (by omega) (by rw [hz2]; omega)
        (growslice_fits (by omega) (by rw [hz2]; omega))
    have hG := grownCap_ge w (0 + n) 0 28
    have hM := grownCap_le_maxLen w (0 + n) 0 28 (by unfold maxLen; omega)
    generalize grownCap w (0 + n) 0 28 = G at hr hG hM
    have hG63 : G ≤ 9223372036854775807 := by unfold maxLen at hM; omega
    obtain ⟨cs, hcs⟩ : ∃ cs, cs = ([] : List Value).toArray ++ Builtin.zeroCells (Value.agg #[.int .i64 0, .int .i64 0, .int .i64 0, .int .u8 0, .int .u8 0, .int .u8 0, .int .u8 0, .int .u8 0, .int .u8 0, .int .u8 0, .int .u8 0, .int .i64 0, .int .i64 0]).cells n ++ Builtin.zeroCells (Value.agg #[.int .i64 0, .int .i64 0, .int .i64 0, .int .u8 0, .int .u8 0, .int .u8 0, .int .u8 0, .int .u8 0, .int .u8 0, .int .u8 0, .int .u8 0, .int .i64 0, .int .i64 0]).cells (G - (0 + n)) := ⟨_, rfl⟩
    rw [← hcs] at hr
    have HS : Hid (cs.size = G * 13) := Lib.hid (by rw [hcs, Array.size_append, Array.size_append, size_zeroCells, size_zeroCells]; simp [Value.cells]; omega)
    have HM := Lib.hid hM
    obtain ⟨m, hm⟩ : ∃ m, m = 0 + n := ⟨_, rfl⟩
    rw [← hm] at hr
    clear hcs hold hm hM
    go_enter Try.func41, Try.ntmps41
    go_wp2_with (at_builtin; refine Lib.wpList_append_run _ rfl _ _ _ _ rfl _ _ rfl rfl _ _ (hr _) ?_)
    go_ret
    refine ⟨⟨_, _, rfl, ?_⟩, ?_⟩
    · exact World.ownsRow_made w.drew cs G (by show w.heap.size ≤ w.heap.size; omega) HM.out HS.out
    · exact ((Below.refl _ w).drew).alloc (by show w.heap.size ≤ w.heap.size; omega) _
  · obtain rfl : n = 0 := by omega
    go_enter Try.func41, Try.ntmps41
    go_wp2_with fail
    go_ret
    exact ⟨⟨none, 0, rfl, OwnHoles.nil _ _⟩, Below.refl _ _⟩

set_option maxHeartbeats 8000000 in
theorem concat_holes (u v : Value) (l m : List Ho) (hl : l.length ≤ 100000) (hm : m.length ≤ 100000) (b : Nat) (w : World) (Y : HolesIs w u l) (Y' : HolesIs w v m) (hb0 : w.cell? ⟨b, 0, none⟩ = some u) (hb1 : w.cell? ⟨b, 1, none⟩ = some v) :
    Calls Try.prog 31 #[.slice (some ⟨b, 0, none⟩) 2 2] w fun e w' => (∃ p n c, e = .returned (.slice p n c) ∧ OwnHoles w.heap.size w' (.slice p n c) (l ++ m)) ∧ Below w.heap.size w w' := by
  have lb := World.block_lt_of_cell? w _ hb0
  have Y0 := Lib.hid Y
  have Y1 := Lib.hid Y'
  obtain ⟨p, n, c, rfl, hn⟩ := Y.form
  obtain ⟨p', n', c', rfl, hn'⟩ := Y'.form
  have HG := Lib.hid (fun W => grow_holes (n + n') (by omega) W)
  rw [Int.natCast_add] at HG
  have hn1 : n ≤ 100000 := by omega
  have hn2 : n' ≤ 100000 := by omega
  have HN := Lib.hid hn
  have HN' := Lib.hid hn'
  have L1 : Hid (([] : List Ho).length + l.length ≤ 1000000) := Lib.hid (by simp; omega)
  have L2 : Hid (([] ++ l).length + m.length ≤ 1000000) := Lib.hid (by simp; omega)
  clear Y Y' hn hn' hl hm
  go_enter Try.func31, Try.ntmps31
  go_wp2_with fail
  refine wp_loop_rounds 3 ?_
  rw [rounds_succ]
  go_wp2_with fail
  rw [rounds_succ]
  go_wp2_with fail
  rw [rounds_succ]
  go_wp2_with (go_at_call 41; refine (HG.out _).mono ?_; rintro e w1 ⟨⟨G, cap, rfl, hown⟩, b1⟩; have HO := Lib.hid hown; have B1 := Lib.hid b1; have hb0' : w1.cell? ⟨b, 0, none⟩ = some (.slice p n c) := (b1.cell (p := ⟨b, 0, none⟩) lb).trans hb0; have hb1' : w1.cell? ⟨b, 1, none⟩ = some (.slice p' n' c') := (b1.cell (p := ⟨b, 1, none⟩) lb).trans hb1; clear hown b1 HG)
  refine wp_loop_rounds 3 ?_
  rw [rounds_succ]
  go_wp2_with (at_builtin; refine wpList_append_holes rfl _ _ rfl w.heap.size (.slice G 0 cap) [] rfl HO.out (.slice p n c) l rfl (Y0.out.call B1.out) L1.out B1.out.size ?_; intro v2 w2 o2 g2 e2; clear e2; have B2 := Lib.hid (B1.out.grown g2 B1.out.size HO.out.ge); have O2 := Lib.hid (show OwnHoles w.heap.size w2 v2 ([] ++ l) from o2); obtain ⟨p2, n2, c2, rfl, -⟩ := O2.out.form; have hb0'' : w2.cell? ⟨b, 0, none⟩ = some (.slice p n c) := (B2.out.cell (p := ⟨b, 0, none⟩) lb).trans hb0; have hb1'' : w2.cell? ⟨b, 1, none⟩ = some (.slice p' n' c') := (B2.out.cell (p := ⟨b, 1, none⟩) lb).trans hb1; clear o2 g2 hb0' hb1' HO)
  rw [rounds_succ]
  go_wp2_with (at_builtin; refine wpList_append_holes rfl _ _ rfl w.heap.size (.slice p2 n2 c2) ([] ++ l) rfl O2.out (.slice p' n' c') m rfl (Y1.out.call B2.out) L2.out B2.out.size ?_; intro v3 w3 o3 g3 e3; clear e3; have B3 := Lib.hid (B2.out.grown g3 B2.out.size O2.out.ge); have O3 := Lib.hid (show OwnHoles w.heap.size w3 v3 ([] ++ l ++ m) from o3); obtain ⟨p3, n3, c3, rfl, -⟩ := O3.out.form; clear o3 g3 hb0'' hb1'' O2)
  rw [rounds_succ]
  go_wp2_with fail
  go_ret
  exact ⟨⟨_, _, _, rfl, O3.out⟩, B3.out⟩

set_option maxHeartbeats 4000000 in
theorem equal_any (u v : Value) (l m : List Ho) (w : World) (H : HolesIs w u l) (H' : HolesIs w v m) :
    Calls Try.prog 39 #[u, v] w fun e w' => e = .returned (.bool (sameL l m)) ∧ Below w.heap.size w w' := by
  have hmax := H.max
  have hmax' := H'.max
  obtain ⟨p, n, c, rfl, hn⟩ := H.form
  obtain ⟨p', n', c', rfl, hn'⟩ := H'.form
  have HN := Lib.hid hn
  have HN' := Lib.hid hn'
  have HR := Lib.hid H
  have HR' := Lib.hid H'
  rw [← hn] at hmax
  rw [← hn'] at hmax'
  clear hn hn' H H'
  by_cases q : n = n'
  · subst q
    have g : ((n : Int) != (n : Int)) = false := by simp
    have HT : Hid ((∀ k (h : k < l.length) (h' : k < m.length), l[k] = m[k]) → sameL l m = true) := Lib.hid (fun h => sameL_all (by rw [← HN.out, ← HN'.out]) h)
    have HX : Hid (∀ k (h : k < l.length) (h' : k < m.length), l[k] ≠ m[k] → sameL l m = false) := Lib.hid (fun k h h' hn => sameL_no h h' hn)
    generalize sameL l m = s at *
    go_enter Try.func39, Try.ntmps39
    go_wp2_with fail
    go_loopw [13] (fun x5 wr => ∃ (k : Nat), x5 = .int .i64 (k : Int) ∧ k ≤ n ∧ Hid (∀ j (h : j < l.length) (h' : j < m.length), j < k → l[j] = m[j]) ∧ Hid (Below w.heap.size w wr)) (fun i _ => n - (intOf i).toNat)
    case atStart => exact ⟨0, rfl, Nat.zero_le _, Lib.hid (fun j _ _ hj => absurd hj (Nat.not_lt_zero j)), Lib.hid (Below.refl _ _)⟩
    case round =>
      obtain ⟨k, rfl, hk, HO, HB⟩ := hrel
      by_cases hlt : k < n
      · have hji : (k : Int) < (n : Int) := by omega
        have HK : Hid (k + 1 ≤ n) := Lib.hid hlt
        have hkl : k < l.length := by rw [← HN.out]; exact hlt
        have hkm : k < m.length := by rw [← HN'.out]; exact hlt
        obtain ⟨b1, o1, rfl, hb1, hc1⟩ := (HR.out.call HB.out).some (by omega)
        obtain ⟨b2, o2, rfl, hb2, hc2⟩ := (HR'.out.call HB.out).some (by omega)
        have T1 := hc1 k hkl
        have T2 := hc2 k hkm
        have a0 := T1.c0; have a1 := T1.c1; have a2 := T1.c2; have a3 := T1.c3; have a4 := T1.c4; have a5 := T1.c5; have a6 := T1.c6; have a7 := T1.c7; have a8 := T1.c8; have a9 := T1.c9; have a10 := T1.c10; have a11 := T1.c11; have a12 := T1.c12
        have d0 := T2.c0; have d1 := T2.c1; have d2 := T2.c2; have d3 := T2.c3; have d4 := T2.c4; have d5 := T2.c5; have d6 := T2.c6; have d7 := T2.c7; have d8 := T2.c8; have d9 := T2.c9; have d10 := T2.c10; have d11 := T2.c11; have d12 := T2.c12
        have HXK := Lib.hid (HX.out k hkl hkm)
        have HNK : Hid (l[k] = m[k] → ∀ j (h : j < l.length) (h' : j < m.length), j < k + 1 → l[j] = m[j]) := Lib.hid (fun h j hj hj' hjk => by
          by_cases e : j = k
          · subst e; exact h
          · exact HO.out j hj hj' (by omega))
        clear T1 T2 hc1 hc2
        generalize l[k] = x at *
        generalize m[k] = y at *
        have heq := equal_holes x y
        cases hq : eqH x y with
        | true =>
          have HV := Lib.hid (HNK.out (eqH_iff.1 hq))
          rw [hq] at heq
          clear hq HXK HNK
          go_wp2_with fail
          go_quiet (fail)
          go_wp2_with fail
          go_roundw
          case rel => exact ⟨k + 1, by go_num, HK.out, HV, Lib.hid (HB.out.trans ⟨rfl, rfl, rfl, Nat.le_refl _, fun _ _ => rfl⟩)⟩
          case measure => have := HK.out; simp [intOf]; omega
        | false =>
          have HV := Lib.hid (HXK.out (fun e => by rw [eqH_iff.2 e] at hq; cases hq))
          rw [hq] at heq
          clear hq HXK HNK
          go_wp2_with fail
          go_quiet (fail)
          go_wp2_with fail
          go_ret
          exact ⟨by rw [HV.out] <;> rfl, HB.out.trans ⟨rfl, rfl, rfl, Nat.le_refl _, fun _ _ => rfl⟩⟩
      · have hji : ¬ (k : Int) < (n : Int) := by omega
        have HV := Lib.hid (HT.out (fun j h h' => HO.out j h h' (by have := HN.out; omega)))
        go_wp2_with fail
        go_ret
        exact ⟨by rw [HV.out] <;> rfl, HB.out⟩
  · have g : ((n : Int) != (n' : Int)) = true := by rw [bne_iff_ne]; omega
    have HV := Lib.hid (sameL_len (l := l) (m := m) (by rw [← HN.out, ← HN'.out]; exact q))
    generalize sameL l m = s at *
    go_enter Try.func39, Try.ntmps39
    go_wp2_with fail
    go_ret
    exact ⟨by rw [HV.out] <;> rfl, Below.refl _ _⟩


#print axioms contains_any
#print axioms clone_holes
#print axioms concat_holes
#print axioms equal_any
end Go.Proofs.Ytaahghjllfkmaaa.Hl
