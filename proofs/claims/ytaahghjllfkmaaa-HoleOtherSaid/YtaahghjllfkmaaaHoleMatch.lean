/- The document's answer of layer 16: one less (gen-hole-ref.py). -/
import Derived.Test.YtaahghjllfkmaaaHoleGrant
namespace Go.Proofs.Ytaahghjllfkmaaa.Hl
open Go.Proofs.Ytaahghjllfkmaaa
open Go Go.ChangeShapes Go.WideShapes Go.ChangeAt Go.RowKit
set_option maxRecDepth 100000
set_option linter.unusedSimpArgs false
set_option linter.unusedVariables false
theorem own_past {base : Nat} {w w' : World} {v : Value} {l : List Ho} (h : OwnHoles base w v l) (hk : ∀ b, base ≤ b → w'.heap[b]? = w.heap[b]?) : OwnHoles base w' v l := by
  refine ⟨h.1, ?_⟩
  rcases h.2 with h' | ⟨g, cap, cur, rfl, hg, hh, hr⟩
  · exact Or.inl h'
  · exact Or.inr ⟨g, cap, cur, rfl, hg, by rw [hk g hg]; exact hh, hr⟩
/-- a pinhole is put into a block of one -/
theorem put_hole {W : World} {b : Nat} {T : TypeId} {u0 u1 u2 u3 u4 u5 u6 u7 u8 u9 u10 u11 u12 v0 v1 v2 v3 v4 v5 v6 v7 v8 v9 v10 v11 v12 : Value} (h : IsRow W b T #[v0, v1, v2, v3, v4, v5, v6, v7, v8, v9, v10, v11, v12]) : IsRow (World.setCell (World.setCell (World.setCell (World.setCell (World.setCell (World.setCell (World.setCell (World.setCell (World.setCell (World.setCell (World.setCell (World.setCell (World.setCell W ⟨b, 0, none⟩ u0) ⟨b, 1, none⟩ u1) ⟨b, 2, none⟩ u2) ⟨b, 3, none⟩ u3) ⟨b, 4, none⟩ u4) ⟨b, 5, none⟩ u5) ⟨b, 6, none⟩ u6) ⟨b, 7, none⟩ u7) ⟨b, 8, none⟩ u8) ⟨b, 9, none⟩ u9) ⟨b, 10, none⟩ u10) ⟨b, 11, none⟩ u11) ⟨b, 12, none⟩ u12) b T #[u0, u1, u2, u3, u4, u5, u6, u7, u8, u9, u10, u11, u12] := by
  have h0 := h.set 0 u0
  rw [show (#[v0, v1, v2, v3, v4, v5, v6, v7, v8, v9, v10, v11, v12] : Array Value).setIfInBounds 0 u0 = #[u0, v1, v2, v3, v4, v5, v6, v7, v8, v9, v10, v11, v12] from rfl] at h0
  have h1 := h0.set 1 u1
  rw [show (#[u0, v1, v2, v3, v4, v5, v6, v7, v8, v9, v10, v11, v12] : Array Value).setIfInBounds 1 u1 = #[u0, u1, v2, v3, v4, v5, v6, v7, v8, v9, v10, v11, v12] from rfl] at h1
  have h2 := h1.set 2 u2
  rw [show (#[u0, u1, v2, v3, v4, v5, v6, v7, v8, v9, v10, v11, v12] : Array Value).setIfInBounds 2 u2 = #[u0, u1, u2, v3, v4, v5, v6, v7, v8, v9, v10, v11, v12] from rfl] at h2
  have h3 := h2.set 3 u3
  rw [show (#[u0, u1, u2, v3, v4, v5, v6, v7, v8, v9, v10, v11, v12] : Array Value).setIfInBounds 3 u3 = #[u0, u1, u2, u3, v4, v5, v6, v7, v8, v9, v10, v11, v12] from rfl] at h3
  have h4 := h3.set 4 u4
  rw [show (#[u0, u1, u2, u3, v4, v5, v6, v7, v8, v9, v10, v11, v12] : Array Value).setIfInBounds 4 u4 = #[u0, u1, u2, u3, u4, v5, v6, v7, v8, v9, v10, v11, v12] from rfl] at h4
  have h5 := h4.set 5 u5
  rw [show (#[u0, u1, u2, u3, u4, v5, v6, v7, v8, v9, v10, v11, v12] : Array Value).setIfInBounds 5 u5 = #[u0, u1, u2, u3, u4, u5, v6, v7, v8, v9, v10, v11, v12] from rfl] at h5
  have h6 := h5.set 6 u6
  rw [show (#[u0, u1, u2, u3, u4, u5, v6, v7, v8, v9, v10, v11, v12] : Array Value).setIfInBounds 6 u6 = #[u0, u1, u2, u3, u4, u5, u6, v7, v8, v9, v10, v11, v12] from rfl] at h6
  have h7 := h6.set 7 u7
  rw [show (#[u0, u1, u2, u3, u4, u5, u6, v7, v8, v9, v10, v11, v12] : Array Value).setIfInBounds 7 u7 = #[u0, u1, u2, u3, u4, u5, u6, u7, v8, v9, v10, v11, v12] from rfl] at h7
  have h8 := h7.set 8 u8
  rw [show (#[u0, u1, u2, u3, u4, u5, u6, u7, v8, v9, v10, v11, v12] : Array Value).setIfInBounds 8 u8 = #[u0, u1, u2, u3, u4, u5, u6, u7, u8, v9, v10, v11, v12] from rfl] at h8
  have h9 := h8.set 9 u9
  rw [show (#[u0, u1, u2, u3, u4, u5, u6, u7, u8, v9, v10, v11, v12] : Array Value).setIfInBounds 9 u9 = #[u0, u1, u2, u3, u4, u5, u6, u7, u8, u9, v10, v11, v12] from rfl] at h9
  have h10 := h9.set 10 u10
  rw [show (#[u0, u1, u2, u3, u4, u5, u6, u7, u8, u9, v10, v11, v12] : Array Value).setIfInBounds 10 u10 = #[u0, u1, u2, u3, u4, u5, u6, u7, u8, u9, u10, v11, v12] from rfl] at h10
  have h11 := h10.set 11 u11
  rw [show (#[u0, u1, u2, u3, u4, u5, u6, u7, u8, u9, u10, v11, v12] : Array Value).setIfInBounds 11 u11 = #[u0, u1, u2, u3, u4, u5, u6, u7, u8, u9, u10, u11, v12] from rfl] at h11
  have h12 := h11.set 12 u12
  rw [show (#[u0, u1, u2, u3, u4, u5, u6, u7, u8, u9, u10, u11, v12] : Array Value).setIfInBounds 12 u12 = #[u0, u1, u2, u3, u4, u5, u6, u7, u8, u9, u10, u11, u12] from rfl] at h12
  exact h12
theorem put_below {B : Nat} {W0 W : World} {b : Nat} {u0 u1 u2 u3 u4 u5 u6 u7 u8 u9 u10 u11 u12 : Value} (h : Below B W0 W) (g : B ≤ b) : Below B W0 (World.setCell (World.setCell (World.setCell (World.setCell (World.setCell (World.setCell (World.setCell (World.setCell (World.setCell (World.setCell (World.setCell (World.setCell (World.setCell W ⟨b, 0, none⟩ u0) ⟨b, 1, none⟩ u1) ⟨b, 2, none⟩ u2) ⟨b, 3, none⟩ u3) ⟨b, 4, none⟩ u4) ⟨b, 5, none⟩ u5) ⟨b, 6, none⟩ u6) ⟨b, 7, none⟩ u7) ⟨b, 8, none⟩ u8) ⟨b, 9, none⟩ u9) ⟨b, 10, none⟩ u10) ⟨b, 11, none⟩ u11) ⟨b, 12, none⟩ u12) := by
  have h0 := h.setCell (p := ⟨b, 0, none⟩) g u0
  have h1 := h0.setCell (p := ⟨b, 1, none⟩) g u1
  have h2 := h1.setCell (p := ⟨b, 2, none⟩) g u2
  have h3 := h2.setCell (p := ⟨b, 3, none⟩) g u3
  have h4 := h3.setCell (p := ⟨b, 4, none⟩) g u4
  have h5 := h4.setCell (p := ⟨b, 5, none⟩) g u5
  have h6 := h5.setCell (p := ⟨b, 6, none⟩) g u6
  have h7 := h6.setCell (p := ⟨b, 7, none⟩) g u7
  have h8 := h7.setCell (p := ⟨b, 8, none⟩) g u8
  have h9 := h8.setCell (p := ⟨b, 9, none⟩) g u9
  have h10 := h9.setCell (p := ⟨b, 10, none⟩) g u10
  have h11 := h10.setCell (p := ⟨b, 11, none⟩) g u11
  have h12 := h11.setCell (p := ⟨b, 12, none⟩) g u12
  exact h12
theorem put_past {W : World} {b g : Nat} {u0 u1 u2 u3 u4 u5 u6 u7 u8 u9 u10 u11 u12 : Value} (h : g ≠ b) : (World.setCell (World.setCell (World.setCell (World.setCell (World.setCell (World.setCell (World.setCell (World.setCell (World.setCell (World.setCell (World.setCell (World.setCell (World.setCell W ⟨b, 0, none⟩ u0) ⟨b, 1, none⟩ u1) ⟨b, 2, none⟩ u2) ⟨b, 3, none⟩ u3) ⟨b, 4, none⟩ u4) ⟨b, 5, none⟩ u5) ⟨b, 6, none⟩ u6) ⟨b, 7, none⟩ u7) ⟨b, 8, none⟩ u8) ⟨b, 9, none⟩ u9) ⟨b, 10, none⟩ u10) ⟨b, 11, none⟩ u11) ⟨b, 12, none⟩ u12).heap[g]? = W.heap[g]? := by
  iterate 13 rw [Below.heap_setCell _ _ _ _ h]

set_option maxHeartbeats 8000000 in
theorem rmatch_any (u : Value) (l : List Ho) (port : Int) (q : Pe) (now : Int) (hl : l.length ≤ 100000) (w : World) (H : HolesIs w u l) :
    Calls Try.prog 16 #[u, .int .i64 port, peV q, .int .i64 now] w fun e w' => (∃ p n c, e = .returned (.tuple #[.slice p n c, holeV (matchL l port q now).2.1, .bool (matchL l port q now).2.2]) ∧ HolesIs w' (.slice p n c) (matchL l port q now).1) ∧ Below w.heap.size w w' := by
  have hmax := H.max
  obtain ⟨p, n, c, rfl, hn⟩ := H.form
  have HN := Lib.hid hn
  have HR := Lib.hid H
  rw [← hn] at hmax hl
  clear hn H
  have C0 := Lib.hid (IsRow.made w 24 #[.int .u8 q.a, .int .u8 q.b, .int .u8 q.c, .int .u8 q.d])
  have B0 := Lib.hid (((Below.refl w.heap.size w).alloc (Nat.le_refl _) (.cells #[.int .u8 q.a, .int .u8 q.b, .int .u8 q.c, .int .u8 q.d] 24)).alloc (by simp) (.cells #[.int .i64 0, .int .i64 0, .int .i64 0, .int .u8 0, .int .u8 0, .int .u8 0, .int .u8 0, .int .u8 0, .int .u8 0, .int .u8 0, .int .u8 0, .int .i64 0, .int .i64 0] 28))
  have C1 := Lib.hid (C0.out.alloc (.cells #[.int .i64 0, .int .i64 0, .int .i64 0, .int .u8 0, .int .u8 0, .int .u8 0, .int .u8 0, .int .u8 0, .int .u8 0, .int .u8 0, .int .u8 0, .int .i64 0, .int .i64 0] 28))
  have Z1 := Lib.hid (show IsRow ((w.alloc (.cells #[.int .u8 q.a, .int .u8 q.b, .int .u8 q.c, .int .u8 q.d] 24)).alloc (.cells #[.int .i64 0, .int .i64 0, .int .i64 0, .int .u8 0, .int .u8 0, .int .u8 0, .int .u8 0, .int .u8 0, .int .u8 0, .int .u8 0, .int .u8 0, .int .i64 0, .int .i64 0] 28)) (w.heap.size + 1) 28 #[.int .i64 0, .int .i64 0, .int .i64 0, .int .u8 0, .int .u8 0, .int .u8 0, .int .u8 0, .int .u8 0, .int .u8 0, .int .u8 0, .int .u8 0, .int .i64 0, .int .i64 0] from by have h := IsRow.made (w.alloc (.cells #[.int .u8 q.a, .int .u8 q.b, .int .u8 q.c, .int .u8 q.d] 24)) 28 #[.int .i64 0, .int .i64 0, .int .i64 0, .int .u8 0, .int .u8 0, .int .u8 0, .int .u8 0, .int .u8 0, .int .u8 0, .int .u8 0, .int .u8 0, .int .i64 0, .int .i64 0]; rw [World.size_alloc] at h; exact h)
  have HE : Hid ((∀ j (hj : j < l.length), hit port q now l[j] = false) → matchL l port q now = (l, zeroH, false)) := Lib.hid (fun h => match_none (fun x hx => by obtain ⟨j, hj, rfl⟩ := List.getElem_of_mem hx; exact h j hj))
  have HA : Hid (∀ i (hi : i < l.length), hit port q now l[i] = true → (∀ j (hj : j < l.length), j < i → hit port q now l[j] = false) → matchL l port q now = (l.take i ++ l.drop (i + 1), l[i], true)) := Lib.hid (fun i hi h hn => match_at hi h hn)
  generalize matchL l port q now = z at *
  go_enter Try.func16, Try.ntmps16
  go_wp2_with fail
  go_loopw [11] (fun xi wr => ∃ (k : Nat), xi = .int .i64 (k : Int) ∧ k ≤ n ∧ Hid (∀ j (hj : j < l.length), j < k → hit port q now l[j] = false) ∧ Hid (IsRow wr w.heap.size 24 #[.int .u8 q.a, .int .u8 q.b, .int .u8 q.c, .int .u8 q.d]) ∧ Hid (IsRow wr (w.heap.size + 1) 28 #[.int .i64 0, .int .i64 0, .int .i64 0, .int .u8 0, .int .u8 0, .int .u8 0, .int .u8 0, .int .u8 0, .int .u8 0, .int .u8 0, .int .u8 0, .int .i64 0, .int .i64 0]) ∧ Hid (Below w.heap.size w wr)) (fun i _ => n - (intOf i).toNat)
  case atStart => exact ⟨0, rfl, Nat.zero_le _, Lib.hid (fun j _ h => absurd h (Nat.not_lt_zero j)), C1, Z1, B0⟩
  case round =>
    obtain ⟨k, rfl, hk, HO, HC, HZ, HB⟩ := hrel
    have GE : Hid (w.heap.size ≤ w.heap.size + 1) := Lib.hid (Nat.le_succ _)
    by_cases hlt : k < n
    · have hji : (k : Int) < (n : Int) := by omega
      have HK : Hid (k + 1 ≤ n) := Lib.hid hlt
      have hkl : k < l.length := by rw [← HN.out]; exact hlt
      have HRr := Lib.hid (HR.out.call HB.out)
      obtain ⟨b1, o1, rfl, hb1, hc1⟩ := HRr.out.some (by omega)
      have T1 := hc1 k hkl
      have a0 := T1.c0; have a1 := T1.c1; have a2 := T1.c2; have a3 := T1.c3; have a4 := T1.c4; have a5 := T1.c5; have a6 := T1.c6; have a7 := T1.c7; have a8 := T1.c8; have a9 := T1.c9; have a10 := T1.c10; have a11 := T1.c11; have a12 := T1.c12
      have p0 := HC.out.cell 0; have p1' := HC.out.cell 1; have p2' := HC.out.cell 2; have p3' := HC.out.cell 3; have pl := HC.out.lt
      have HAK := Lib.hid (fun h => HA.out k hkl h HO.out)
      have HNK : Hid (hit port q now l[k] = false → ∀ j (hj : j < l.length), j < k + 1 → hit port q now l[j] = false) := Lib.hid (fun h j hj hjk => by
        by_cases e : j = k
        · subst e; exact h
        · exact HO.out j hj (by omega))
      have HIT : Hid (hit port q now l[k] = ((l[k].port == port) && (eqP (peer l[k]) q && decide (now < l[k].dead)))) := Lib.hid rfl
      have HAt := Lib.hid T1
      clear T1 hc1
      generalize l[k] = x at *
      cases h1 : (x.port == port) with
      | false =>
        have HV := Lib.hid (HNK.out (by rw [HIT.out, h1]; rfl))
        clear HAK HNK HIT
        go_wp2_with fail
        go_quiet (fail)
        go_wp2_with fail
        go_roundw
        case rel => exact ⟨k + 1, by go_num, HK.out, HV, Lib.hid HC.out.drew, Lib.hid HZ.out.drew, Lib.hid (HB.out.trans ⟨rfl, rfl, rfl, Nat.le_refl _, fun _ _ => rfl⟩)⟩
        case measure => have := HK.out; simp [intOf]; omega
      | true =>
        cases h2 : eqP (peer x) q with
        | false =>
          have heq : ∀ W, (Op.equalIn 10000 24 (.agg #[.int .u8 x.a, .int .u8 x.b, .int .u8 x.c, .int .u8 x.d]) (.agg #[.int .u8 q.a, .int .u8 q.b, .int .u8 q.c, .int .u8 q.d])).run Try.prog W = .ok false W := fun W => by have := equal_peers (peer x) q W; rw [h2] at this; exact this
          have HV := Lib.hid (HNK.out (by rw [HIT.out, h1, h2]; rfl))
          clear HAK HNK HIT
          go_wp2_with fail
          go_quiet (fail)
          go_wp2_with fail
          go_roundw
          case rel => exact ⟨k + 1, by go_num, HK.out, HV, Lib.hid HC.out.drew, Lib.hid HZ.out.drew, Lib.hid (HB.out.trans ⟨rfl, rfl, rfl, Nat.le_refl _, fun _ _ => rfl⟩)⟩
          case measure => have := HK.out; simp [intOf]; omega
        | true =>
          have heq : ∀ W, (Op.equalIn 10000 24 (.agg #[.int .u8 x.a, .int .u8 x.b, .int .u8 x.c, .int .u8 x.d]) (.agg #[.int .u8 q.a, .int .u8 q.b, .int .u8 q.c, .int .u8 q.d])).run Try.prog W = .ok true W := fun W => by have := equal_peers (peer x) q W; rw [h2] at this; exact this
          by_cases h3 : now < x.dead
          · have HV := Lib.hid (HAK.out (by rw [HIT.out, h1, h2, decide_eq_true h3]; rfl))
            clear HAK HNK HIT
            go_wp2_with fail
            go_quiet (fail)
            go_wp2_with fail
            obtain ⟨p1, n1, c1, -, hs1, y1⟩ := holes_h HRr.out k (by omega)
            obtain ⟨p2, n2, c2, -, hs2, y2⟩ := holes_l HRr.out (k + 1) (by omega)
            rw [show ((k + 1 : Nat) : Int) = (k : Int) + 1 from by omega] at hs2
            have Y1 := Lib.hid y1
            have Y2 := Lib.hid y2
            have hk1 : (k : Int) + 1 ≤ (n : Int) := by omega
            have hwk : IntKind.i64.wrap ((k : Int) + 1) = (k : Int) + 1 := IntWalk.i64_in _ (by omega)
            have hs2w : ∀ W, (Instr.slice 22 (.slice (some ⟨b1, o1, none⟩) n c) (some (.int .i64 (IntKind.i64.wrap ((k : Int) + 1)))) none none).run Try.prog W = .ok (.slice p2 n2 c2) W := by rw [hwk]; exact hs2
            have L1 : Hid (([] : List Ho).length + (l.take k).length ≤ 1000000) := Lib.hid (by have := HN.out; rw [List.length_take]; simp only [List.length_nil]; omega)
            have L3 : Hid (([] ++ l.take k).length + (l.drop (k + 1)).length ≤ 1000000) := Lib.hid (by have := HN.out; rw [List.nil_append, List.length_take, List.length_drop]; omega)
            have BD : Hid (Below wr.heap.size wr (wr.drewN (nq + 1))) := Lib.hid ⟨rfl, rfl, rfl, Nat.le_refl _, fun _ _ => rfl⟩
            clear y1 y2 p0 p1' p2' p3' pl
            go_region_law (first | (refine step_append_holes (by rfl) (.const (.slice none 0 0)) (.tmp 45) (by rfl) wr.heap.size (.slice none 0 0) [] (by simp [Act.eval, Act.put]) (OwnHoles.nil _ _) (.slice p1 n1 c1) (l.take k) (by simp [Act.eval, Act.put]) (Y1.out.call BD.out) L1.out (Nat.le_refl _) ?_; intro v5 w5 o5 g5 e5; clear e5; have B5 := Lib.hid (BD.out.grown g5 (Nat.le_refl _) (OwnHoles.nil wr.heap.size wr).ge); have HZ5 := Lib.hid (row_grown (show IsRow ((wr.drewN nq).drew) (w.heap.size + 1) 28 #[.int .i64 0, .int .i64 0, .int .i64 0, .int .u8 0, .int .u8 0, .int .u8 0, .int .u8 0, .int .u8 0, .int .u8 0, .int .u8 0, .int .u8 0, .int .i64 0, .int .i64 0] from HZ.out) g5 (fun e => by cases e)); clear g5; have O5 := Lib.hid (show OwnHoles wr.heap.size w5 v5 ([] ++ l.take k) from o5); obtain ⟨p5, n5, c5, rfl, -⟩ := O5.out.form; clear o5; have TX := HAt.out.call B5.out; have e0 := TX.c0; have e1 := TX.c1; have e2 := TX.c2; have e3 := TX.c3; have e4 := TX.c4; have e5 := TX.c5; have e6 := TX.c6; have e7 := TX.c7; have e8 := TX.c8; have e9 := TX.c9; have e10 := TX.c10; have e11 := TX.c11; have e12 := TX.c12; have el := TX.lt; clear TX) | (refine step_append_holes (by rfl) (.tmp 46) (.tmp 50) (by rfl) wr.heap.size (.slice p5 n5 c5) ([] ++ l.take k) (by simp [Act.eval, Act.put]) O5.out (.slice p2 n2 c2) (l.drop (k + 1)) (by simp [Act.eval, Act.put]) (Y2.out.call B5.out) L3.out B5.out.size ?_; intro v6 w6 o6 g6 e6; clear e6; have B6 := Lib.hid (B5.out.grown g6 B5.out.size O5.out.ge); have HZ6 := Lib.hid (row_grown HZ5.out g6 (fun e => by have := O5.out.ge _ e.symm; have := HZ.out.lt; omega)); clear g6; have O6 := Lib.hid (show OwnHoles wr.heap.size w6 v6 ([] ++ l.take k ++ l.drop (k + 1)) from o6); obtain ⟨p6, n6, c6, rfl, -⟩ := O6.out.form; clear o6; have z0 := HZ6.out.cell 0; have z1 := HZ6.out.cell 1; have z2 := HZ6.out.cell 2; have z3 := HZ6.out.cell 3; have z4 := HZ6.out.cell 4; have z5 := HZ6.out.cell 5; have z6 := HZ6.out.cell 6; have z7 := HZ6.out.cell 7; have z8 := HZ6.out.cell 8; have z9 := HZ6.out.cell 9; have z10 := HZ6.out.cell 10; have z11 := HZ6.out.cell 11; have z12 := HZ6.out.cell 12; have zf0 := HZ6.out.free 0; have zf1 := HZ6.out.free 1; have zf2 := HZ6.out.free 2; have zf3 := HZ6.out.free 3; have zf4 := HZ6.out.free 4; have zf5 := HZ6.out.free 5; have zf6 := HZ6.out.free 6; have zf7 := HZ6.out.free 7; have zf8 := HZ6.out.free 8; have zf9 := HZ6.out.free 9; have zf10 := HZ6.out.free 10; have zf11 := HZ6.out.free 11; have zf12 := HZ6.out.free 12; have zl := HZ6.out.lt; have TX := HAt.out.call B6.out; have f0 := TX.c0; have f1 := TX.c1; have f2 := TX.c2; have f3 := TX.c3; have f4 := TX.c4; have f5 := TX.c5; have f6 := TX.c6; have f7 := TX.c7; have f8 := TX.c8; have f9 := TX.c9; have f10 := TX.c10; have f11 := TX.c11; have f12 := TX.c12; have fl := TX.lt; clear TX))
            all_goals (
              clear hs1 hs2 hs2w hwk el fl a0 a1 a2 a3 a4 a5 a6 a7 a8 a9 a10 a11 a12 e0 e1 e2 e3 e4 e5 e6 e7 e8 e9 e10 e11 e12 f0 f1 f2 f3 f4 f5 f6 f7 f8 f9 f10 f11 f12 z0 z1 z2 z3 z4 z5 z6 z7 z8 z9 z10 z11 z12 zf0 zf1 zf2 zf3 zf4 zf5 zf6 zf7 zf8 zf9 zf10 zf11 zf12 zl
              have FR9 := Lib.hid (put_hole (u0 := (.int .i64 x.port)) (u1 := (.int .i64 x.sess)) (u2 := (.int .i64 x.ten)) (u3 := (.int .u8 x.a)) (u4 := (.int .u8 x.b)) (u5 := (.int .u8 x.c)) (u6 := (.int .u8 x.d)) (u7 := (.int .u8 x.e)) (u8 := (.int .u8 x.f)) (u9 := (.int .u8 x.g)) (u10 := (.int .u8 x.h)) (u11 := (.int .i64 x.tport)) (u12 := (.int .i64 x.dead)) HZ6.out)
              have B9 := Lib.hid (put_below (b := w.heap.size + 1) (u0 := (.int .i64 x.port)) (u1 := (.int .i64 x.sess)) (u2 := (.int .i64 x.ten)) (u3 := (.int .u8 x.a)) (u4 := (.int .u8 x.b)) (u5 := (.int .u8 x.c)) (u6 := (.int .u8 x.d)) (u7 := (.int .u8 x.e)) (u8 := (.int .u8 x.f)) (u9 := (.int .u8 x.g)) (u10 := (.int .u8 x.h)) (u11 := (.int .i64 x.tport)) (u12 := (.int .i64 x.dead)) (HB.out.trans (B6.out.mono HB.out.size)) GE.out)
              have O9 := Lib.hid (own_past O6.out (fun b hb => put_past (b := w.heap.size + 1) (u0 := (.int .i64 x.port)) (u1 := (.int .i64 x.sess)) (u2 := (.int .i64 x.ten)) (u3 := (.int .u8 x.a)) (u4 := (.int .u8 x.b)) (u5 := (.int .u8 x.c)) (u6 := (.int .u8 x.d)) (u7 := (.int .u8 x.e)) (u8 := (.int .u8 x.f)) (u9 := (.int .u8 x.g)) (u10 := (.int .u8 x.h)) (u11 := (.int .i64 x.tport)) (u12 := (.int .i64 x.dead)) (show b ≠ w.heap.size + 1 by have := HZ.out.lt; omega)))
              go_wp2_with fail
              generalize hX : Oper.dst _ = X
              have eX : X = some 10 := by rw [← hX]; rfl
              clear hX
              subst eX
              generalize hW : World.setCell _ _ _ = W9 at *
              have z0 := FR9.out.cell 0; have z1 := FR9.out.cell 1; have z2 := FR9.out.cell 2; have z3 := FR9.out.cell 3; have z4 := FR9.out.cell 4; have z5 := FR9.out.cell 5; have z6 := FR9.out.cell 6; have z7 := FR9.out.cell 7; have z8 := FR9.out.cell 8; have z9 := FR9.out.cell 9; have z10 := FR9.out.cell 10; have z11 := FR9.out.cell 11; have z12 := FR9.out.cell 12; have zf0 := FR9.out.free 0; have zf1 := FR9.out.free 1; have zf2 := FR9.out.free 2; have zf3 := FR9.out.free 3; have zf4 := FR9.out.free 4; have zf5 := FR9.out.free 5; have zf6 := FR9.out.free 6; have zf7 := FR9.out.free 7; have zf8 := FR9.out.free 8; have zf9 := FR9.out.free 9; have zf10 := FR9.out.free 10; have zf11 := FR9.out.free 11; have zf12 := FR9.out.free 12; have zl := FR9.out.lt
              refine bodyPost_ret (v := .tuple #[.slice p6 n6 c6, holeV x, .bool true]) (by simp [results, Try.results16, go_sem, z0, z1, z2, z3, z4, z5, z6, z7, z8, z9, z10, z11, z12]) rfl ?_
              exact ⟨⟨p6, n6, c6, by rw [HV.out], by rw [HV.out]; exact O9.out.holes⟩, B9.out⟩)
          · have HV := Lib.hid (HNK.out (by rw [HIT.out, h1, h2, decide_eq_false h3]; rfl))
            have h3d : decide (now < x.dead) = false := decide_eq_false h3
            clear HAK HNK HIT
            go_wp2_with fail
            go_quiet (fail)
            go_wp2_with fail
            go_roundw
            case rel => exact ⟨k + 1, by go_num, HK.out, HV, Lib.hid HC.out.drew, Lib.hid HZ.out.drew, Lib.hid (HB.out.trans ⟨rfl, rfl, rfl, Nat.le_refl _, fun _ _ => rfl⟩)⟩
            case measure => have := HK.out; simp [intOf]; omega
    · have hji : ¬ (k : Int) < (n : Int) := by omega
      have HV := Lib.hid (HE.out (fun j hj => HO.out j hj (by have := HN.out; omega)))
      clear HA HE
      have z0 := HZ.out.cell 0; have z1 := HZ.out.cell 1; have z2 := HZ.out.cell 2; have z3 := HZ.out.cell 3; have z4 := HZ.out.cell 4; have z5 := HZ.out.cell 5; have z6 := HZ.out.cell 6; have z7 := HZ.out.cell 7; have z8 := HZ.out.cell 8; have z9 := HZ.out.cell 9; have z10 := HZ.out.cell 10; have z11 := HZ.out.cell 11; have z12 := HZ.out.cell 12; have zf0 := HZ.out.free 0; have zf1 := HZ.out.free 1; have zf2 := HZ.out.free 2; have zf3 := HZ.out.free 3; have zf4 := HZ.out.free 4; have zf5 := HZ.out.free 5; have zf6 := HZ.out.free 6; have zf7 := HZ.out.free 7; have zf8 := HZ.out.free 8; have zf9 := HZ.out.free 9; have zf10 := HZ.out.free 10; have zf11 := HZ.out.free 11; have zf12 := HZ.out.free 12; have zl := HZ.out.lt
      go_wp2_with fail
      generalize hW : World.setCell _ _ _ = W9
      have FR : IsRow W9 (w.heap.size + 1) 28 #[.int .i64 0, .int .i64 0, .int .i64 0, .int .u8 0, .int .u8 0, .int .u8 0, .int .u8 0, .int .u8 0, .int .u8 0, .int .u8 0, .int .u8 0, .int .i64 0, .int .i64 0] := by rw [← hW]; exact (((((((((((((HZ.out.set 0 (.int .i64 0)).set 1 (.int .i64 0)).set 2 (.int .i64 0)).set 3 (.int .u8 0)).set 4 (.int .u8 0)).set 5 (.int .u8 0)).set 6 (.int .u8 0)).set 7 (.int .u8 0)).set 8 (.int .u8 0)).set 9 (.int .u8 0)).set 10 (.int .u8 0)).set 11 (.int .i64 0)).set 12 (.int .i64 0))
      have B9 : Below w.heap.size w W9 := by rw [← hW]; exact (((((((((((((HB.out.setCell (p := ⟨w.heap.size + 1, 0, none⟩) GE.out (.int .i64 0)).setCell (p := ⟨w.heap.size + 1, 1, none⟩) GE.out (.int .i64 0)).setCell (p := ⟨w.heap.size + 1, 2, none⟩) GE.out (.int .i64 0)).setCell (p := ⟨w.heap.size + 1, 3, none⟩) GE.out (.int .u8 0)).setCell (p := ⟨w.heap.size + 1, 4, none⟩) GE.out (.int .u8 0)).setCell (p := ⟨w.heap.size + 1, 5, none⟩) GE.out (.int .u8 0)).setCell (p := ⟨w.heap.size + 1, 6, none⟩) GE.out (.int .u8 0)).setCell (p := ⟨w.heap.size + 1, 7, none⟩) GE.out (.int .u8 0)).setCell (p := ⟨w.heap.size + 1, 8, none⟩) GE.out (.int .u8 0)).setCell (p := ⟨w.heap.size + 1, 9, none⟩) GE.out (.int .u8 0)).setCell (p := ⟨w.heap.size + 1, 10, none⟩) GE.out (.int .u8 0)).setCell (p := ⟨w.heap.size + 1, 11, none⟩) GE.out (.int .i64 0)).setCell (p := ⟨w.heap.size + 1, 12, none⟩) GE.out (.int .i64 0))
      clear hW z0 z1 z2 z3 z4 z5 z6 z7 z8 z9 z10 z11 z12 zf0 zf1 zf2 zf3 zf4 zf5 zf6 zf7 zf8 zf9 zf10 zf11 zf12 zl
      have z0 := FR.cell 0; have z1 := FR.cell 1; have z2 := FR.cell 2; have z3 := FR.cell 3; have z4 := FR.cell 4; have z5 := FR.cell 5; have z6 := FR.cell 6; have z7 := FR.cell 7; have z8 := FR.cell 8; have z9 := FR.cell 9; have z10 := FR.cell 10; have z11 := FR.cell 11; have z12 := FR.cell 12; have zf0 := FR.free 0; have zf1 := FR.free 1; have zf2 := FR.free 2; have zf3 := FR.free 3; have zf4 := FR.free 4; have zf5 := FR.free 5; have zf6 := FR.free 6; have zf7 := FR.free 7; have zf8 := FR.free 8; have zf9 := FR.free 9; have zf10 := FR.free 10; have zf11 := FR.free 11; have zf12 := FR.free 12; have zl := FR.lt
      refine bodyPost_ret (v := .tuple #[.slice p n c, holeV zeroH, .bool false]) (by simp [results, Try.results16, go_sem, z0, z1, z2, z3, z4, z5, z6, z7, z8, z9, z10, z11, z12, zeroH]) rfl ?_
      exact ⟨⟨p, n, c, by rw [HV.out], by rw [HV.out]; exact HR.out.call B9⟩, B9⟩

#print axioms rmatch_any
end Go.Proofs.Ytaahghjllfkmaaa.Hl
