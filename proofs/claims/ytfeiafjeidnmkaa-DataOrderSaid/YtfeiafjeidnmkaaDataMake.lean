/- Package data: what goes out (send, shut); a link copied, each chunk too; what goes out when one is over (gen-data-make.py). -/
import Derived.Test.YtfeiafjeidnmkaaDataSmall
namespace Go.Proofs.Ytfeiafjeidnmkaa.Da
open Go.Proofs.Ytfeiafjeidnmkaa
open Go Go.ChangeShapes Go.WideShapes Go.ChangeAt Go.RowKit
set_option maxRecDepth 100000
set_option linter.unusedSimpArgs false
set_option linter.unusedVariables false

theorem own_row_ne {w : World} {b : Nat} {t : TypeId} {cs : Array Value} {base : Nat} {e : TypeId} {size : Nat} {v : Value} {n : Nat} {xs : List Value} (r : IsRow w b t cs) (h : w.ownsRow base e size v n xs) (hne : t ≠ e) : ∀ k, v.ownBlock = some k → k ≠ b := by
  intro k hk e'
  subst e'
  rcases h.2 with ⟨rfl, _⟩ | ⟨g, cap, cur, rfl, _, hh, _⟩
  · cases hk
  · have : g = k := by simpa [Value.ownBlock] using hk
    subst this
    unfold IsRow at r
    rw [r] at hh
    injection hh with hh
    injection hh with _ ht
    exact hne ht
theorem own_set {w : World} {b : Nat} {t : TypeId} {cs : Array Value} {base : Nat} {e : TypeId} {size : Nat} {v : Value} {n : Nat} {xs : List Value} (r : IsRow w b t cs) (h : w.ownsRow base e size v n xs) (hne : t ≠ e) (i : Nat) (u : Value) : (w.setCell ⟨b, i, none⟩ u).ownsRow base e size v n xs := by
  have hk := own_row_ne r h hne
  refine ⟨h.1, ?_⟩
  rcases h.2 with ⟨rfl, hn⟩ | ⟨g, cap, cur, rfl, hg, hh, hr⟩
  · exact Or.inl ⟨rfl, hn⟩
  · exact Or.inr ⟨g, cap, cur, rfl, hg, by rw [Below.heap_setCell _ _ _ _ (by show g ≠ b; exact hk g rfl)]; exact hh, hr⟩
theorem put4 {W : World} {b : Nat} {T : TypeId} {u0 u1 u2 u3 v0 v1 v2 v3 : Value} (h : IsRow W b T #[v0, v1, v2, v3]) : IsRow (World.setCell (World.setCell (World.setCell (World.setCell W ⟨b, 0, none⟩ u0) ⟨b, 1, none⟩ u1) ⟨b, 2, none⟩ u2) ⟨b, 3, none⟩ u3) b T #[u0, u1, u2, u3] := by
  have h0 := h.set 0 u0
  rw [show (#[v0, v1, v2, v3] : Array Value).setIfInBounds 0 u0 = #[u0, v1, v2, v3] from rfl] at h0
  have h1 := h0.set 1 u1
  rw [show (#[u0, v1, v2, v3] : Array Value).setIfInBounds 1 u1 = #[u0, u1, v2, v3] from rfl] at h1
  have h2 := h1.set 2 u2
  rw [show (#[u0, u1, v2, v3] : Array Value).setIfInBounds 2 u2 = #[u0, u1, u2, v3] from rfl] at h2
  have h3 := h2.set 3 u3
  rw [show (#[u0, u1, u2, v3] : Array Value).setIfInBounds 3 u3 = #[u0, u1, u2, u3] from rfl] at h3
  exact h3
theorem put4_below {B : Nat} {W0 W : World} {b : Nat} {u0 u1 u2 u3 : Value} (h : Below B W0 W) (g : B ≤ b) : Below B W0 (World.setCell (World.setCell (World.setCell (World.setCell W ⟨b, 0, none⟩ u0) ⟨b, 1, none⟩ u1) ⟨b, 2, none⟩ u2) ⟨b, 3, none⟩ u3) := by
  have h0 := h.setCell (p := ⟨b, 0, none⟩) g u0
  have h1 := h0.setCell (p := ⟨b, 1, none⟩) g u1
  have h2 := h1.setCell (p := ⟨b, 2, none⟩) g u2
  have h3 := h2.setCell (p := ⟨b, 3, none⟩) g u3
  exact h3
theorem put4_row {W : World} {b b2 : Nat} {T : TypeId} {cs : Array Value} {u0 u1 u2 u3 : Value} (h : IsRow W b2 T cs) (hne : b2 ≠ b) : IsRow (World.setCell (World.setCell (World.setCell (World.setCell W ⟨b, 0, none⟩ u0) ⟨b, 1, none⟩ u1) ⟨b, 2, none⟩ u2) ⟨b, 3, none⟩ u3) b2 T cs := by
  have h0 := h.other (a := ⟨b, 0, none⟩) hne u0
  have h1 := h0.other (a := ⟨b, 1, none⟩) hne u1
  have h2 := h1.other (a := ⟨b, 2, none⟩) hne u2
  have h3 := h2.other (a := ⟨b, 3, none⟩) hne u3
  exact h3
theorem put4_own {W : World} {b : Nat} {T : TypeId} {u0 u1 u2 u3 v0 v1 v2 v3 : Value} (r : IsRow W b T #[v0, v1, v2, v3]) {base : Nat} {e : TypeId} {size : Nat} {v : Value} {n : Nat} {xs : List Value} (h : W.ownsRow base e size v n xs) (hne : T ≠ e) : (World.setCell (World.setCell (World.setCell (World.setCell W ⟨b, 0, none⟩ u0) ⟨b, 1, none⟩ u1) ⟨b, 2, none⟩ u2) ⟨b, 3, none⟩ u3).ownsRow base e size v n xs := by
  have o0 := own_set r h hne 0 u0
  have r0 := r.set 0 u0
  have o1 := own_set r0 o0 hne 1 u1
  have r1 := r0.set 1 u1
  have o2 := own_set r1 o1 hne 2 u2
  have r2 := r1.set 2 u2
  have o3 := own_set r2 o2 hne 3 u3
  have r3 := r2.set 3 u3
  exact o3
theorem put8 {W : World} {b : Nat} {T : TypeId} {u0 u1 u2 u3 u4 u5 u6 u7 v0 v1 v2 v3 v4 v5 v6 v7 : Value} (h : IsRow W b T #[v0, v1, v2, v3, v4, v5, v6, v7]) : IsRow (World.setCell (World.setCell (World.setCell (World.setCell (World.setCell (World.setCell (World.setCell (World.setCell W ⟨b, 0, none⟩ u0) ⟨b, 1, none⟩ u1) ⟨b, 2, none⟩ u2) ⟨b, 3, none⟩ u3) ⟨b, 4, none⟩ u4) ⟨b, 5, none⟩ u5) ⟨b, 6, none⟩ u6) ⟨b, 7, none⟩ u7) b T #[u0, u1, u2, u3, u4, u5, u6, u7] := by
  have h0 := h.set 0 u0
  rw [show (#[v0, v1, v2, v3, v4, v5, v6, v7] : Array Value).setIfInBounds 0 u0 = #[u0, v1, v2, v3, v4, v5, v6, v7] from rfl] at h0
  have h1 := h0.set 1 u1
  rw [show (#[u0, v1, v2, v3, v4, v5, v6, v7] : Array Value).setIfInBounds 1 u1 = #[u0, u1, v2, v3, v4, v5, v6, v7] from rfl] at h1
  have h2 := h1.set 2 u2
  rw [show (#[u0, u1, v2, v3, v4, v5, v6, v7] : Array Value).setIfInBounds 2 u2 = #[u0, u1, u2, v3, v4, v5, v6, v7] from rfl] at h2
  have h3 := h2.set 3 u3
  rw [show (#[u0, u1, u2, v3, v4, v5, v6, v7] : Array Value).setIfInBounds 3 u3 = #[u0, u1, u2, u3, v4, v5, v6, v7] from rfl] at h3
  have h4 := h3.set 4 u4
  rw [show (#[u0, u1, u2, u3, v4, v5, v6, v7] : Array Value).setIfInBounds 4 u4 = #[u0, u1, u2, u3, u4, v5, v6, v7] from rfl] at h4
  have h5 := h4.set 5 u5
  rw [show (#[u0, u1, u2, u3, u4, v5, v6, v7] : Array Value).setIfInBounds 5 u5 = #[u0, u1, u2, u3, u4, u5, v6, v7] from rfl] at h5
  have h6 := h5.set 6 u6
  rw [show (#[u0, u1, u2, u3, u4, u5, v6, v7] : Array Value).setIfInBounds 6 u6 = #[u0, u1, u2, u3, u4, u5, u6, v7] from rfl] at h6
  have h7 := h6.set 7 u7
  rw [show (#[u0, u1, u2, u3, u4, u5, u6, v7] : Array Value).setIfInBounds 7 u7 = #[u0, u1, u2, u3, u4, u5, u6, u7] from rfl] at h7
  exact h7
theorem put8_below {B : Nat} {W0 W : World} {b : Nat} {u0 u1 u2 u3 u4 u5 u6 u7 : Value} (h : Below B W0 W) (g : B ≤ b) : Below B W0 (World.setCell (World.setCell (World.setCell (World.setCell (World.setCell (World.setCell (World.setCell (World.setCell W ⟨b, 0, none⟩ u0) ⟨b, 1, none⟩ u1) ⟨b, 2, none⟩ u2) ⟨b, 3, none⟩ u3) ⟨b, 4, none⟩ u4) ⟨b, 5, none⟩ u5) ⟨b, 6, none⟩ u6) ⟨b, 7, none⟩ u7) := by
  have h0 := h.setCell (p := ⟨b, 0, none⟩) g u0
  have h1 := h0.setCell (p := ⟨b, 1, none⟩) g u1
  have h2 := h1.setCell (p := ⟨b, 2, none⟩) g u2
  have h3 := h2.setCell (p := ⟨b, 3, none⟩) g u3
  have h4 := h3.setCell (p := ⟨b, 4, none⟩) g u4
  have h5 := h4.setCell (p := ⟨b, 5, none⟩) g u5
  have h6 := h5.setCell (p := ⟨b, 6, none⟩) g u6
  have h7 := h6.setCell (p := ⟨b, 7, none⟩) g u7
  exact h7
theorem put8_row {W : World} {b b2 : Nat} {T : TypeId} {cs : Array Value} {u0 u1 u2 u3 u4 u5 u6 u7 : Value} (h : IsRow W b2 T cs) (hne : b2 ≠ b) : IsRow (World.setCell (World.setCell (World.setCell (World.setCell (World.setCell (World.setCell (World.setCell (World.setCell W ⟨b, 0, none⟩ u0) ⟨b, 1, none⟩ u1) ⟨b, 2, none⟩ u2) ⟨b, 3, none⟩ u3) ⟨b, 4, none⟩ u4) ⟨b, 5, none⟩ u5) ⟨b, 6, none⟩ u6) ⟨b, 7, none⟩ u7) b2 T cs := by
  have h0 := h.other (a := ⟨b, 0, none⟩) hne u0
  have h1 := h0.other (a := ⟨b, 1, none⟩) hne u1
  have h2 := h1.other (a := ⟨b, 2, none⟩) hne u2
  have h3 := h2.other (a := ⟨b, 3, none⟩) hne u3
  have h4 := h3.other (a := ⟨b, 4, none⟩) hne u4
  have h5 := h4.other (a := ⟨b, 5, none⟩) hne u5
  have h6 := h5.other (a := ⟨b, 6, none⟩) hne u6
  have h7 := h6.other (a := ⟨b, 7, none⟩) hne u7
  exact h7
theorem put8_own {W : World} {b : Nat} {T : TypeId} {u0 u1 u2 u3 u4 u5 u6 u7 v0 v1 v2 v3 v4 v5 v6 v7 : Value} (r : IsRow W b T #[v0, v1, v2, v3, v4, v5, v6, v7]) {base : Nat} {e : TypeId} {size : Nat} {v : Value} {n : Nat} {xs : List Value} (h : W.ownsRow base e size v n xs) (hne : T ≠ e) : (World.setCell (World.setCell (World.setCell (World.setCell (World.setCell (World.setCell (World.setCell (World.setCell W ⟨b, 0, none⟩ u0) ⟨b, 1, none⟩ u1) ⟨b, 2, none⟩ u2) ⟨b, 3, none⟩ u3) ⟨b, 4, none⟩ u4) ⟨b, 5, none⟩ u5) ⟨b, 6, none⟩ u6) ⟨b, 7, none⟩ u7).ownsRow base e size v n xs := by
  have o0 := own_set r h hne 0 u0
  have r0 := r.set 0 u0
  have o1 := own_set r0 o0 hne 1 u1
  have r1 := r0.set 1 u1
  have o2 := own_set r1 o1 hne 2 u2
  have r2 := r1.set 2 u2
  have o3 := own_set r2 o2 hne 3 u3
  have r3 := r2.set 3 u3
  have o4 := own_set r3 o3 hne 4 u4
  have r4 := r3.set 4 u4
  have o5 := own_set r4 o4 hne 5 u5
  have r5 := r4.set 5 u5
  have o6 := own_set r5 o5 hne 6 u6
  have r6 := r5.set 6 u6
  have o7 := own_set r6 o6 hne 7 u7
  have r7 := r6.set 7 u7
  exact o7

theorem ty_ou : (43 : TypeId) ≠ 5 := by decide
theorem ty_oc : (43 : TypeId) ≠ 25 := by decide
theorem ty_lu : (24 : TypeId) ≠ 5 := by decide
theorem ty_lc : (24 : TypeId) ≠ 25 := by decide
theorem ty_lo : (24 : TypeId) ≠ 43 := by decide
/-- a block just made, of one of them -/
theorem one_row {α : Type} {L : Lay α} (w : World) (t : TypeId) (x : α) (hx : L.ok w x) (cs : Array Value) (hc : cs = (L.cs x).toArray) : RowIs L (w.alloc (.cells cs t)) (.slice (some ⟨w.heap.size, 0, none⟩) 1 1) [x] := by
  refine ⟨fun y hy => ?_, Or.inr ⟨_, 1, rfl, Nat.le_refl _, by unfold maxLen; decide, row_made w t [x] (by unfold maxLen; simp) cs (by rw [hc]; simp [flatL])⟩⟩
  rw [List.mem_singleton] at hy
  subst hy
  exact L.keep _ _ _ hx ((Below.refl _ _).alloc (Nat.le_refl _) _)
theorem one_ck {v : Value} {b : List UInt8} (w : World) (h : BytesIs w v b) : RowIs chunks (w.alloc (.cells #[v] 25)) (.slice (some ⟨w.heap.size, 0, none⟩) 1 1) [⟨v, b⟩] := one_row (L := chunks) w _ ⟨v, b⟩ h _ rfl
theorem one_out (w : World) (x : Ou) (h : BytesIs w x.bv x.b) : RowIs outs (w.alloc (.cells #[.int .i64 x.kind, .int .i64 x.conn, .int .u8 x.h0, .int .u8 x.h1, .int .u8 x.h2, .int .u8 x.h3, .int .i64 x.port, x.bv] 43)) (.slice (some ⟨w.heap.size, 0, none⟩) 1 1) [x] := one_row (L := outs) w _ x h _ rfl
theorem take_texts {l : List Ck} {k : Nat} (h : k < l.length) : (texts l).take (k + 1) = (texts l).take k ++ [(l[k]).b] := by
  have h' : k < (texts l).length := by rwa [texts_length]
  rw [List.take_add_one, List.getElem?_eq_getElem h']
  simp [texts]
theorem texts_append (l m : List Ck) : texts (l ++ m) = texts l ++ texts m := List.map_append

set_option maxHeartbeats 4000000 in
theorem send_any (c : Int) (u : Value) (l : List UInt8) (N : Nat) (hN : l.length = N) (hl : N ≤ 1000000) (w : World) (H : BytesIs w u l) :
    Calls Try.prog 26 #[.int .i64 c, u] w fun e w' => (∃ p k, e = .returned (outV ⟨0, c, 0, 0, 0, 0, 0, .slice p N k, l⟩) ∧ Own8 w.heap.size w' (.slice p N k) l) ∧ Below w.heap.size w w' := by
  have R0 := Lib.hid (IsRow.made w 43 #[.int .i64 0, .int .i64 0, .int .u8 0, .int .u8 0, .int .u8 0, .int .u8 0, .int .i64 0, .slice none 0 0])
  have BZ := Lib.hid ((Below.refl w.heap.size w).alloc (Nat.le_refl _) (.cells #[.int .i64 0, .int .i64 0, .int .u8 0, .int .u8 0, .int .u8 0, .int .u8 0, .int .i64 0, .slice none 0 0] 43))
  have HC := Lib.hid (clone_any u l N hN hl _ (H.alloc (.cells #[.int .i64 0, .int .i64 0, .int .u8 0, .int .u8 0, .int .u8 0, .int .u8 0, .int .i64 0, .slice none 0 0] 43)))
  obtain ⟨pu, cu, rfl⟩ := H.form
  rw [hN] at HC ⊢
  clear H hN hl
  go_enter Try.func26, Try.ntmps26
  go_wp2_with (go_at_call 27; refine HC.out.mono ?_; rintro e w1 ⟨p1, c1, rfl, o1, b1⟩; have R1 := Lib.hid (R0.out.call b1); have z0 : w1.cell? ⟨w.heap.size, 0, none⟩ = some _ := R1.out.cell 0; have zf0 : w1.frozen? ⟨w.heap.size, 0, none⟩ = false := R1.out.free 0; have z1 : w1.cell? ⟨w.heap.size, 1, none⟩ = some _ := R1.out.cell 1; have zf1 : w1.frozen? ⟨w.heap.size, 1, none⟩ = false := R1.out.free 1; have z2 : w1.cell? ⟨w.heap.size, 2, none⟩ = some _ := R1.out.cell 2; have zf2 : w1.frozen? ⟨w.heap.size, 2, none⟩ = false := R1.out.free 2; have z3 : w1.cell? ⟨w.heap.size, 3, none⟩ = some _ := R1.out.cell 3; have zf3 : w1.frozen? ⟨w.heap.size, 3, none⟩ = false := R1.out.free 3; have z4 : w1.cell? ⟨w.heap.size, 4, none⟩ = some _ := R1.out.cell 4; have zf4 : w1.frozen? ⟨w.heap.size, 4, none⟩ = false := R1.out.free 4; have z5 : w1.cell? ⟨w.heap.size, 5, none⟩ = some _ := R1.out.cell 5; have zf5 : w1.frozen? ⟨w.heap.size, 5, none⟩ = false := R1.out.free 5; have z6 : w1.cell? ⟨w.heap.size, 6, none⟩ = some _ := R1.out.cell 6; have zf6 : w1.frozen? ⟨w.heap.size, 6, none⟩ = false := R1.out.free 6; have z7 : w1.cell? ⟨w.heap.size, 7, none⟩ = some _ := R1.out.cell 7; have zf7 : w1.frozen? ⟨w.heap.size, 7, none⟩ = false := R1.out.free 7; have zlt := R1.out.lt; have FR := Lib.hid (put8 (u0 := (.int .i64 0)) (u1 := (.int .i64 c)) (u2 := (.int .u8 0)) (u3 := (.int .u8 0)) (u4 := (.int .u8 0)) (u5 := (.int .u8 0)) (u6 := (.int .i64 0)) (u7 := (.slice p1 N c1)) R1.out); have FB := Lib.hid (put8_below (u0 := (.int .i64 0)) (u1 := (.int .i64 c)) (u2 := (.int .u8 0)) (u3 := (.int .u8 0)) (u4 := (.int .u8 0)) (u5 := (.int .u8 0)) (u6 := (.int .i64 0)) (u7 := (.slice p1 N c1)) (BZ.out.trans (b1.mono BZ.out.size)) (Nat.le_refl w.heap.size)); have FO := Lib.hid (put8_own (u0 := (.int .i64 0)) (u1 := (.int .i64 c)) (u2 := (.int .u8 0)) (u3 := (.int .u8 0)) (u4 := (.int .u8 0)) (u5 := (.int .u8 0)) (u6 := (.int .i64 0)) (u7 := (.slice p1 N c1)) R1.out o1 ty_ou); clear HC o1 b1)
  generalize hW : World.setCell _ _ _ = W9 at *
  clear z0 z1 z2 z3 z4 z5 z6 z7
  have y0 := FR.out.cell 0; have y1 := FR.out.cell 1; have y2 := FR.out.cell 2; have y3 := FR.out.cell 3; have y4 := FR.out.cell 4; have y5 := FR.out.cell 5; have y6 := FR.out.cell 6; have y7 := FR.out.cell 7
  refine bodyPost_ret (v := outV ⟨0, c, 0, 0, 0, 0, 0, .slice p1 N c1, l⟩) (by simp [results, Try.results26, go_sem, y0, y1, y2, y3, y4, y5, y6, y7]; done) rfl ?_
  exact ⟨⟨p1, c1, rfl, Own8.mono FO.out (by simp)⟩, FB.out⟩

theorem shut_any (c : Int) (w : World) :
    Calls Try.prog 28 #[.int .i64 c] w fun e w' => e = .returned (outV ⟨1, c, 0, 0, 0, 0, 0, .slice none 0 0, []⟩) ∧ Below w.heap.size w w' := by
  have FB := Lib.hid ((Below.refl w.heap.size w).alloc (Nat.le_refl _) (.cells #[.int .i64 1, .int .i64 c, .int .u8 0, .int .u8 0, .int .u8 0, .int .u8 0, .int .i64 0, .slice none 0 0] 43))
  go_enter Try.func28, Try.ntmps28
  go_wp2_with fail
  refine bodyPost_ret (v := outV ⟨1, c, 0, 0, 0, 0, 0, .slice none 0 0, []⟩) (by simp [results, Try.results28, go_sem]; done) rfl ?_
  exact ⟨rfl, FB.out⟩

set_option maxHeartbeats 8000000 in
/-- the same link in memory of its own -/
theorem copied_any (x : Lk) (hl : x.ws.length ≤ 1000) (hb : ∀ y ∈ x.ws, y.b.length ≤ 1000000) (w : World) (H : LinkIs w x) :
    Calls Try.prog 23 #[linkV x] w fun e w' => (∃ p n c ws', e = .returned (linkV ⟨x.sess, x.a, x.b, .slice p n c, ws'⟩) ∧ n = x.ws.length ∧ texts ws' = texts x.ws ∧ OwnCks w.heap.size w' (.slice p n c) ws' ∧ Owns w.heap.size w' ws') ∧ Below w.heap.size w w' := by
  obtain ⟨p, n, c, hv, hn⟩ := H.form
  have hmax := H.max
  obtain ⟨s, a, bb, wv, ws⟩ := x
  simp only at H hl hb hv hn hmax ⊢
  subst hv
  replace H : RowIs chunks w (.slice p n c) ws := H
  have HN := Lib.hid hn
  have HBD := Lib.hid hb
  rw [← hn] at hl hmax ⊢
  clear hn hb
  go_enter Try.func23, Try.ntmps23
  go_wp2_with fail
  obtain ⟨w2, hv⟩ : ∃ V, ((w.alloc (.cells #[.int .i64 s, .int .i64 a, .int .i64 bb, .slice p n c] 24)).alloc (.cells #[.int .i64 0, .int .i64 0, .int .i64 0, .slice none 0 0] 24)) = V := ⟨_, rfl⟩
  have B2 := Lib.hid (show Below w.heap.size w w2 by rw [← hv]; exact ((Below.refl _ _).alloc (Nat.le_refl _) _).alloc (by simp) _)
  have X2 : Hid (IsRow w2 w.heap.size 24 #[.int .i64 s, .int .i64 a, .int .i64 bb, .slice p n c]) := Lib.hid (by rw [← hv]; exact (IsRow.made _ _ _).alloc _)
  have Z2 : Hid (IsRow w2 (w.heap.size + 1) 24 #[.int .i64 0, .int .i64 0, .int .i64 0, .slice none 0 0]) := Lib.hid (by rw [← hv]; have h := IsRow.made (w.alloc (.cells #[.int .i64 s, .int .i64 a, .int .i64 bb, .slice p n c] 24)) 24 #[.int .i64 0, .int .i64 0, .int .i64 0, .slice none 0 0]; simp at h; exact h)
  rw [hv]
  clear hv
  have HR2 := Lib.hid (H.call B2.out)
  clear H
  go_loopw [3, 9] (fun x3 x9 wr => ∃ (k : Nat) (p2 : Option Addr) (n2 c2 : Nat) (done : List Ck), x3 = .slice p2 n2 c2 ∧ x9 = .int .i64 (k : Int) ∧ k ≤ n ∧ Hid (texts done = (texts ws).take k) ∧ Hid (OwnCks w2.heap.size wr (.slice p2 n2 c2) done) ∧ Hid (Owns w2.heap.size wr done) ∧ Hid (Below w2.heap.size w2 wr)) (fun _ i _ => n - (intOf i).toNat)
  case atStart => exact ⟨0, none, 0, 0, [], rfl, rfl, Nat.zero_le _, Lib.hid rfl, Lib.hid (OwnRow.nil _ _), Lib.hid (fun _ h => by cases h), Lib.hid (Below.refl _ _)⟩
  case round =>
    obtain ⟨k, p2, n2, c2, done, rfl, rfl, hk, HT, HO, HW, HB⟩ := hrel
    by_cases hlt : k < n
    · have hji : (k : Int) < (n : Int) := by omega
      have HK : Hid (k + 1 ≤ n) := Lib.hid hlt
      have hkl : k < ws.length := by rw [← HN.out]; exact hlt
      have HLEN : Hid (done.length ≤ 1000) := Lib.hid (by have h := texts_length done; rw [HT.out, List.length_take] at h; omega)
      have HRk := HR2.out.call HB.out
      have HX := HRk.1 (ws[k]'hkl) (List.getElem_mem hkl)
      obtain ⟨b1, o1, rfl, hb1, hc1⟩ := HRk.some (by omega)
      have a0 : wr.cell? ⟨b1, o1 + k, none⟩ = some ((ws[k]'hkl).v) := by
        have := (hc1 k hkl).2 0 (by decide)
        simpa using this
      have HTK : Hid ((texts ws).take (k + 1) = (texts ws).take k ++ [(ws[k]'hkl).b]) := Lib.hid (take_texts hkl)
      have hq := HBD.out (ws[k]'hkl) (List.getElem_mem hkl)
      clear hc1 HRk
      generalize ws[k]'hkl = x at *
      obtain ⟨N, hN⟩ : ∃ N, x.b.length = N := ⟨_, rfl⟩
      have HC := Lib.hid (clone_any x.v x.b N hN (by omega) _ HX)
      clear hN hq HX
      go_wp2_with (first
        | (go_at_call 27; refine HC.out.mono ?_; rintro e w4 ⟨p4, c4, rfl, o4, b4⟩; have B4 := Lib.hid (HB.out.trans (b4.mono HB.out.size)); have O4 := Lib.hid (HO.out.kept b4); have W4 := Lib.hid (HW.out.call b4); have E4 := Lib.hid (Own8.mono o4 HB.out.size); clear HC o4 b4 a0)
        | (at_builtin; refine wpList_append_cks rfl _ _ rfl w2.heap.size (.slice p2 n2 c2) done rfl (O4.out.alloc _) (.slice (some ⟨w4.heap.size, 0, none⟩) 1 1) [⟨.slice p4 N c4, x.b⟩] rfl (one_ck w4 E4.out.is) (by have := HLEN.out; simp only [List.length_singleton]; omega) (by have := B4.out.size; simp; omega) ?_; intro v5 w5 o5 g5 e5; clear e5; have B5 := Lib.hid ((B4.out.alloc B4.out.size (.cells #[.slice p4 N c4] 25)).grown g5 (by have := B4.out.size; simp; omega) O4.out.ge); have O5 := Lib.hid o5; have W5 : Hid (Owns w2.heap.size w5 (done ++ [⟨.slice p4 N c4, x.b⟩])) := Lib.hid (fun y hy => by
            rcases List.mem_append.1 hy with h | h
            · exact ((W4.out.call ((Below.refl _ _).alloc (Nat.le_refl _) _)).grown (O4.out.alloc _) g5) y h
            · rw [List.mem_singleton] at h; subst h
              exact (E4.out.call ((Below.refl _ _).alloc (Nat.le_refl _) _)).grown (O4.out.alloc _) g5); obtain ⟨p5, n5, c5, rfl, -⟩ := O5.out.form; clear o5 g5))
      go_roundw
      case rel => exact ⟨k + 1, p5, n5, c5, done ++ [⟨.slice p4 N c4, x.b⟩], rfl, by go_num, HK.out, Lib.hid (by rw [texts_append, HT.out, HTK.out]; rfl), O5, W5, B5⟩
      case measure => have := HK.out; simp [intOf]; omega
    · have hji : ¬ (k : Int) < (n : Int) := by omega
      have HT2 : Hid (texts done = texts ws) := Lib.hid (by rw [HT.out, List.take_of_length_le (by have := HN.out; rw [texts_length]; omega)])
      have HN2 : Hid (n2 = n) := Lib.hid (by
        obtain ⟨_, _, _, e, h⟩ := HO.out.form
        injection e with _ e2 _
        rw [e2, h, ← texts_length, HT2.out, texts_length, HN.out])
      have X3 := Lib.hid (X2.out.call HB.out)
      have Z3 := Lib.hid (Z2.out.call HB.out)
      have lt3 := Lib.hid Z2.out.lt
      have x0 := X3.out.cell 0; have x1 := X3.out.cell 1; have x2 := X3.out.cell 2; have x3 := X3.out.cell 3; have xf3 := X3.out.free 3; have xlt := X3.out.lt
      have X4 : Hid (IsRow (wr.setCell ⟨w.heap.size, 3, none⟩ (.slice p2 n2 c2)) w.heap.size 24 #[.int .i64 s, .int .i64 a, .int .i64 bb, .slice p2 n2 c2]) := Lib.hid (X3.out.set 3 _)
      have Z4 : Hid (IsRow (wr.setCell ⟨w.heap.size, 3, none⟩ (.slice p2 n2 c2)) (w.heap.size + 1) 24 #[.int .i64 0, .int .i64 0, .int .i64 0, .slice none 0 0]) := Lib.hid (Z3.out.other (a := ⟨w.heap.size, 3, none⟩) (by show w.heap.size + 1 ≠ w.heap.size; omega) _)
      have B4 := Lib.hid (((B2.out.trans (HB.out.mono B2.out.size))).setCell (p := ⟨w.heap.size, 3, none⟩) (Nat.le_refl _) (.slice p2 n2 c2))
      have O4 : Hid (OwnCks w2.heap.size (wr.setCell ⟨w.heap.size, 3, none⟩ (.slice p2 n2 c2)) (.slice p2 n2 c2) done) := Lib.hid (own_set X3.out HO.out ty_lc 3 _)
      have W4 : Hid (Owns w2.heap.size (wr.setCell ⟨w.heap.size, 3, none⟩ (.slice p2 n2 c2)) done) := Lib.hid (fun y hy => own_set X3.out (HW.out y hy) ty_lu 3 _)
      have x40 := X4.out.cell 0; have x41 := X4.out.cell 1; have x42 := X4.out.cell 2; have x43 := X4.out.cell 3
      have z0 : (wr.setCell ⟨w.heap.size, 3, none⟩ (.slice p2 n2 c2)).cell? ⟨w.heap.size + 1, 0, none⟩ = some _ := Z4.out.cell 0; have zf0 : (wr.setCell ⟨w.heap.size, 3, none⟩ (.slice p2 n2 c2)).frozen? ⟨w.heap.size + 1, 0, none⟩ = false := Z4.out.free 0; have z1 : (wr.setCell ⟨w.heap.size, 3, none⟩ (.slice p2 n2 c2)).cell? ⟨w.heap.size + 1, 1, none⟩ = some _ := Z4.out.cell 1; have zf1 : (wr.setCell ⟨w.heap.size, 3, none⟩ (.slice p2 n2 c2)).frozen? ⟨w.heap.size + 1, 1, none⟩ = false := Z4.out.free 1; have z2 : (wr.setCell ⟨w.heap.size, 3, none⟩ (.slice p2 n2 c2)).cell? ⟨w.heap.size + 1, 2, none⟩ = some _ := Z4.out.cell 2; have zf2 : (wr.setCell ⟨w.heap.size, 3, none⟩ (.slice p2 n2 c2)).frozen? ⟨w.heap.size + 1, 2, none⟩ = false := Z4.out.free 2; have z3 : (wr.setCell ⟨w.heap.size, 3, none⟩ (.slice p2 n2 c2)).cell? ⟨w.heap.size + 1, 3, none⟩ = some _ := Z4.out.cell 3; have zf3 : (wr.setCell ⟨w.heap.size, 3, none⟩ (.slice p2 n2 c2)).frozen? ⟨w.heap.size + 1, 3, none⟩ = false := Z4.out.free 3; have zlt := Z4.out.lt
      have FR := Lib.hid (put4 (u0 := (.int .i64 s)) (u1 := (.int .i64 a)) (u2 := (.int .i64 bb)) (u3 := (.slice p2 n2 c2)) Z4.out)
      have FB := Lib.hid (put4_below (b := w.heap.size + 1) (u0 := (.int .i64 s)) (u1 := (.int .i64 a)) (u2 := (.int .i64 bb)) (u3 := (.slice p2 n2 c2)) B4.out (by omega))
      have FO : Hid (OwnCks w2.heap.size (World.setCell (World.setCell (World.setCell (World.setCell (wr.setCell ⟨w.heap.size, 3, none⟩ (.slice p2 n2 c2)) ⟨w.heap.size + 1, 0, none⟩ (.int .i64 s)) ⟨w.heap.size + 1, 1, none⟩ (.int .i64 a)) ⟨w.heap.size + 1, 2, none⟩ (.int .i64 bb)) ⟨w.heap.size + 1, 3, none⟩ (.slice p2 n2 c2)) (.slice p2 n2 c2) done) := Lib.hid (put4_own (u0 := (.int .i64 s)) (u1 := (.int .i64 a)) (u2 := (.int .i64 bb)) (u3 := (.slice p2 n2 c2)) Z4.out O4.out ty_lc)
      have FW : Hid (Owns w2.heap.size (World.setCell (World.setCell (World.setCell (World.setCell (wr.setCell ⟨w.heap.size, 3, none⟩ (.slice p2 n2 c2)) ⟨w.heap.size + 1, 0, none⟩ (.int .i64 s)) ⟨w.heap.size + 1, 1, none⟩ (.int .i64 a)) ⟨w.heap.size + 1, 2, none⟩ (.int .i64 bb)) ⟨w.heap.size + 1, 3, none⟩ (.slice p2 n2 c2)) done) := Lib.hid (fun y hy => put4_own (u0 := (.int .i64 s)) (u1 := (.int .i64 a)) (u2 := (.int .i64 bb)) (u3 := (.slice p2 n2 c2)) Z4.out (W4.out y hy) ty_lu)
      have SZ := Lib.hid B2.out.size
      go_wp2_with fail
      generalize hW : World.setCell _ _ _ = W9 at *
      clear x0 x1 x2 x3 x40 x41 x42 x43 z0 z1 z2 z3
      have y0 := FR.out.cell 0; have y1 := FR.out.cell 1; have y2 := FR.out.cell 2; have y3 := FR.out.cell 3
      refine bodyPost_ret (v := linkV ⟨s, a, bb, .slice p2 n2 c2, done⟩) (by simp [results, Try.results23, go_sem, y0, y1, y2, y3]; done) rfl ?_
      exact ⟨⟨p2, n2, c2, done, rfl, HN2.out, HT2.out, FO.out.mono SZ.out, FW.out.mono SZ.out⟩, FB.out⟩

#print axioms send_any
#print axioms shut_any
#print axioms copied_any
end Go.Proofs.Ytfeiafjeidnmkaa.Da
