/- Package data: links compared (Same, same; the library's slices.EqualFunc of chunks, of links). -/
import Derived.Test.YtfeiafjeidnmkaaDataSmall
namespace Go.Proofs.Ytfeiafjeidnmkaa.Da
open Go.Proofs.Ytfeiafjeidnmkaa
open Go Go.ChangeShapes Go.WideShapes Go.ChangeAt Go.RowKit
set_option maxRecDepth 100000
set_option linter.unusedSimpArgs false
set_option linter.unusedVariables false

def plains (l : List Lk) : List PL := l.map (·.p)
theorem map_all {α β : Type} [DecidableEq β] (f : α → β) {l m : List α} (hlen : l.length = m.length) (h : ∀ k (h : k < l.length) (h' : k < m.length), f l[k] = f m[k]) : decide (l.map f = m.map f) = true := by
  rw [decide_eq_true_eq]
  refine List.ext_getElem (by simp [hlen]) (fun k h1 h2 => ?_)
  simp only [List.getElem_map]
  exact h k (by simpa using h1) (by simpa using h2)
theorem map_no {α β : Type} [DecidableEq β] (f : α → β) {l m : List α} {k : Nat} (h : k < l.length) (h' : k < m.length) (hn : f l[k] ≠ f m[k]) : decide (l.map f = m.map f) = false := by
  rw [decide_eq_false_iff_not]
  intro e
  have := congrArg (fun x => x[k]?) e
  simp [h, h'] at this
  exact hn this
theorem map_len {α β : Type} [DecidableEq β] (f : α → β) {l m : List α} (hlen : l.length ≠ m.length) : decide (l.map f = m.map f) = false := by
  rw [decide_eq_false_iff_not]
  intro e
  have := congrArg List.length e
  simp at this
  exact hlen this

set_option maxHeartbeats 4000000 in
theorem eqc_any (u v : Value) (l m : List Ck) (b : Bool) (hb : decide (texts l = texts m) = b) (w : World) (H : RowIs chunks w u l) (H' : RowIs chunks w v m) :
    Calls Try.prog 34 #[u, v, .func (.func 35) #[] #[]] w fun e w' => e = .returned (.bool b) ∧ Below w.heap.size w w' := by
  have hmax := H.max
  have hmax' := H'.max
  obtain ⟨p, n, c, rfl, hn⟩ := H.form
  obtain ⟨p', n', c', rfl, hn'⟩ := H'.form
  have HN := Lib.hid hn
  have HN' := Lib.hid hn'
  have HR := Lib.hid H
  have HR' := Lib.hid H'
  rw [← hn] at hmax
  rw [← hn'] at hmax'
  clear hn hn' H H'
  by_cases q : n = n'
  · subst q
    have g : ((n : Int) != (n : Int)) = false := by simp
    have HT : Hid ((∀ k (h : k < l.length) (h' : k < m.length), l[k].b = m[k].b) → b = true) := Lib.hid (fun h => by rw [← hb]; exact map_all _ (by rw [← HN.out, ← HN'.out]) h)
    have HX : Hid (∀ k (h : k < l.length) (h' : k < m.length), l[k].b ≠ m[k].b → b = false) := Lib.hid (fun k h h' hn => by rw [← hb]; exact map_no _ h h' hn)
    clear hb
    go_enter Try.func34, Try.ntmps34
    go_wp2_with fail
    go_loopw [17] (fun x5 wr => ∃ (k : Nat), x5 = .int .i64 (k : Int) ∧ k ≤ n ∧ Hid (∀ j (h : j < l.length) (h' : j < m.length), j < k → l[j].b = m[j].b) ∧ Hid (Below w.heap.size w wr)) (fun i _ => n - (intOf i).toNat)
    case atStart => exact ⟨0, rfl, Nat.zero_le _, Lib.hid (fun j _ _ hj => absurd hj (Nat.not_lt_zero j)), Lib.hid (Below.refl _ _)⟩
    case round =>
      obtain ⟨k, rfl, hk, HO, HB⟩ := hrel
      by_cases hlt : k < n
      · have hji : (k : Int) < (n : Int) := by omega
        have HK : Hid (k + 1 ≤ n) := Lib.hid hlt
        have hkl : k < l.length := by rw [← HN.out]; exact hlt
        have hkm : k < m.length := by rw [← HN'.out]; exact hlt
        have HR1 := HR.out.call HB.out
        have HR2 := HR'.out.call HB.out
        have HX1 := Lib.hid (HR1.1 (l[k]'hkl) (List.getElem_mem hkl))
        have HX2 := Lib.hid (HR2.1 (m[k]'hkm) (List.getElem_mem hkm))
        obtain ⟨b1, o1, rfl, hb1, hc1⟩ := HR1.some (by omega)
        obtain ⟨b2, o2, rfl, hb2, hc2⟩ := HR2.some (by omega)
        have a0 : wr.cell? ⟨b1, o1 + k, none⟩ = some ((l[k]'hkl).v) := by
          have := (hc1 k hkl).2 0 (by decide)
          simpa using this
        have d0 : wr.cell? ⟨b2, o2 + k, none⟩ = some ((m[k]'hkm).v) := by
          have := (hc2 k hkm).2 0 (by decide)
          simpa using this
        have HXK := Lib.hid (HX.out k hkl hkm)
        have HNK : Hid ((l[k]'hkl).b = (m[k]'hkm).b → ∀ j (h : j < l.length) (h' : j < m.length), j < k + 1 → l[j].b = m[j].b) := Lib.hid (fun h j hj hj' hjk => by
          by_cases e : j = k
          · subst e; exact h
          · exact HO.out j hj hj' (by omega))
        clear hc1 hc2 HR1 HR2
        generalize l[k]'hkl = x at *
        generalize m[k]'hkm = y at *
        by_cases hq : x.b = y.b
        · have HV := Lib.hid (HNK.out hq)
          have HC := Lib.hid (equalb_any x.v y.v x.b y.b true (decide_eq_true hq) _ HX1.out HX2.out)
          clear hq HXK HNK
          go_wp2_with (go_at_call 35; refine HC.out.mono ?_; rintro e w1 ⟨rfl, rfl⟩; clear HC)
          go_roundw
          case rel => exact ⟨k + 1, by go_num, HK.out, HV, HB⟩
          case measure => have := HK.out; simp [intOf]; omega
        · have HV := Lib.hid (HXK.out hq)
          have HC := Lib.hid (equalb_any x.v y.v x.b y.b false (decide_eq_false hq) _ HX1.out HX2.out)
          clear hq HXK HNK
          go_wp2_with (go_at_call 35; refine HC.out.mono ?_; rintro e w1 ⟨rfl, rfl⟩; clear HC)
          go_ret
          exact ⟨by rw [HV.out] <;> rfl, HB.out⟩
      · have hji : ¬ (k : Int) < (n : Int) := by omega
        have HV := Lib.hid (HT.out (fun j h h' => HO.out j h h' (by have := HN.out; omega)))
        go_wp2_with fail
        go_ret
        exact ⟨by rw [HV.out] <;> rfl, HB.out⟩
  · have g : ((n : Int) != (n' : Int)) = true := by rw [bne_iff_ne]; omega
    have HV : Hid (b = false) := Lib.hid (by rw [← hb]; exact map_len _ (by rw [← HN.out, ← HN'.out]; exact q))
    clear hb
    go_enter Try.func34, Try.ntmps34
    go_wp2_with fail
    go_ret
    exact ⟨by rw [HV.out] <;> rfl, Below.refl _ _⟩

theorem p_same (x y : Lk) : decide (x.p = y.p) = ((x.sess == y.sess) && ((x.a == y.a) && ((x.b == y.b) && decide (texts x.ws = texts y.ws)))) := by
  unfold Lk.p
  by_cases h0 : x.sess = y.sess <;> by_cases h1 : x.a = y.a <;> by_cases h2 : x.b = y.b <;> by_cases h3 : texts x.ws = texts y.ws <;> simp [h0, h1, h2, h3]

set_option maxHeartbeats 4000000 in
theorem same1_any (x y : Lk) (b : Bool) (hb : decide (x.p = y.p) = b) (w : World) (H : LinkIs w x) (H' : LinkIs w y) :
    Calls Try.prog 31 #[linkV x, linkV y] w fun e w' => e = .returned (.bool b) ∧ Below w.heap.size w w' := by
  have B0 := Lib.hid (((Below.refl w.heap.size w).alloc (Nat.le_refl _) (.cells #[.int .i64 x.sess, .int .i64 x.a, .int .i64 x.b, x.wv] 24)).alloc (by simp) (.cells #[.int .i64 y.sess, .int .i64 y.a, .int .i64 y.b, y.wv] 24))
  have HC := Lib.hid (eqc_any x.wv y.wv x.ws y.ws _ rfl _ (H.call B0.out) (H'.call B0.out))
  rw [p_same] at hb
  obtain ⟨p, n, c, hv, -⟩ := H.form
  obtain ⟨p', n', c', hv', -⟩ := H'.form
  obtain ⟨s, a, bb, wv, ws⟩ := x
  obtain ⟨s', a', bb', wv', ws'⟩ := y
  simp only at H H' HC hb B0 hv hv' ⊢
  subst hv; subst hv'
  generalize decide (texts ws = texts ws') = m at *
  clear H H'
  cases e0 : (s == s') with
  | false =>
    rw [e0, Bool.false_and] at hb
    subst hb
    clear HC
    go_enter Try.func31, Try.ntmps31
    go_wp2_with fail
    go_ret
    exact ⟨by first | rfl | (simp; done), B0.out⟩
  | true =>
    rw [e0, Bool.true_and] at hb
    cases e1 : (a == a') with
    | false =>
      rw [e1, Bool.false_and] at hb
      subst hb
      clear HC
      go_enter Try.func31, Try.ntmps31
      go_wp2_with fail
      go_ret
      exact ⟨by first | rfl | (simp; done), B0.out⟩
    | true =>
      rw [e1, Bool.true_and] at hb
      cases e2 : (bb == bb') with
      | false =>
        rw [e2, Bool.false_and] at hb
        subst hb
        clear HC
        go_enter Try.func31, Try.ntmps31
        go_wp2_with fail
        go_ret
        exact ⟨by first | rfl | (simp; done), B0.out⟩
      | true =>
        rw [e2, Bool.true_and] at hb
        subst hb
        go_enter Try.func31, Try.ntmps31
        go_wp2_with (go_at_call 34; refine HC.out.mono ?_; rintro e w1 ⟨rfl, b1⟩; have B1 := Lib.hid (B0.out.trans (b1.mono (by have := B0.out.size; simp <;> omega))); clear HC b1)
        go_ret
        exact ⟨by first | rfl | (simp; done), B1.out⟩

/-- the four cells of a link at a place -/
theorem link_cells_at {w : World} {b o : Nat} {x : Lk} (h : OneAt links w b o x) : w.cell? ⟨b, o, none⟩ = some (.int .i64 x.sess) ∧ w.cell? ⟨b, o + 1, none⟩ = some (.int .i64 x.a) ∧ w.cell? ⟨b, o + 2, none⟩ = some (.int .i64 x.b) ∧ w.cell? ⟨b, o + 3, none⟩ = some x.wv :=
  ⟨h.2 0 (by decide), h.2 1 (by decide), h.2 2 (by decide), h.2 3 (by decide)⟩

set_option maxHeartbeats 4000000 in
theorem eql_any (u v : Value) (l m : List Lk) (b : Bool) (hb : sameLs (plains l) (plains m) = b) (w : World) (H : RowIs links w u l) (H' : RowIs links w v m) :
    Calls Try.prog 30 #[u, v, .func (.func 31) #[] #[]] w fun e w' => e = .returned (.bool b) ∧ Below w.heap.size w w' := by
  have hmax := H.max
  have hmax' := H'.max
  obtain ⟨p, n, c, rfl, hn⟩ := H.form
  obtain ⟨p', n', c', rfl, hn'⟩ := H'.form
  have HN := Lib.hid hn
  have HN' := Lib.hid hn'
  have HR := Lib.hid H
  have HR' := Lib.hid H'
  rw [← hn] at hmax
  rw [← hn'] at hmax'
  clear hn hn' H H'
  by_cases q : n = n'
  · subst q
    have g : ((n : Int) != (n : Int)) = false := by simp
    have HT : Hid ((∀ k (h : k < l.length) (h' : k < m.length), l[k].p = m[k].p) → b = true) := Lib.hid (fun h => by rw [← hb]; exact map_all _ (by rw [← HN.out, ← HN'.out]) h)
    have HX : Hid (∀ k (h : k < l.length) (h' : k < m.length), l[k].p ≠ m[k].p → b = false) := Lib.hid (fun k h h' hn => by rw [← hb]; exact map_no _ h h' hn)
    clear hb
    go_enter Try.func30, Try.ntmps30
    go_wp2_with fail
    go_loopw [17] (fun x5 wr => ∃ (k : Nat), x5 = .int .i64 (k : Int) ∧ k ≤ n ∧ Hid (∀ j (h : j < l.length) (h' : j < m.length), j < k → l[j].p = m[j].p) ∧ Hid (Below w.heap.size w wr)) (fun i _ => n - (intOf i).toNat)
    case atStart => exact ⟨0, rfl, Nat.zero_le _, Lib.hid (fun j _ _ hj => absurd hj (Nat.not_lt_zero j)), Lib.hid (Below.refl _ _)⟩
    case round =>
      obtain ⟨k, rfl, hk, HO, HB⟩ := hrel
      by_cases hlt : k < n
      · have hji : (k : Int) < (n : Int) := by omega
        have HK : Hid (k + 1 ≤ n) := Lib.hid hlt
        have hkl : k < l.length := by rw [← HN.out]; exact hlt
        have hkm : k < m.length := by rw [← HN'.out]; exact hlt
        have HR1 := HR.out.call HB.out
        have HR2 := HR'.out.call HB.out
        have HX1 := Lib.hid (HR1.1 (l[k]'hkl) (List.getElem_mem hkl))
        have HX2 := Lib.hid (HR2.1 (m[k]'hkm) (List.getElem_mem hkm))
        obtain ⟨b1, o1, rfl, hb1, hc1⟩ := HR1.some (by omega)
        obtain ⟨b2, o2, rfl, hb2, hc2⟩ := HR2.some (by omega)
        obtain ⟨a0, a1, a2, a3⟩ := link_cells_at (hc1 k hkl)
        obtain ⟨d0, d1, d2, d3⟩ := link_cells_at (hc2 k hkm)
        have HXK := Lib.hid (HX.out k hkl hkm)
        have HNK : Hid ((l[k]'hkl).p = (m[k]'hkm).p → ∀ j (h : j < l.length) (h' : j < m.length), j < k + 1 → l[j].p = m[j].p) := Lib.hid (fun h j hj hj' hjk => by
          by_cases e : j = k
          · subst e; exact h
          · exact HO.out j hj hj' (by omega))
        clear hc1 hc2 HR1 HR2
        generalize l[k]'hkl = x at *
        generalize m[k]'hkm = y at *
        obtain ⟨px, nx, cx, hvx, -⟩ := HX1.out.form
        obtain ⟨py, ny, cy, hvy, -⟩ := HX2.out.form
        obtain ⟨xs, xa, xb, xwv, xws⟩ := x
        obtain ⟨ys, ya, yb, ywv, yws⟩ := y
        simp only at a0 a1 a2 a3 d0 d1 d2 d3 HX1 HX2 HXK HNK hvx hvy
        subst hvx
        subst hvy
        have BB := Lib.hid (((Below.refl wr.heap.size wr).alloc (Nat.le_refl _) (.cells #[.int .i64 xs, .int .i64 xa, .int .i64 xb, .slice px nx cx] 24)).alloc (by simp) (.cells #[.int .i64 ys, .int .i64 ya, .int .i64 yb, .slice py ny cy] 24))
        by_cases hq : (⟨xs, xa, xb, .slice px nx cx, xws⟩ : Lk).p = (⟨ys, ya, yb, .slice py ny cy, yws⟩ : Lk).p
        · have HV := Lib.hid (HNK.out hq)
          have HC := Lib.hid (same1_any ⟨xs, xa, xb, .slice px nx cx, xws⟩ ⟨ys, ya, yb, .slice py ny cy, yws⟩ true (decide_eq_true hq) _ (HX1.out.call BB.out) (HX2.out.call BB.out))
          clear hq HXK HNK
          go_wp2_with (go_at_call 31; refine HC.out.mono ?_; rintro e w1 ⟨rfl, b1⟩; have B1 := Lib.hid (dbelow HB.out (dbelow BB.out b1)); clear HC b1)
          go_roundw
          case rel => exact ⟨k + 1, by go_num, HK.out, HV, B1⟩
          case measure => have := HK.out; simp [intOf]; omega
        · have HV := Lib.hid (HXK.out hq)
          have HC := Lib.hid (same1_any ⟨xs, xa, xb, .slice px nx cx, xws⟩ ⟨ys, ya, yb, .slice py ny cy, yws⟩ false (decide_eq_false hq) _ (HX1.out.call BB.out) (HX2.out.call BB.out))
          clear hq HXK HNK
          go_wp2_with (go_at_call 31; refine HC.out.mono ?_; rintro e w1 ⟨rfl, b1⟩; have B1 := Lib.hid (dbelow HB.out (dbelow BB.out b1)); clear HC b1)
          go_ret
          exact ⟨by rw [HV.out] <;> rfl, B1.out⟩
      · have hji : ¬ (k : Int) < (n : Int) := by omega
        have HV := Lib.hid (HT.out (fun j h h' => HO.out j h h' (by have := HN.out; omega)))
        go_wp2_with fail
        go_ret
        exact ⟨by rw [HV.out] <;> rfl, HB.out⟩
  · have g : ((n : Int) != (n' : Int)) = true := by rw [bne_iff_ne]; omega
    have HV : Hid (b = false) := Lib.hid (by rw [← hb]; exact map_len _ (by rw [← HN.out, ← HN'.out]; exact q))
    clear hb
    go_enter Try.func30, Try.ntmps30
    go_wp2_with fail
    go_ret
    exact ⟨by rw [HV.out] <;> rfl, Below.refl _ _⟩

theorem same_any (u v : Value) (l m : List Lk) (b : Bool) (hb : sameLs (plains l) (plains m) = b) (w : World) (H : RowIs links w u l) (H' : RowIs links w v m) :
    Calls Try.prog 22 #[u, v] w fun e w' => e = .returned (.bool b) ∧ Below w.heap.size w w' := by
  have HC := Lib.hid (eql_any u v l m b hb w H H')
  obtain ⟨p, n, c, rfl, -⟩ := H.form
  obtain ⟨p', n', c', rfl, -⟩ := H'.form
  clear H H' hb
  go_enter Try.func22, Try.ntmps22
  go_wp2_with (go_at_call 30; refine HC.out.mono ?_; rintro e w1 ⟨rfl, b1⟩; have B1 := Lib.hid b1; clear HC b1)
  go_ret
  exact ⟨by first | rfl | (simp; done), B1.out⟩

#print axioms same_any
end Go.Proofs.Ytfeiafjeidnmkaa.Da
