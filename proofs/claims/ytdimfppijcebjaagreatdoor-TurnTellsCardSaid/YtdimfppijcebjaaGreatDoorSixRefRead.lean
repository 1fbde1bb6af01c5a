/- The contracts of the document's answer of layer 3: wharfingerref03.Read and Find. -/
import Derived.Test.YtdimfppijcebjaaGreatDoorSixRead
import Derived.Test.YtdimfppijcebjaaGreatDoorQuadCut
namespace Go.Proofs.YtdimfppijcebjaaGreatDoor.Six
open Go.Proofs.YtdimfppijcebjaaGreatDoor.Quad
open Go.ChangeShapes Go.WideShapes Go.ChangeAt Go.RowKit Go.Sort

theorem own_six {w : World} {base : Nat} {e : TypeId} {v : Value} {p q r s t u : Value} (h : w.ownsRow base e 1 v 6 [p, q, r, s, t, u]) :
    ∃ g cap, v = .slice (some ⟨g, 0, none⟩) 6 cap ∧ base ≤ g ∧ g < w.heap.size ∧ w.cell? ⟨g, 0, none⟩ = some p ∧ w.cell? ⟨g, 1, none⟩ = some q ∧ w.cell? ⟨g, 2, none⟩ = some r ∧ w.cell? ⟨g, 3, none⟩ = some s ∧ w.cell? ⟨g, 4, none⟩ = some t ∧ w.cell? ⟨g, 5, none⟩ = some u := by
  rcases h.2 with ⟨_, h0⟩ | ⟨g, cap, cur, hv, hg, hh, _, _, _, ht⟩
  · cases h0
  · have row : IsRow w g e cur := hh
    have at_ : ∀ i, i < 6 → w.cell? ⟨g, i, none⟩ = ([p, q, r, s, t, u] : List Value)[i]? := fun i hi => by
      rw [row.cell i, ← ht, List.getElem?_take_of_lt (by omega), Array.getElem?_toList]
    exact ⟨g, cap, hv, hg, row.lt, at_ 0 (by omega), at_ 1 (by omega), at_ 2 (by omega), at_ 3 (by omega), at_ 4 (by omega), at_ 5 (by omega)⟩
theorem read_six2 {l p q r s t u : List UInt8} (h : cutL 44 l = [p, q, r, s, t, u]) (hb : sixB l = true) : readV l = .tuple #[endV (getV p 255) (getV q 255) (getV r 255) (getV s 255) (256 * getV t 255 + getV u 255), .bool true] := by
  rw [read_six h hb, Int.mul_comm]

set_option maxHeartbeats 2000000 in
set_option maxRecDepth 100000 in
theorem rread_any (l : List UInt8) (hl : l.length ≤ 1000000) (w : World) :
    Calls Tryz.prog 22 #[str l] w fun e w' => e = .returned (readV l) ∧ Below w.heap.size w w' := by
  go_enter Tryz.func22, Tryz.ntmps22
  go_wp2_with (go_at_call 47; refine (rcut_any 44 44 rfl l hl _).mono ?_)
  rintro e w1 ⟨v, rfl, hown, b1⟩
  have B1 : Below w.heap.size w w1 := ((Below.refl _ _).alloc (Nat.le_refl _) _).trans (b1.mono (by simp))
  have Q1 : IsRow w1 w.heap.size 30 #[.int .u8 0, .int .u8 0, .int .u8 0, .int .u8 0, .int .i64 0] := (IsRow.made w _ _).call b1
  have hN := Q1.lt
  clear b1
  have z0 : w1.cell? ⟨w.heap.size, 0, none⟩ = some (.int .u8 0) := Q1.cell 0
  have z1 : w1.cell? ⟨w.heap.size, 1, none⟩ = some (.int .u8 0) := Q1.cell 1
  have z2 : w1.cell? ⟨w.heap.size, 2, none⟩ = some (.int .u8 0) := Q1.cell 2
  have z3 : w1.cell? ⟨w.heap.size, 3, none⟩ = some (.int .u8 0) := Q1.cell 3
  have z4 : w1.cell? ⟨w.heap.size, 4, none⟩ = some (.int .i64 0) := Q1.cell 4
  have y0 : w1.frozen? ⟨w.heap.size, 0, none⟩ = false := Q1.free 0
  have y1 : w1.frozen? ⟨w.heap.size, 1, none⟩ = false := Q1.free 1
  have y2 : w1.frozen? ⟨w.heap.size, 2, none⟩ = false := Q1.free 2
  have y3 : w1.frozen? ⟨w.heap.size, 3, none⟩ = false := Q1.free 3
  have y4 : w1.frozen? ⟨w.heap.size, 4, none⟩ = false := Q1.free 4
  by_cases h6 : (cutL 44 l).length = 6
  · obtain ⟨p, q, r, s, t, u, hc⟩ : ∃ p q r s t u, cutL 44 l = [p, q, r, s, t, u] := by
      match h : cutL 44 l, h6 with
      | [p, q, r, s, t, u], _ => exact ⟨p, q, r, s, t, u, rfl⟩
    rw [hc] at hown
    obtain ⟨g, cap, rfl, hg, hgl, x0, x1, x2, x3, x4, x5⟩ := own_six hown
    have hA := Lib.hid (six_all hc)
    have hR := Lib.hid (fun hb => read_six2 hc hb)
    have lp : p.length ≤ 9223372036854775807 := by have := cutL_le 44 l p (by rw [hc]; simp); omega
    have lop := getV_lo p 255
    have hip := getV_hi (l := p) (most := 255) (by omega)
    have lq : q.length ≤ 9223372036854775807 := by have := cutL_le 44 l q (by rw [hc]; simp); omega
    have loq := getV_lo q 255
    have hiq := getV_hi (l := q) (most := 255) (by omega)
    have lr : r.length ≤ 9223372036854775807 := by have := cutL_le 44 l r (by rw [hc]; simp); omega
    have lor := getV_lo r 255
    have hir := getV_hi (l := r) (most := 255) (by omega)
    have ls : s.length ≤ 9223372036854775807 := by have := cutL_le 44 l s (by rw [hc]; simp); omega
    have los := getV_lo s 255
    have his := getV_hi (l := s) (most := 255) (by omega)
    have lt : t.length ≤ 9223372036854775807 := by have := cutL_le 44 l t (by rw [hc]; simp); omega
    have lot := getV_lo t 255
    have hit := getV_hi (l := t) (most := 255) (by omega)
    have lu : u.length ≤ 9223372036854775807 := by have := cutL_le 44 l u (by rw [hc]; simp); omega
    have lou := getV_lo u 255
    have hiu := getV_hi (l := u) (most := 255) (by omega)
    have G := Lib.hid (fun (y : List UInt8) (W : World) (hy : y.length ≤ 9223372036854775807) => rget_any y hy 255 W)
    clear hc hown h6 hl hg
    go_wp2_with fail
    refine wp_loop_rounds 7 ?_
    cases hp : octB p with
    | false =>
      have hV := Lib.hid (read_none (l := l) (by rw [hA.out, hp]; simp))
      have gp := Lib.hid (got_no (show getB p 255 = false from hp))
      clear hp
      rw [rounds_succ]
      go_wp2_with (go_at_call 48; refine (G.out p _ lp).mono ?_; rintro e w' ⟨he, rfl⟩; rw [gp.out] at he; subst he)
      generalize hW : World.alloc (World.alloc (World.setCell _ _ _) _) _ = W9
      have FR : IsRow W9 w.heap.size 30 #[.int .u8 0, .int .u8 0, .int .u8 0, .int .u8 0, .int .i64 0] := by rw [← hW]; exact ((((((Q1.set 0 _).set 1 _).set 2 _).set 3 _).set 4 _).alloc _).alloc _
      have B9 : Below w.heap.size w W9 := by rw [← hW]; exact ((((((B1.setCell (Nat.le_refl _) _).setCell (Nat.le_refl _) _).setCell (Nat.le_refl _) _).setCell (Nat.le_refl _) _).setCell (Nat.le_refl _) _).alloc (by simp; omega) _).alloc (by simp; omega) _
      have g0 : W9.cell? ⟨w.heap.size, 0, none⟩ = some (.int .u8 0) := FR.cell 0
      have g1 : W9.cell? ⟨w.heap.size, 1, none⟩ = some (.int .u8 0) := FR.cell 1
      have g2 : W9.cell? ⟨w.heap.size, 2, none⟩ = some (.int .u8 0) := FR.cell 2
      have g3 : W9.cell? ⟨w.heap.size, 3, none⟩ = some (.int .u8 0) := FR.cell 3
      have g4 : W9.cell? ⟨w.heap.size, 4, none⟩ = some (.int .i64 0) := FR.cell 4
      exact bodyPost_ret (v := .tuple #[endV 0 0 0 0 0, .bool false]) (by simp [results, Tryz.results22, go_sem, g0, g1, g2, g3, g4]) rfl ⟨by rw [hV.out], B9⟩
    | true =>
      have gp := Lib.hid (got_yes (n := getV p 255) (show getB p 255 = true from hp) rfl)
      have Hp := Lib.hid hp
      clear hp
      rw [rounds_succ]
      go_wp2_with (go_at_call 48; refine (G.out p _ lp).mono ?_; rintro e w' ⟨he, rfl⟩; rw [gp.out] at he; subst he)
      cases hq : octB q with
      | false =>
        have hV := Lib.hid (read_none (l := l) (by rw [hA.out, hq]; simp))
        have gq := Lib.hid (got_no (show getB q 255 = false from hq))
        clear hq
        rw [rounds_succ]
        go_wp2_with (go_at_call 48; refine (G.out q _ lq).mono ?_; rintro e w' ⟨he, rfl⟩; rw [gq.out] at he; subst he)
        generalize hW : World.alloc (World.alloc (World.setCell _ _ _) _) _ = W9
        have FR : IsRow W9 w.heap.size 30 #[.int .u8 0, .int .u8 0, .int .u8 0, .int .u8 0, .int .i64 0] := by rw [← hW]; exact ((((((Q1.set 0 _).set 1 _).set 2 _).set 3 _).set 4 _).alloc _).alloc _
        have B9 : Below w.heap.size w W9 := by rw [← hW]; exact ((((((B1.setCell (Nat.le_refl _) _).setCell (Nat.le_refl _) _).setCell (Nat.le_refl _) _).setCell (Nat.le_refl _) _).setCell (Nat.le_refl _) _).alloc (by simp; omega) _).alloc (by simp; omega) _
        have g0 : W9.cell? ⟨w.heap.size, 0, none⟩ = some (.int .u8 0) := FR.cell 0
        have g1 : W9.cell? ⟨w.heap.size, 1, none⟩ = some (.int .u8 0) := FR.cell 1
        have g2 : W9.cell? ⟨w.heap.size, 2, none⟩ = some (.int .u8 0) := FR.cell 2
        have g3 : W9.cell? ⟨w.heap.size, 3, none⟩ = some (.int .u8 0) := FR.cell 3
        have g4 : W9.cell? ⟨w.heap.size, 4, none⟩ = some (.int .i64 0) := FR.cell 4
        exact bodyPost_ret (v := .tuple #[endV 0 0 0 0 0, .bool false]) (by simp [results, Tryz.results22, go_sem, g0, g1, g2, g3, g4]) rfl ⟨by rw [hV.out], B9⟩
      | true =>
        have gq := Lib.hid (got_yes (n := getV q 255) (show getB q 255 = true from hq) rfl)
        have Hq := Lib.hid hq
        clear hq
        rw [rounds_succ]
        go_wp2_with (go_at_call 48; refine (G.out q _ lq).mono ?_; rintro e w' ⟨he, rfl⟩; rw [gq.out] at he; subst he)
        cases hr : octB r with
        | false =>
          have hV := Lib.hid (read_none (l := l) (by rw [hA.out, hr]; simp))
          have gr := Lib.hid (got_no (show getB r 255 = false from hr))
          clear hr
          rw [rounds_succ]
          go_wp2_with (go_at_call 48; refine (G.out r _ lr).mono ?_; rintro e w' ⟨he, rfl⟩; rw [gr.out] at he; subst he)
          generalize hW : World.alloc (World.alloc (World.setCell _ _ _) _) _ = W9
          have FR : IsRow W9 w.heap.size 30 #[.int .u8 0, .int .u8 0, .int .u8 0, .int .u8 0, .int .i64 0] := by rw [← hW]; exact ((((((Q1.set 0 _).set 1 _).set 2 _).set 3 _).set 4 _).alloc _).alloc _
          have B9 : Below w.heap.size w W9 := by rw [← hW]; exact ((((((B1.setCell (Nat.le_refl _) _).setCell (Nat.le_refl _) _).setCell (Nat.le_refl _) _).setCell (Nat.le_refl _) _).setCell (Nat.le_refl _) _).alloc (by simp; omega) _).alloc (by simp; omega) _
          have g0 : W9.cell? ⟨w.heap.size, 0, none⟩ = some (.int .u8 0) := FR.cell 0
          have g1 : W9.cell? ⟨w.heap.size, 1, none⟩ = some (.int .u8 0) := FR.cell 1
          have g2 : W9.cell? ⟨w.heap.size, 2, none⟩ = some (.int .u8 0) := FR.cell 2
          have g3 : W9.cell? ⟨w.heap.size, 3, none⟩ = some (.int .u8 0) := FR.cell 3
          have g4 : W9.cell? ⟨w.heap.size, 4, none⟩ = some (.int .i64 0) := FR.cell 4
          exact bodyPost_ret (v := .tuple #[endV 0 0 0 0 0, .bool false]) (by simp [results, Tryz.results22, go_sem, g0, g1, g2, g3, g4]) rfl ⟨by rw [hV.out], B9⟩
        | true =>
          have gr := Lib.hid (got_yes (n := getV r 255) (show getB r 255 = true from hr) rfl)
          have Hr := Lib.hid hr
          clear hr
          rw [rounds_succ]
          go_wp2_with (go_at_call 48; refine (G.out r _ lr).mono ?_; rintro e w' ⟨he, rfl⟩; rw [gr.out] at he; subst he)
          cases hs : octB s with
          | false =>
            have hV := Lib.hid (read_none (l := l) (by rw [hA.out, hs]; simp))
            have gs := Lib.hid (got_no (show getB s 255 = false from hs))
            clear hs
            rw [rounds_succ]
            go_wp2_with (go_at_call 48; refine (G.out s _ ls).mono ?_; rintro e w' ⟨he, rfl⟩; rw [gs.out] at he; subst he)
            generalize hW : World.alloc (World.alloc (World.setCell _ _ _) _) _ = W9
            have FR : IsRow W9 w.heap.size 30 #[.int .u8 0, .int .u8 0, .int .u8 0, .int .u8 0, .int .i64 0] := by rw [← hW]; exact ((((((Q1.set 0 _).set 1 _).set 2 _).set 3 _).set 4 _).alloc _).alloc _
            have B9 : Below w.heap.size w W9 := by rw [← hW]; exact ((((((B1.setCell (Nat.le_refl _) _).setCell (Nat.le_refl _) _).setCell (Nat.le_refl _) _).setCell (Nat.le_refl _) _).setCell (Nat.le_refl _) _).alloc (by simp; omega) _).alloc (by simp; omega) _
            have g0 : W9.cell? ⟨w.heap.size, 0, none⟩ = some (.int .u8 0) := FR.cell 0
            have g1 : W9.cell? ⟨w.heap.size, 1, none⟩ = some (.int .u8 0) := FR.cell 1
            have g2 : W9.cell? ⟨w.heap.size, 2, none⟩ = some (.int .u8 0) := FR.cell 2
            have g3 : W9.cell? ⟨w.heap.size, 3, none⟩ = some (.int .u8 0) := FR.cell 3
            have g4 : W9.cell? ⟨w.heap.size, 4, none⟩ = some (.int .i64 0) := FR.cell 4
            exact bodyPost_ret (v := .tuple #[endV 0 0 0 0 0, .bool false]) (by simp [results, Tryz.results22, go_sem, g0, g1, g2, g3, g4]) rfl ⟨by rw [hV.out], B9⟩
          | true =>
            have gs := Lib.hid (got_yes (n := getV s 255) (show getB s 255 = true from hs) rfl)
            have Hs := Lib.hid hs
            clear hs
            rw [rounds_succ]
            go_wp2_with (go_at_call 48; refine (G.out s _ ls).mono ?_; rintro e w' ⟨he, rfl⟩; rw [gs.out] at he; subst he)
            cases ht : octB t with
            | false =>
              have hV := Lib.hid (read_none (l := l) (by rw [hA.out, ht]; simp))
              have gt := Lib.hid (got_no (show getB t 255 = false from ht))
              clear ht
              rw [rounds_succ]
              go_wp2_with (go_at_call 48; refine (G.out t _ lt).mono ?_; rintro e w' ⟨he, rfl⟩; rw [gt.out] at he; subst he)
              generalize hW : World.alloc (World.alloc (World.setCell _ _ _) _) _ = W9
              have FR : IsRow W9 w.heap.size 30 #[.int .u8 0, .int .u8 0, .int .u8 0, .int .u8 0, .int .i64 0] := by rw [← hW]; exact ((((((Q1.set 0 _).set 1 _).set 2 _).set 3 _).set 4 _).alloc _).alloc _
              have B9 : Below w.heap.size w W9 := by rw [← hW]; exact ((((((B1.setCell (Nat.le_refl _) _).setCell (Nat.le_refl _) _).setCell (Nat.le_refl _) _).setCell (Nat.le_refl _) _).setCell (Nat.le_refl _) _).alloc (by simp; omega) _).alloc (by simp; omega) _
              have g0 : W9.cell? ⟨w.heap.size, 0, none⟩ = some (.int .u8 0) := FR.cell 0
              have g1 : W9.cell? ⟨w.heap.size, 1, none⟩ = some (.int .u8 0) := FR.cell 1
              have g2 : W9.cell? ⟨w.heap.size, 2, none⟩ = some (.int .u8 0) := FR.cell 2
              have g3 : W9.cell? ⟨w.heap.size, 3, none⟩ = some (.int .u8 0) := FR.cell 3
              have g4 : W9.cell? ⟨w.heap.size, 4, none⟩ = some (.int .i64 0) := FR.cell 4
              exact bodyPost_ret (v := .tuple #[endV 0 0 0 0 0, .bool false]) (by simp [results, Tryz.results22, go_sem, g0, g1, g2, g3, g4]) rfl ⟨by rw [hV.out], B9⟩
            | true =>
              have gt := Lib.hid (got_yes (n := getV t 255) (show getB t 255 = true from ht) rfl)
              have Ht := Lib.hid ht
              clear ht
              rw [rounds_succ]
              go_wp2_with (go_at_call 48; refine (G.out t _ lt).mono ?_; rintro e w' ⟨he, rfl⟩; rw [gt.out] at he; subst he)
              cases hu : octB u with
              | false =>
                have hV := Lib.hid (read_none (l := l) (by rw [hA.out, hu]; simp))
                have gu := Lib.hid (got_no (show getB u 255 = false from hu))
                clear hu
                rw [rounds_succ]
                go_wp2_with (go_at_call 48; refine (G.out u _ lu).mono ?_; rintro e w' ⟨he, rfl⟩; rw [gu.out] at he; subst he)
                generalize hW : World.alloc (World.alloc (World.setCell _ _ _) _) _ = W9
                have FR : IsRow W9 w.heap.size 30 #[.int .u8 0, .int .u8 0, .int .u8 0, .int .u8 0, .int .i64 0] := by rw [← hW]; exact ((((((Q1.set 0 _).set 1 _).set 2 _).set 3 _).set 4 _).alloc _).alloc _
                have B9 : Below w.heap.size w W9 := by rw [← hW]; exact ((((((B1.setCell (Nat.le_refl _) _).setCell (Nat.le_refl _) _).setCell (Nat.le_refl _) _).setCell (Nat.le_refl _) _).setCell (Nat.le_refl _) _).alloc (by simp; omega) _).alloc (by simp; omega) _
                have g0 : W9.cell? ⟨w.heap.size, 0, none⟩ = some (.int .u8 0) := FR.cell 0
                have g1 : W9.cell? ⟨w.heap.size, 1, none⟩ = some (.int .u8 0) := FR.cell 1
                have g2 : W9.cell? ⟨w.heap.size, 2, none⟩ = some (.int .u8 0) := FR.cell 2
                have g3 : W9.cell? ⟨w.heap.size, 3, none⟩ = some (.int .u8 0) := FR.cell 3
                have g4 : W9.cell? ⟨w.heap.size, 4, none⟩ = some (.int .i64 0) := FR.cell 4
                exact bodyPost_ret (v := .tuple #[endV 0 0 0 0 0, .bool false]) (by simp [results, Tryz.results22, go_sem, g0, g1, g2, g3, g4]) rfl ⟨by rw [hV.out], B9⟩
              | true =>
                have gu := Lib.hid (got_yes (n := getV u 255) (show getB u 255 = true from hu) rfl)
                have Hu := Lib.hid hu
                clear hu
                rw [rounds_succ]
                go_wp2_with (go_at_call 48; refine (G.out u _ lu).mono ?_; rintro e w' ⟨he, rfl⟩; rw [gu.out] at he; subst he)
                have hV := Lib.hid (hR.out (by rw [hA.out, Hp.out, Hq.out, Hr.out, Hs.out, Ht.out, Hu.out]; rfl))
                clear x0 x1 x2 x3 x4 x5 lp lq lr ls lt lu G
                rw [rounds_succ]
                go_wp2_with fail
                refine wp_loop_rounds 5 ?_
                rw [rounds_succ]
                go_wp2_with fail
                rw [rounds_succ]
                go_wp2_with fail
                rw [rounds_succ]
                go_wp2_with fail
                rw [rounds_succ]
                go_wp2_with fail
                rw [rounds_succ]
                go_wp2_with fail
                generalize hW : World.alloc (World.alloc (World.setCell _ _ _) _) _ = W9
                have FR : IsRow W9 w.heap.size 30 #[.int .u8 (getV p 255), .int .u8 (getV q 255), .int .u8 (getV r 255), .int .u8 (getV s 255), .int .i64 (256 * getV t 255 + getV u 255)] := by rw [← hW]; exact ((((((Q1.set 0 _).set 1 _).set 2 _).set 3 _).set 4 _).alloc _).alloc _
                have B9 : Below w.heap.size w W9 := by rw [← hW]; exact ((((((B1.setCell (Nat.le_refl _) _).setCell (Nat.le_refl _) _).setCell (Nat.le_refl _) _).setCell (Nat.le_refl _) _).setCell (Nat.le_refl _) _).alloc (by simp; omega) _).alloc (by simp; omega) _
                have g0 : W9.cell? ⟨w.heap.size, 0, none⟩ = some (.int .u8 (getV p 255)) := FR.cell 0
                have g1 : W9.cell? ⟨w.heap.size, 1, none⟩ = some (.int .u8 (getV q 255)) := FR.cell 1
                have g2 : W9.cell? ⟨w.heap.size, 2, none⟩ = some (.int .u8 (getV r 255)) := FR.cell 2
                have g3 : W9.cell? ⟨w.heap.size, 3, none⟩ = some (.int .u8 (getV s 255)) := FR.cell 3
                have g4 : W9.cell? ⟨w.heap.size, 4, none⟩ = some (.int .i64 (256 * getV t 255 + getV u 255)) := FR.cell 4
                exact bodyPost_ret (v := .tuple #[endV (getV p 255) (getV q 255) (getV r 255) (getV s 255) (256 * getV t 255 + getV u 255), .bool true]) (by simp [results, Tryz.results22, go_sem, g0, g1, g2, g3, g4]) rfl ⟨by rw [hV.out], B9⟩
  · have hn : ((((cutL 44 l).length : Nat) : Int) != 6) = true := by rw [bne_iff_ne]; omega
    have hV := Lib.hid (read_none (l := l) (by unfold sixB; rw [beq_eq_false_iff_ne.2 h6]; rfl))
    obtain ⟨a, c, rfl⟩ : ∃ a c, v = .slice a (cutL 44 l).length c := by
      rcases hown.2 with ⟨rfl, h0⟩ | ⟨g, cap, cur, rfl, _⟩
      · exact ⟨none, 0, by rw [h0]⟩
      · exact ⟨_, _, rfl⟩
    generalize (cutL 44 l).length = len at hn h6 hown
    go_wp2_with fail
    generalize hW : World.alloc (World.setCell _ _ _) _ = W9
    have FR : IsRow W9 w.heap.size 30 #[.int .u8 0, .int .u8 0, .int .u8 0, .int .u8 0, .int .i64 0] := by rw [← hW]; exact (((((Q1.set 0 _).set 1 _).set 2 _).set 3 _).set 4 _).alloc _
    have B9 : Below w.heap.size w W9 := by rw [← hW]; exact (((((B1.setCell (Nat.le_refl _) _).setCell (Nat.le_refl _) _).setCell (Nat.le_refl _) _).setCell (Nat.le_refl _) _).setCell (Nat.le_refl _) _).alloc (by simp; omega) _
    have g0 : W9.cell? ⟨w.heap.size, 0, none⟩ = some (.int .u8 0) := FR.cell 0
    have g1 : W9.cell? ⟨w.heap.size, 1, none⟩ = some (.int .u8 0) := FR.cell 1
    have g2 : W9.cell? ⟨w.heap.size, 2, none⟩ = some (.int .u8 0) := FR.cell 2
    have g3 : W9.cell? ⟨w.heap.size, 3, none⟩ = some (.int .u8 0) := FR.cell 3
    have g4 : W9.cell? ⟨w.heap.size, 4, none⟩ = some (.int .i64 0) := FR.cell 4
    exact bodyPost_ret (v := .tuple #[endV 0 0 0 0 0, .bool false]) (by simp [results, Tryz.results22, go_sem, g0, g1, g2, g3, g4]) rfl ⟨by rw [hV.out], B9⟩

#print axioms rread_any
end Go.Proofs.YtdimfppijcebjaaGreatDoor.Six
