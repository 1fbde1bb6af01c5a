/- The contract of the document's answer of layer 2: wharfingerref02.Read. -/
import Derived.Test.YtdimfppijcebjaaGreatDoorQuadCut
import Derived.Test.YtdimfppijcebjaaGreatDoorQuadRead
import Derived.Test.YtdimfppijcebjaaGreatDoorQuadRefText
namespace Go.Proofs.YtdimfppijcebjaaGreatDoor.Quad
open Go.ChangeShapes Go.WideShapes Go.ChangeAt Go.RowKit Go.Sort

theorem read_all {l p q r s : List UInt8} (h : cutL 46 l = [p, q, r, s]) : readB l = (octB p && octB q && octB r && octB s) := by
  unfold readB; rw [h]; simp [Bool.and_assoc]
theorem read_none {l : List UInt8} (h : readB l = false) : readV l = .tuple #[hostV 0 0 0 0, .bool false] := by
  unfold readV; rw [readH_no h, readH_no h, readH_no h, readH_no h, h]
theorem read_four {l p q r s : List UInt8} (h : cutL 46 l = [p, q, r, s]) (hb : readB l = true) : readV l = .tuple #[hostV (getV p 255) (getV q 255) (getV r 255) (getV s 255), .bool true] := by
  unfold readV readH; rw [hb, h]; rfl
theorem cutL_le (c : UInt8) : ∀ (l p : List UInt8), p ∈ cutL c l → p.length ≤ l.length
  | [], p, h => by simp only [cutL, List.mem_singleton] at h; subst h; simp
  | b :: r, p, h => by
    simp only [cutL] at h
    split at h
    · rcases List.mem_cons.1 h with rfl | h
      · simp
      · have := cutL_le c r p h; simp; omega
    · split at h
      · rename_i q t e
        rcases List.mem_cons.1 h with rfl | h
        · have := cutL_le c r q (by rw [e]; simp); simp; omega
        · have := cutL_le c r p (by rw [e]; simp [h]); simp; omega
      · rename_i e; exact absurd e (cutL_ne c r)
theorem own_four {w : World} {base : Nat} {e : TypeId} {v : Value} {p q r s : Value} (h : w.ownsRow base e 1 v 4 [p, q, r, s]) :
    ∃ g cap, v = .slice (some ⟨g, 0, none⟩) 4 cap ∧ base ≤ g ∧ g < w.heap.size ∧ w.cell? ⟨g, 0, none⟩ = some p ∧ w.cell? ⟨g, 1, none⟩ = some q ∧ w.cell? ⟨g, 2, none⟩ = some r ∧ w.cell? ⟨g, 3, none⟩ = some s := by
  rcases h.2 with ⟨_, h0⟩ | ⟨g, cap, cur, hv, hg, hh, _, _, _, ht⟩
  · cases h0
  · have row : IsRow w g e cur := hh
    have at_ : ∀ i, i < 4 → w.cell? ⟨g, i, none⟩ = ([p, q, r, s] : List Value)[i]? := fun i hi => by
      rw [row.cell i, ← ht, List.getElem?_take_of_lt (by omega), Array.getElem?_toList]
    exact ⟨g, cap, hv, hg, row.lt, at_ 0 (by omega), at_ 1 (by omega), at_ 2 (by omega), at_ 3 (by omega)⟩
theorem cell_over {w : World} {a : Addr} {v : Value} (h : w.cell? a = some v) (o : Obj) : (w.alloc o).cell? a = some v := by
  rw [((Below.refl w.heap.size w).alloc (Nat.le_refl _) o).cell (World.block_lt_of_cell? w _ h)]; exact h

set_option maxHeartbeats 2000000 in
set_option maxRecDepth 100000 in
theorem rread_any (l : List UInt8) (hl : l.length ≤ 1000000) (w : World) :
    Calls Tryz.prog 50 #[str l] w fun e w' => e = .returned (readV l) ∧ Below w.heap.size w w' := by
  go_enter Tryz.func50, Tryz.ntmps50
  go_wp2_with (go_at_call 47; refine (rcut_any 46 46 rfl l hl _).mono ?_)
  rintro e w1 ⟨v, rfl, hown, b1⟩
  have B1 : Below w.heap.size w w1 := ((Below.refl _ _).alloc (Nat.le_refl _) _).trans (b1.mono (by simp))
  have Q1 : IsRow w1 w.heap.size 28 #[.int .u8 0, .int .u8 0, .int .u8 0, .int .u8 0] := (IsRow.made w _ _).call b1
  have hN := Q1.lt
  clear b1
  have z0 : w1.cell? ⟨w.heap.size, 0, none⟩ = some (.int .u8 0) := Q1.cell 0
  have y0 : w1.frozen? ⟨w.heap.size, 0, none⟩ = false := Q1.free 0
  have z1 : w1.cell? ⟨w.heap.size, 1, none⟩ = some (.int .u8 0) := Q1.cell 1
  have y1 : w1.frozen? ⟨w.heap.size, 1, none⟩ = false := Q1.free 1
  have z2 : w1.cell? ⟨w.heap.size, 2, none⟩ = some (.int .u8 0) := Q1.cell 2
  have y2 : w1.frozen? ⟨w.heap.size, 2, none⟩ = false := Q1.free 2
  have z3 : w1.cell? ⟨w.heap.size, 3, none⟩ = some (.int .u8 0) := Q1.cell 3
  have y3 : w1.frozen? ⟨w.heap.size, 3, none⟩ = false := Q1.free 3
  by_cases h4 : (cutL 46 l).length = 4
  · obtain ⟨p, q, r, s, hc⟩ : ∃ p q r s, cutL 46 l = [p, q, r, s] := by
      match h : cutL 46 l, h4 with
      | [p, q, r, s], _ => exact ⟨p, q, r, s, rfl⟩
    rw [hc] at hown
    obtain ⟨g, cap, rfl, hg, hgl, x0, x1, x2, x3⟩ := own_four hown
    have hA := Lib.hid (read_all hc)
    have hR := Lib.hid (fun hb => read_four hc hb)
    have lp : p.length ≤ 9223372036854775807 := by have := cutL_le 46 l p (by rw [hc]; simp); omega
    have lop := getV_lo p 255
    have hip := getV_hi (l := p) (most := 255) (by omega)
    have lq : q.length ≤ 9223372036854775807 := by have := cutL_le 46 l q (by rw [hc]; simp); omega
    have loq := getV_lo q 255
    have hiq := getV_hi (l := q) (most := 255) (by omega)
    have lr : r.length ≤ 9223372036854775807 := by have := cutL_le 46 l r (by rw [hc]; simp); omega
    have lor := getV_lo r 255
    have hir := getV_hi (l := r) (most := 255) (by omega)
    have ls : s.length ≤ 9223372036854775807 := by have := cutL_le 46 l s (by rw [hc]; simp); omega
    have los := getV_lo s 255
    have his := getV_hi (l := s) (most := 255) (by omega)
    have G := Lib.hid (fun (y : List UInt8) (W : World) (hy : y.length ≤ 9223372036854775807) => rget_any y hy 255 W)
    clear hc hown h4 hl hg
    go_wp2_with fail
    refine wp_loop_rounds 5 ?_
    cases hp : octB p with
    | false =>
      have hV := Lib.hid (read_none (l := l) (by rw [hA.out, hp]; simp))
      have gp := Lib.hid (got_no (show getB p 255 = false from hp))
      clear hp
      rw [rounds_succ]
      go_wp2_with (go_at_call 48; refine (G.out p _ lp).mono ?_; rintro e w' ⟨he, rfl⟩; rw [gp.out] at he; subst he)
      generalize hW : World.alloc (World.setCell _ _ _) _ = W9
      have FR : IsRow W9 w.heap.size 28 #[.int .u8 0, .int .u8 0, .int .u8 0, .int .u8 0] := by rw [← hW]; exact ((((Q1.set 0 _).set 1 _).set 2 _).set 3 _).alloc _
      have B9 : Below w.heap.size w W9 := by rw [← hW]; exact ((((B1.setCell (Nat.le_refl _) _).setCell (Nat.le_refl _) _).setCell (Nat.le_refl _) _).setCell (Nat.le_refl _) _).alloc (by simp; omega) _
      have g0 : W9.cell? ⟨w.heap.size, 0, none⟩ = some (.int .u8 (0)) := FR.cell 0
      have g1 : W9.cell? ⟨w.heap.size, 1, none⟩ = some (.int .u8 (0)) := FR.cell 1
      have g2 : W9.cell? ⟨w.heap.size, 2, none⟩ = some (.int .u8 (0)) := FR.cell 2
      have g3 : W9.cell? ⟨w.heap.size, 3, none⟩ = some (.int .u8 (0)) := FR.cell 3
      exact bodyPost_ret (v := .tuple #[hostV 0 0 0 0, .bool false]) (by simp [results, Tryz.results50, go_sem, g0, g1, g2, g3]) rfl ⟨by rw [hV.out], B9⟩
    | true =>
      have gp := Lib.hid (got_yes (n := getV p 255) (show getB p 255 = true from hp) rfl)
      have Hp := Lib.hid hp
      clear hp
      rw [rounds_succ]
      go_wp2_with (go_at_call 48; refine (G.out p _ lp).mono ?_; rintro e w' ⟨he, rfl⟩; rw [gp.out] at he; subst he)
      cases hq : octB q with
      | false =>
        have hV := Lib.hid (read_none (l := l) (by rw [hA.out, hq]; simp))
        have gq := Lib.hid (got_no (show getB q 255 = false from hq))
        clear hq
        rw [rounds_succ]
        go_wp2_with (go_at_call 48; refine (G.out q _ lq).mono ?_; rintro e w' ⟨he, rfl⟩; rw [gq.out] at he; subst he)
        generalize hW : World.alloc (World.setCell _ _ _) _ = W9
        have FR : IsRow W9 w.heap.size 28 #[.int .u8 0, .int .u8 0, .int .u8 0, .int .u8 0] := by rw [← hW]; exact ((((Q1.set 0 _).set 1 _).set 2 _).set 3 _).alloc _
        have B9 : Below w.heap.size w W9 := by rw [← hW]; exact ((((B1.setCell (Nat.le_refl _) _).setCell (Nat.le_refl _) _).setCell (Nat.le_refl _) _).setCell (Nat.le_refl _) _).alloc (by simp; omega) _
        have g0 : W9.cell? ⟨w.heap.size, 0, none⟩ = some (.int .u8 (0)) := FR.cell 0
        have g1 : W9.cell? ⟨w.heap.size, 1, none⟩ = some (.int .u8 (0)) := FR.cell 1
        have g2 : W9.cell? ⟨w.heap.size, 2, none⟩ = some (.int .u8 (0)) := FR.cell 2
        have g3 : W9.cell? ⟨w.heap.size, 3, none⟩ = some (.int .u8 (0)) := FR.cell 3
        exact bodyPost_ret (v := .tuple #[hostV 0 0 0 0, .bool false]) (by simp [results, Tryz.results50, go_sem, g0, g1, g2, g3]) rfl ⟨by rw [hV.out], B9⟩
      | true =>
        have gq := Lib.hid (got_yes (n := getV q 255) (show getB q 255 = true from hq) rfl)
        have Hq := Lib.hid hq
        clear hq
        rw [rounds_succ]
        go_wp2_with (go_at_call 48; refine (G.out q _ lq).mono ?_; rintro e w' ⟨he, rfl⟩; rw [gq.out] at he; subst he)
        cases hr : octB r with
        | false =>
          have hV := Lib.hid (read_none (l := l) (by rw [hA.out, hr]; simp))
          have gr := Lib.hid (got_no (show getB r 255 = false from hr))
          clear hr
          rw [rounds_succ]
          go_wp2_with (go_at_call 48; refine (G.out r _ lr).mono ?_; rintro e w' ⟨he, rfl⟩; rw [gr.out] at he; subst he)
          generalize hW : World.alloc (World.setCell _ _ _) _ = W9
          have FR : IsRow W9 w.heap.size 28 #[.int .u8 0, .int .u8 0, .int .u8 0, .int .u8 0] := by rw [← hW]; exact ((((Q1.set 0 _).set 1 _).set 2 _).set 3 _).alloc _
          have B9 : Below w.heap.size w W9 := by rw [← hW]; exact ((((B1.setCell (Nat.le_refl _) _).setCell (Nat.le_refl _) _).setCell (Nat.le_refl _) _).setCell (Nat.le_refl _) _).alloc (by simp; omega) _
          have g0 : W9.cell? ⟨w.heap.size, 0, none⟩ = some (.int .u8 (0)) := FR.cell 0
          have g1 : W9.cell? ⟨w.heap.size, 1, none⟩ = some (.int .u8 (0)) := FR.cell 1
          have g2 : W9.cell? ⟨w.heap.size, 2, none⟩ = some (.int .u8 (0)) := FR.cell 2
          have g3 : W9.cell? ⟨w.heap.size, 3, none⟩ = some (.int .u8 (0)) := FR.cell 3
          exact bodyPost_ret (v := .tuple #[hostV 0 0 0 0, .bool false]) (by simp [results, Tryz.results50, go_sem, g0, g1, g2, g3]) rfl ⟨by rw [hV.out], B9⟩
        | true =>
          have gr := Lib.hid (got_yes (n := getV r 255) (show getB r 255 = true from hr) rfl)
          have Hr := Lib.hid hr
          clear hr
          rw [rounds_succ]
          go_wp2_with (go_at_call 48; refine (G.out r _ lr).mono ?_; rintro e w' ⟨he, rfl⟩; rw [gr.out] at he; subst he)
          cases hs : octB s with
          | false =>
            have hV := Lib.hid (read_none (l := l) (by rw [hA.out, hs]; simp))
            have gs := Lib.hid (got_no (show getB s 255 = false from hs))
            clear hs
            rw [rounds_succ]
            go_wp2_with (go_at_call 48; refine (G.out s _ ls).mono ?_; rintro e w' ⟨he, rfl⟩; rw [gs.out] at he; subst he)
            generalize hW : World.alloc (World.setCell _ _ _) _ = W9
            have FR : IsRow W9 w.heap.size 28 #[.int .u8 0, .int .u8 0, .int .u8 0, .int .u8 0] := by rw [← hW]; exact ((((Q1.set 0 _).set 1 _).set 2 _).set 3 _).alloc _
            have B9 : Below w.heap.size w W9 := by rw [← hW]; exact ((((B1.setCell (Nat.le_refl _) _).setCell (Nat.le_refl _) _).setCell (Nat.le_refl _) _).setCell (Nat.le_refl _) _).alloc (by simp; omega) _
            have g0 : W9.cell? ⟨w.heap.size, 0, none⟩ = some (.int .u8 (0)) := FR.cell 0
            have g1 : W9.cell? ⟨w.heap.size, 1, none⟩ = some (.int .u8 (0)) := FR.cell 1
            have g2 : W9.cell? ⟨w.heap.size, 2, none⟩ = some (.int .u8 (0)) := FR.cell 2
            have g3 : W9.cell? ⟨w.heap.size, 3, none⟩ = some (.int .u8 (0)) := FR.cell 3
            exact bodyPost_ret (v := .tuple #[hostV 0 0 0 0, .bool false]) (by simp [results, Tryz.results50, go_sem, g0, g1, g2, g3]) rfl ⟨by rw [hV.out], B9⟩
          | true =>
            have gs := Lib.hid (got_yes (n := getV s 255) (show getB s 255 = true from hs) rfl)
            have Hs := Lib.hid hs
            clear hs
            rw [rounds_succ]
            go_wp2_with (go_at_call 48; refine (G.out s _ ls).mono ?_; rintro e w' ⟨he, rfl⟩; rw [gs.out] at he; subst he)
            have hV := Lib.hid (hR.out (by rw [hA.out, Hp.out, Hq.out, Hr.out, Hs.out]; rfl))
            rw [rounds_succ]
            go_wp2_with fail
            generalize hW : World.alloc (World.setCell _ _ _) _ = W9
            have FR : IsRow W9 w.heap.size 28 #[.int .u8 (getV p 255), .int .u8 (getV q 255), .int .u8 (getV r 255), .int .u8 (getV s 255)] := by rw [← hW]; exact ((((Q1.set 0 _).set 1 _).set 2 _).set 3 _).alloc _
            have B9 : Below w.heap.size w W9 := by rw [← hW]; exact ((((B1.setCell (Nat.le_refl _) _).setCell (Nat.le_refl _) _).setCell (Nat.le_refl _) _).setCell (Nat.le_refl _) _).alloc (by simp; omega) _
            have g0 : W9.cell? ⟨w.heap.size, 0, none⟩ = some (.int .u8 (getV p 255)) := FR.cell 0
            have g1 : W9.cell? ⟨w.heap.size, 1, none⟩ = some (.int .u8 (getV q 255)) := FR.cell 1
            have g2 : W9.cell? ⟨w.heap.size, 2, none⟩ = some (.int .u8 (getV r 255)) := FR.cell 2
            have g3 : W9.cell? ⟨w.heap.size, 3, none⟩ = some (.int .u8 (getV s 255)) := FR.cell 3
            exact bodyPost_ret (v := .tuple #[hostV (getV p 255) (getV q 255) (getV r 255) (getV s 255), .bool true]) (by simp [results, Tryz.results50, go_sem, g0, g1, g2, g3]) rfl ⟨by rw [hV.out], B9⟩
  · have hn : ((((cutL 46 l).length : Nat) : Int) != 4) = true := by rw [bne_iff_ne]; omega
    have hV := Lib.hid (read_none (l := l) (by unfold readB; rw [beq_eq_false_iff_ne.2 h4]; rfl))
    obtain ⟨a, c, rfl⟩ : ∃ a c, v = .slice a (cutL 46 l).length c := by
      rcases hown.2 with ⟨rfl, h0⟩ | ⟨g, cap, cur, rfl, _⟩
      · exact ⟨none, 0, by rw [h0]⟩
      · exact ⟨_, _, rfl⟩
    generalize (cutL 46 l).length = len at hn h4 hown
    go_wp2_with fail
    generalize hW : World.alloc (World.setCell _ _ _) _ = W9
    have FR : IsRow W9 w.heap.size 28 #[.int .u8 0, .int .u8 0, .int .u8 0, .int .u8 0] := by rw [← hW]; exact ((((Q1.set 0 _).set 1 _).set 2 _).set 3 _).alloc _
    have B9 : Below w.heap.size w W9 := by rw [← hW]; exact ((((B1.setCell (Nat.le_refl _) _).setCell (Nat.le_refl _) _).setCell (Nat.le_refl _) _).setCell (Nat.le_refl _) _).alloc (by simp; omega) _
    have g0 : W9.cell? ⟨w.heap.size, 0, none⟩ = some (.int .u8 (0)) := FR.cell 0
    have g1 : W9.cell? ⟨w.heap.size, 1, none⟩ = some (.int .u8 (0)) := FR.cell 1
    have g2 : W9.cell? ⟨w.heap.size, 2, none⟩ = some (.int .u8 (0)) := FR.cell 2
    have g3 : W9.cell? ⟨w.heap.size, 3, none⟩ = some (.int .u8 (0)) := FR.cell 3
    exact bodyPost_ret (v := .tuple #[hostV 0 0 0 0, .bool false]) (by simp [results, Tryz.results50, go_sem, g0, g1, g2, g3]) rfl ⟨by rw [hV.out], B9⟩

end Go.Proofs.YtdimfppijcebjaaGreatDoor.Quad
