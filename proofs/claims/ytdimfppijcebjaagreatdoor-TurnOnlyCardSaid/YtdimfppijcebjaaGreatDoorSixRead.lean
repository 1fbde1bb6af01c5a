/- The contracts of six.Read and six.Find. -/
import Derived.Test.YtdimfppijcebjaaGreatDoorSixPure
import Derived.Test.YtdimfppijcebjaaGreatDoorQuadCode
import Derived.BigQuiet
namespace Go.Proofs.YtdimfppijcebjaaGreatDoor.Six
open Go.Proofs.YtdimfppijcebjaaGreatDoor.Quad
open Go.ChangeShapes Go.WideShapes Go.ChangeAt Go.RowKit Go.Sort

def SplitPost (l : List UInt8) (w : World) (e : Ending) (w' : World) : Prop :=
  ∃ c, e = .returned (.slice (some ⟨w.heap.size, 0, none⟩) (parts7 l).length c) ∧ (∀ (j : Nat) x, (parts7 l)[j]? = some x → w'.cell? ⟨w.heap.size, j, none⟩ = some (str x)) ∧ w.heap.size < w'.heap.size ∧ Below w.heap.size w w'

theorem splitN_any (l : List UInt8) (hl : l.length < 4294967281) (w : World) (E : Env w) :
    Calls Tryz.prog 67 #[str l, .string ⟨#[44]⟩, .int .i64 7] w (SplitPost l w) := by
  obtain ⟨m, hm⟩ := E.most
  have c := Tryz.strings_SplitN ⟨l.toArray⟩ ⟨#[44]⟩ 7 m w (by rw [size_mk]; exact hl) hm (by decide) (by omega) (by omega)
  have hd := Lib.splitB_data ⟨#[44]⟩ 0 (min 7 (l.length + 1) - 1) ⟨l.toArray⟩
  rw [size_mk] at c
  generalize Lib.splitB ⟨#[44]⟩ 0 (min 7 (l.length + 1) - 1) ⟨l.toArray⟩ = ps at c hd
  have hp : ps.map (·.data.toList) = parts7 l := by rw [hd]; unfold parts7; simp
  refine c.mono fun e w' ⟨he, hw⟩ => ⟨min 7 (l.length + 1), ?_, ?_, ?_, ?_⟩
  · rw [he, ← hp]; simp
  · intro j x hx
    rw [← hp, List.getElem?_map] at hx
    cases hj : ps[j]? with
    | none => rw [hj] at hx; cases hx
    | some y =>
      rw [hj] at hx
      simp only [Option.map_some, Option.some.injEq] at hx
      subst hx
      have hlt : j < ps.length := by
        rcases Nat.lt_or_ge j ps.length with h | h
        · exact h
        · rw [List.getElem?_eq_none h] at hj; cases hj
      have := (IsRow.made w 9 (Lib.cellsOf ps (min 7 (l.length + 1)))).cell j
      rw [hw, this]
      unfold Lib.cellsOf
      rw [List.getElem?_toArray, List.getElem?_append_left (by simpa using hlt), List.getElem?_map, hj]
      rfl
  · rw [hw]; simp
  · rw [hw]; exact (Below.refl _ _).alloc (Nat.le_refl _) _

/-- what Read answers -/
abbrev readV (l : List UInt8) : Value := .tuple #[endV (sixN l 0) (sixN l 1) (sixN l 2) (sixN l 3) (sixP l), .bool (sixB l)]
theorem read_none {l : List UInt8} (h : sixB l = false) : readV l = .tuple #[endV 0 0 0 0 0, .bool false] := by
  unfold readV; rw [sixN_no h, sixN_no h, sixN_no h, sixN_no h, sixP_no h, h]
theorem read_six {l p q r s t u : List UInt8} (h : cutL 44 l = [p, q, r, s, t, u]) (hb : sixB l = true) : readV l = .tuple #[endV (getV p 255) (getV q 255) (getV r 255) (getV s 255) (getV t 255 * 256 + getV u 255), .bool true] := by
  unfold readV sixP sixN; rw [hb, h]; rfl

set_option maxHeartbeats 2000000 in
set_option maxRecDepth 100000 in
theorem read_any (l : List UInt8) (hl : l.length ≤ 1000000) (w : World) (E : Env w) :
    Calls Tryz.prog 43 #[str l] w fun e w' => e = .returned (readV l) ∧ Below w.heap.size w w' := by
  go_enter Tryz.func43, Tryz.ntmps43
  go_wp2_with (go_at_call 67; refine (splitN_any l (by omega) _ ?_).mono ?_)
  · exact E.alloc _
  rintro e w1 ⟨cap, rfl, hcells, hg, b1⟩
  have B1 : Below w.heap.size w w1 := ((Below.refl _ _).alloc (Nat.le_refl _) _).trans (b1.mono (by simp))
  have Q1 : IsRow w1 w.heap.size 30 #[.int .u8 0, .int .u8 0, .int .u8 0, .int .u8 0, .int .i64 0] := (IsRow.made w _ _).call b1
  have hN := Q1.lt
  clear b1
  by_cases h6 : (parts7 l).length = 6
  · obtain ⟨p, q, r, s, t, u, hc⟩ : ∃ p q r s t u, parts7 l = [p, q, r, s, t, u] := by
      match h : parts7 l, h6 with
      | [p, q, r, s, t, u], _ => exact ⟨p, q, r, s, t, u, rfl⟩
    have hc' : cutL 44 l = [p, q, r, s, t, u] := by rw [← parts7_is h6]; exact hc
    have hA := Lib.hid (six_all hc')
    have hR := Lib.hid (fun hb => read_six hc' hb)
    rw [hc] at hcells
    rw [show (w.alloc (.cells #[.int .u8 0, .int .u8 0, .int .u8 0, .int .u8 0, .int .i64 0] 30)).heap.size = w.heap.size + 1 from by simp] at hcells hg
    have x0 : w1.cell? ⟨w.heap.size + 1, 0, none⟩ = some (str p) := hcells 0 p rfl
    have x1 : w1.cell? ⟨w.heap.size + 1, 1, none⟩ = some (str q) := hcells 1 q rfl
    have x2 : w1.cell? ⟨w.heap.size + 1, 2, none⟩ = some (str r) := hcells 2 r rfl
    have x3 : w1.cell? ⟨w.heap.size + 1, 3, none⟩ = some (str s) := hcells 3 s rfl
    have x4 : w1.cell? ⟨w.heap.size + 1, 4, none⟩ = some (str t) := hcells 4 t rfl
    have x5 : w1.cell? ⟨w.heap.size + 1, 5, none⟩ = some (str u) := hcells 5 u rfl
    have lop := getV_lo p 255
    have hip := getV_hi (l := p) (most := 255) (by omega)
    have loq := getV_lo q 255
    have hiq := getV_hi (l := q) (most := 255) (by omega)
    have lor := getV_lo r 255
    have hir := getV_hi (l := r) (most := 255) (by omega)
    have los := getV_lo s 255
    have his := getV_hi (l := s) (most := 255) (by omega)
    have lot := getV_lo t 255
    have hit := getV_hi (l := t) (most := 255) (by omega)
    have lou := getV_lo u 255
    have hiu := getV_hi (l := u) (most := 255) (by omega)
    rw [hc]
    clear hc hc' hcells h6 hl
    go_wp2_with fail
    refine wp_loop_rounds 7 ?_
    have D0 : Below w1.heap.size w1 (w1.alloc (.cells #[.int .u8 0, .int .u8 0, .int .u8 0, .int .u8 0, .int .u8 0, .int .u8 0] 88)) := (Below.refl _ _).alloc (Nat.le_refl _) _
    have N0 : IsRow (w1.alloc (.cells #[.int .u8 0, .int .u8 0, .int .u8 0, .int .u8 0, .int .u8 0, .int .u8 0] 88)) w1.heap.size 88 #[.int .u8 0, .int .u8 0, .int .u8 0, .int .u8 0, .int .u8 0, .int .u8 0] := IsRow.made _ _ _
    cases hp : octB p with
    | false =>
      have hV := Lib.hid (read_none (l := l) (by rw [hA.out, hp]; simp))
      have gp := Lib.hid (got_no (show getB p 255 = false from hp))
      clear hp
      rw [rounds_succ]
      have z0 : (w1.alloc (.cells #[.int .u8 0, .int .u8 0, .int .u8 0, .int .u8 0, .int .u8 0, .int .u8 0] 88)).cell? ⟨w.heap.size + 1, 0, none⟩ = some (str p) := by rw [D0.cell (p := ⟨w.heap.size + 1, 0, none⟩) hg]; exact x0
      go_wp2_with (go_at_call 68; refine (get_any p 255 _ ?_).mono ?_)
      · exact E.below (below_trans B1 D0)
      rintro e v1 ⟨he, m⟩
      rw [gp.out] at he
      subst he
      have D1 : Below w1.heap.size w1 v1 := D0.trans (m.mono D0.size)
      have N1 : IsRow v1 w1.heap.size 88 #[.int .u8 0, .int .u8 0, .int .u8 0, .int .u8 0, .int .u8 0, .int .u8 0] := N0.call m
      clear m z0
      have Q := Q1.below D1 hN
      have B := B1.trans (D1.mono (Nat.le_of_lt hN))
      have qq0 : v1.cell? ⟨w.heap.size, 0, none⟩ = some (.int .u8 0) := Q.cell 0
      have qq1 : v1.cell? ⟨w.heap.size, 1, none⟩ = some (.int .u8 0) := Q.cell 1
      have qq2 : v1.cell? ⟨w.heap.size, 2, none⟩ = some (.int .u8 0) := Q.cell 2
      have qq3 : v1.cell? ⟨w.heap.size, 3, none⟩ = some (.int .u8 0) := Q.cell 3
      have qq4 : v1.cell? ⟨w.heap.size, 4, none⟩ = some (.int .i64 0) := Q.cell 4
      have ff0 : v1.frozen? ⟨w.heap.size, 0, none⟩ = false := Q.free 0
      have ff1 : v1.frozen? ⟨w.heap.size, 1, none⟩ = false := Q.free 1
      have ff2 : v1.frozen? ⟨w.heap.size, 2, none⟩ = false := Q.free 2
      have ff3 : v1.frozen? ⟨w.heap.size, 3, none⟩ = false := Q.free 3
      have ff4 : v1.frozen? ⟨w.heap.size, 4, none⟩ = false := Q.free 4
      go_wp2_with fail
      generalize hW : World.setCell _ _ _ = W9
      have FR : IsRow W9 w.heap.size 30 #[.int .u8 0, .int .u8 0, .int .u8 0, .int .u8 0, .int .i64 0] := by rw [← hW]; exact ((((Q.set 0 _).set 1 _).set 2 _).set 3 _).set 4 _
      have B9 : Below w.heap.size w W9 := by rw [← hW]; exact ((((B.setCell (Nat.le_refl _) _).setCell (Nat.le_refl _) _).setCell (Nat.le_refl _) _).setCell (Nat.le_refl _) _).setCell (Nat.le_refl _) _
      have y0 : W9.cell? ⟨w.heap.size, 0, none⟩ = some (.int .u8 0) := FR.cell 0
      have y1 : W9.cell? ⟨w.heap.size, 1, none⟩ = some (.int .u8 0) := FR.cell 1
      have y2 : W9.cell? ⟨w.heap.size, 2, none⟩ = some (.int .u8 0) := FR.cell 2
      have y3 : W9.cell? ⟨w.heap.size, 3, none⟩ = some (.int .u8 0) := FR.cell 3
      have y4 : W9.cell? ⟨w.heap.size, 4, none⟩ = some (.int .i64 0) := FR.cell 4
      exact bodyPost_ret (v := .tuple #[endV 0 0 0 0 0, .bool false]) (by simp [results, Tryz.results43, go_sem, y0, y1, y2, y3, y4]) rfl ⟨by rw [hV.out], B9⟩
    | true =>
      have gp := Lib.hid (got_yes (n := getV p 255) (show getB p 255 = true from hp) rfl)
      have Hp := Lib.hid hp
      clear hp
      rw [rounds_succ]
      have z0 : (w1.alloc (.cells #[.int .u8 0, .int .u8 0, .int .u8 0, .int .u8 0, .int .u8 0, .int .u8 0] 88)).cell? ⟨w.heap.size + 1, 0, none⟩ = some (str p) := by rw [D0.cell (p := ⟨w.heap.size + 1, 0, none⟩) hg]; exact x0
      go_wp2_with (go_at_call 68; refine (get_any p 255 _ ?_).mono ?_)
      · exact E.below (below_trans B1 D0)
      rintro e v1 ⟨he, m⟩
      rw [gp.out] at he
      subst he
      have D1 : Below w1.heap.size w1 v1 := D0.trans (m.mono D0.size)
      have N1 : IsRow v1 w1.heap.size 88 #[.int .u8 0, .int .u8 0, .int .u8 0, .int .u8 0, .int .u8 0, .int .u8 0] := N0.call m
      clear m z0
      have c1 : v1.cell? ⟨w1.heap.size, 0, none⟩ = some (.int .u8 0) := N1.cell 0
      have f1 : v1.frozen? ⟨w1.heap.size, 0, none⟩ = false := N1.free 0
      go_wp2_with fail
      clear c1 f1
      cases hq : octB q with
      | false =>
        have hV := Lib.hid (read_none (l := l) (by rw [hA.out, hq]; simp))
        have gq := Lib.hid (got_no (show getB q 255 = false from hq))
        clear hq
        rw [rounds_succ]
        have z1 : (v1.setCell ⟨w1.heap.size, 0, none⟩ (.int .u8 (getV p 255))).cell? ⟨w.heap.size + 1, 1, none⟩ = some (str q) := by rw [(D1.setCell (Nat.le_refl _) _).cell (p := ⟨w.heap.size + 1, 1, none⟩) hg]; exact x1
        go_wp2_with (go_at_call 68; refine (get_any q 255 _ ?_).mono ?_)
        · exact E.below (below_trans B1 (D1.setCell (Nat.le_refl _) _))
        rintro e v2 ⟨he, m⟩
        rw [gq.out] at he
        subst he
        have D2 : Below w1.heap.size w1 v2 := (D1.setCell (Nat.le_refl _) _).trans (m.mono (by have := D1.size; simp; omega))
        have N2 : IsRow v2 w1.heap.size 88 #[.int .u8 (getV p 255), .int .u8 0, .int .u8 0, .int .u8 0, .int .u8 0, .int .u8 0] := (N1.set 0 _).call m
        clear m z1
        have Q := Q1.below D2 hN
        have B := B1.trans (D2.mono (Nat.le_of_lt hN))
        have qq0 : v2.cell? ⟨w.heap.size, 0, none⟩ = some (.int .u8 0) := Q.cell 0
        have qq1 : v2.cell? ⟨w.heap.size, 1, none⟩ = some (.int .u8 0) := Q.cell 1
        have qq2 : v2.cell? ⟨w.heap.size, 2, none⟩ = some (.int .u8 0) := Q.cell 2
        have qq3 : v2.cell? ⟨w.heap.size, 3, none⟩ = some (.int .u8 0) := Q.cell 3
        have qq4 : v2.cell? ⟨w.heap.size, 4, none⟩ = some (.int .i64 0) := Q.cell 4
        have ff0 : v2.frozen? ⟨w.heap.size, 0, none⟩ = false := Q.free 0
        have ff1 : v2.frozen? ⟨w.heap.size, 1, none⟩ = false := Q.free 1
        have ff2 : v2.frozen? ⟨w.heap.size, 2, none⟩ = false := Q.free 2
        have ff3 : v2.frozen? ⟨w.heap.size, 3, none⟩ = false := Q.free 3
        have ff4 : v2.frozen? ⟨w.heap.size, 4, none⟩ = false := Q.free 4
        go_wp2_with fail
        generalize hW : World.setCell _ _ _ = W9
        have FR : IsRow W9 w.heap.size 30 #[.int .u8 0, .int .u8 0, .int .u8 0, .int .u8 0, .int .i64 0] := by rw [← hW]; exact ((((Q.set 0 _).set 1 _).set 2 _).set 3 _).set 4 _
        have B9 : Below w.heap.size w W9 := by rw [← hW]; exact ((((B.setCell (Nat.le_refl _) _).setCell (Nat.le_refl _) _).setCell (Nat.le_refl _) _).setCell (Nat.le_refl _) _).setCell (Nat.le_refl _) _
        have y0 : W9.cell? ⟨w.heap.size, 0, none⟩ = some (.int .u8 0) := FR.cell 0
        have y1 : W9.cell? ⟨w.heap.size, 1, none⟩ = some (.int .u8 0) := FR.cell 1
        have y2 : W9.cell? ⟨w.heap.size, 2, none⟩ = some (.int .u8 0) := FR.cell 2
        have y3 : W9.cell? ⟨w.heap.size, 3, none⟩ = some (.int .u8 0) := FR.cell 3
        have y4 : W9.cell? ⟨w.heap.size, 4, none⟩ = some (.int .i64 0) := FR.cell 4
        exact bodyPost_ret (v := .tuple #[endV 0 0 0 0 0, .bool false]) (by simp [results, Tryz.results43, go_sem, y0, y1, y2, y3, y4]) rfl ⟨by rw [hV.out], B9⟩
      | true =>
        have gq := Lib.hid (got_yes (n := getV q 255) (show getB q 255 = true from hq) rfl)
        have Hq := Lib.hid hq
        clear hq
        rw [rounds_succ]
        have z1 : (v1.setCell ⟨w1.heap.size, 0, none⟩ (.int .u8 (getV p 255))).cell? ⟨w.heap.size + 1, 1, none⟩ = some (str q) := by rw [(D1.setCell (Nat.le_refl _) _).cell (p := ⟨w.heap.size + 1, 1, none⟩) hg]; exact x1
        go_wp2_with (go_at_call 68; refine (get_any q 255 _ ?_).mono ?_)
        · exact E.below (below_trans B1 (D1.setCell (Nat.le_refl _) _))
        rintro e v2 ⟨he, m⟩
        rw [gq.out] at he
        subst he
        have D2 : Below w1.heap.size w1 v2 := (D1.setCell (Nat.le_refl _) _).trans (m.mono (by have := D1.size; simp; omega))
        have N2 : IsRow v2 w1.heap.size 88 #[.int .u8 (getV p 255), .int .u8 0, .int .u8 0, .int .u8 0, .int .u8 0, .int .u8 0] := (N1.set 0 _).call m
        clear m z1
        have c2 : v2.cell? ⟨w1.heap.size, 1, none⟩ = some (.int .u8 0) := N2.cell 1
        have f2 : v2.frozen? ⟨w1.heap.size, 1, none⟩ = false := N2.free 1
        go_wp2_with fail
        clear c2 f2
        cases hr : octB r with
        | false =>
          have hV := Lib.hid (read_none (l := l) (by rw [hA.out, hr]; simp))
          have gr := Lib.hid (got_no (show getB r 255 = false from hr))
          clear hr
          rw [rounds_succ]
          have z2 : (v2.setCell ⟨w1.heap.size, 1, none⟩ (.int .u8 (getV q 255))).cell? ⟨w.heap.size + 1, 2, none⟩ = some (str r) := by rw [(D2.setCell (Nat.le_refl _) _).cell (p := ⟨w.heap.size + 1, 2, none⟩) hg]; exact x2
          go_wp2_with (go_at_call 68; refine (get_any r 255 _ ?_).mono ?_)
          · exact E.below (below_trans B1 (D2.setCell (Nat.le_refl _) _))
          rintro e v3 ⟨he, m⟩
          rw [gr.out] at he
          subst he
          have D3 : Below w1.heap.size w1 v3 := (D2.setCell (Nat.le_refl _) _).trans (m.mono (by have := D2.size; simp; omega))
          have N3 : IsRow v3 w1.heap.size 88 #[.int .u8 (getV p 255), .int .u8 (getV q 255), .int .u8 0, .int .u8 0, .int .u8 0, .int .u8 0] := (N2.set 1 _).call m
          clear m z2
          have Q := Q1.below D3 hN
          have B := B1.trans (D3.mono (Nat.le_of_lt hN))
          have qq0 : v3.cell? ⟨w.heap.size, 0, none⟩ = some (.int .u8 0) := Q.cell 0
          have qq1 : v3.cell? ⟨w.heap.size, 1, none⟩ = some (.int .u8 0) := Q.cell 1
          have qq2 : v3.cell? ⟨w.heap.size, 2, none⟩ = some (.int .u8 0) := Q.cell 2
          have qq3 : v3.cell? ⟨w.heap.size, 3, none⟩ = some (.int .u8 0) := Q.cell 3
          have qq4 : v3.cell? ⟨w.heap.size, 4, none⟩ = some (.int .i64 0) := Q.cell 4
          have ff0 : v3.frozen? ⟨w.heap.size, 0, none⟩ = false := Q.free 0
          have ff1 : v3.frozen? ⟨w.heap.size, 1, none⟩ = false := Q.free 1
          have ff2 : v3.frozen? ⟨w.heap.size, 2, none⟩ = false := Q.free 2
          have ff3 : v3.frozen? ⟨w.heap.size, 3, none⟩ = false := Q.free 3
          have ff4 : v3.frozen? ⟨w.heap.size, 4, none⟩ = false := Q.free 4
          go_wp2_with fail
          generalize hW : World.setCell _ _ _ = W9
          have FR : IsRow W9 w.heap.size 30 #[.int .u8 0, .int .u8 0, .int .u8 0, .int .u8 0, .int .i64 0] := by rw [← hW]; exact ((((Q.set 0 _).set 1 _).set 2 _).set 3 _).set 4 _
          have B9 : Below w.heap.size w W9 := by rw [← hW]; exact ((((B.setCell (Nat.le_refl _) _).setCell (Nat.le_refl _) _).setCell (Nat.le_refl _) _).setCell (Nat.le_refl _) _).setCell (Nat.le_refl _) _
          have y0 : W9.cell? ⟨w.heap.size, 0, none⟩ = some (.int .u8 0) := FR.cell 0
          have y1 : W9.cell? ⟨w.heap.size, 1, none⟩ = some (.int .u8 0) := FR.cell 1
          have y2 : W9.cell? ⟨w.heap.size, 2, none⟩ = some (.int .u8 0) := FR.cell 2
          have y3 : W9.cell? ⟨w.heap.size, 3, none⟩ = some (.int .u8 0) := FR.cell 3
          have y4 : W9.cell? ⟨w.heap.size, 4, none⟩ = some (.int .i64 0) := FR.cell 4
          exact bodyPost_ret (v := .tuple #[endV 0 0 0 0 0, .bool false]) (by simp [results, Tryz.results43, go_sem, y0, y1, y2, y3, y4]) rfl ⟨by rw [hV.out], B9⟩
        | true =>
          have gr := Lib.hid (got_yes (n := getV r 255) (show getB r 255 = true from hr) rfl)
          have Hr := Lib.hid hr
          clear hr
          rw [rounds_succ]
          have z2 : (v2.setCell ⟨w1.heap.size, 1, none⟩ (.int .u8 (getV q 255))).cell? ⟨w.heap.size + 1, 2, none⟩ = some (str r) := by rw [(D2.setCell (Nat.le_refl _) _).cell (p := ⟨w.heap.size + 1, 2, none⟩) hg]; exact x2
          go_wp2_with (go_at_call 68; refine (get_any r 255 _ ?_).mono ?_)
          · exact E.below (below_trans B1 (D2.setCell (Nat.le_refl _) _))
          rintro e v3 ⟨he, m⟩
          rw [gr.out] at he
          subst he
          have D3 : Below w1.heap.size w1 v3 := (D2.setCell (Nat.le_refl _) _).trans (m.mono (by have := D2.size; simp; omega))
          have N3 : IsRow v3 w1.heap.size 88 #[.int .u8 (getV p 255), .int .u8 (getV q 255), .int .u8 0, .int .u8 0, .int .u8 0, .int .u8 0] := (N2.set 1 _).call m
          clear m z2
          have c3 : v3.cell? ⟨w1.heap.size, 2, none⟩ = some (.int .u8 0) := N3.cell 2
          have f3 : v3.frozen? ⟨w1.heap.size, 2, none⟩ = false := N3.free 2
          go_wp2_with fail
          clear c3 f3
          cases hs : octB s with
          | false =>
            have hV := Lib.hid (read_none (l := l) (by rw [hA.out, hs]; simp))
            have gs := Lib.hid (got_no (show getB s 255 = false from hs))
            clear hs
            rw [rounds_succ]
            have z3 : (v3.setCell ⟨w1.heap.size, 2, none⟩ (.int .u8 (getV r 255))).cell? ⟨w.heap.size + 1, 3, none⟩ = some (str s) := by rw [(D3.setCell (Nat.le_refl _) _).cell (p := ⟨w.heap.size + 1, 3, none⟩) hg]; exact x3
            go_wp2_with (go_at_call 68; refine (get_any s 255 _ ?_).mono ?_)
            · exact E.below (below_trans B1 (D3.setCell (Nat.le_refl _) _))
            rintro e v4 ⟨he, m⟩
            rw [gs.out] at he
            subst he
            have D4 : Below w1.heap.size w1 v4 := (D3.setCell (Nat.le_refl _) _).trans (m.mono (by have := D3.size; simp; omega))
            have N4 : IsRow v4 w1.heap.size 88 #[.int .u8 (getV p 255), .int .u8 (getV q 255), .int .u8 (getV r 255), .int .u8 0, .int .u8 0, .int .u8 0] := (N3.set 2 _).call m
            clear m z3
            have Q := Q1.below D4 hN
            have B := B1.trans (D4.mono (Nat.le_of_lt hN))
            have qq0 : v4.cell? ⟨w.heap.size, 0, none⟩ = some (.int .u8 0) := Q.cell 0
            have qq1 : v4.cell? ⟨w.heap.size, 1, none⟩ = some (.int .u8 0) := Q.cell 1
            have qq2 : v4.cell? ⟨w.heap.size, 2, none⟩ = some (.int .u8 0) := Q.cell 2
            have qq3 : v4.cell? ⟨w.heap.size, 3, none⟩ = some (.int .u8 0) := Q.cell 3
            have qq4 : v4.cell? ⟨w.heap.size, 4, none⟩ = some (.int .i64 0) := Q.cell 4
            have ff0 : v4.frozen? ⟨w.heap.size, 0, none⟩ = false := Q.free 0
            have ff1 : v4.frozen? ⟨w.heap.size, 1, none⟩ = false := Q.free 1
            have ff2 : v4.frozen? ⟨w.heap.size, 2, none⟩ = false := Q.free 2
            have ff3 : v4.frozen? ⟨w.heap.size, 3, none⟩ = false := Q.free 3
            have ff4 : v4.frozen? ⟨w.heap.size, 4, none⟩ = false := Q.free 4
            go_wp2_with fail
            generalize hW : World.setCell _ _ _ = W9
            have FR : IsRow W9 w.heap.size 30 #[.int .u8 0, .int .u8 0, .int .u8 0, .int .u8 0, .int .i64 0] := by rw [← hW]; exact ((((Q.set 0 _).set 1 _).set 2 _).set 3 _).set 4 _
            have B9 : Below w.heap.size w W9 := by rw [← hW]; exact ((((B.setCell (Nat.le_refl _) _).setCell (Nat.le_refl _) _).setCell (Nat.le_refl _) _).setCell (Nat.le_refl _) _).setCell (Nat.le_refl _) _
            have y0 : W9.cell? ⟨w.heap.size, 0, none⟩ = some (.int .u8 0) := FR.cell 0
            have y1 : W9.cell? ⟨w.heap.size, 1, none⟩ = some (.int .u8 0) := FR.cell 1
            have y2 : W9.cell? ⟨w.heap.size, 2, none⟩ = some (.int .u8 0) := FR.cell 2
            have y3 : W9.cell? ⟨w.heap.size, 3, none⟩ = some (.int .u8 0) := FR.cell 3
            have y4 : W9.cell? ⟨w.heap.size, 4, none⟩ = some (.int .i64 0) := FR.cell 4
            exact bodyPost_ret (v := .tuple #[endV 0 0 0 0 0, .bool false]) (by simp [results, Tryz.results43, go_sem, y0, y1, y2, y3, y4]) rfl ⟨by rw [hV.out], B9⟩
          | true =>
            have gs := Lib.hid (got_yes (n := getV s 255) (show getB s 255 = true from hs) rfl)
            have Hs := Lib.hid hs
            clear hs
            rw [rounds_succ]
            have z3 : (v3.setCell ⟨w1.heap.size, 2, none⟩ (.int .u8 (getV r 255))).cell? ⟨w.heap.size + 1, 3, none⟩ = some (str s) := by rw [(D3.setCell (Nat.le_refl _) _).cell (p := ⟨w.heap.size + 1, 3, none⟩) hg]; exact x3
            go_wp2_with (go_at_call 68; refine (get_any s 255 _ ?_).mono ?_)
            · exact E.below (below_trans B1 (D3.setCell (Nat.le_refl _) _))
            rintro e v4 ⟨he, m⟩
            rw [gs.out] at he
            subst he
            have D4 : Below w1.heap.size w1 v4 := (D3.setCell (Nat.le_refl _) _).trans (m.mono (by have := D3.size; simp; omega))
            have N4 : IsRow v4 w1.heap.size 88 #[.int .u8 (getV p 255), .int .u8 (getV q 255), .int .u8 (getV r 255), .int .u8 0, .int .u8 0, .int .u8 0] := (N3.set 2 _).call m
            clear m z3
            have c4 : v4.cell? ⟨w1.heap.size, 3, none⟩ = some (.int .u8 0) := N4.cell 3
            have f4 : v4.frozen? ⟨w1.heap.size, 3, none⟩ = false := N4.free 3
            go_wp2_with fail
            clear c4 f4
            cases ht : octB t with
            | false =>
              have hV := Lib.hid (read_none (l := l) (by rw [hA.out, ht]; simp))
              have gt := Lib.hid (got_no (show getB t 255 = false from ht))
              clear ht
              rw [rounds_succ]
              have z4 : (v4.setCell ⟨w1.heap.size, 3, none⟩ (.int .u8 (getV s 255))).cell? ⟨w.heap.size + 1, 4, none⟩ = some (str t) := by rw [(D4.setCell (Nat.le_refl _) _).cell (p := ⟨w.heap.size + 1, 4, none⟩) hg]; exact x4
              go_wp2_with (go_at_call 68; refine (get_any t 255 _ ?_).mono ?_)
              · exact E.below (below_trans B1 (D4.setCell (Nat.le_refl _) _))
              rintro e v5 ⟨he, m⟩
              rw [gt.out] at he
              subst he
              have D5 : Below w1.heap.size w1 v5 := (D4.setCell (Nat.le_refl _) _).trans (m.mono (by have := D4.size; simp; omega))
              have N5 : IsRow v5 w1.heap.size 88 #[.int .u8 (getV p 255), .int .u8 (getV q 255), .int .u8 (getV r 255), .int .u8 (getV s 255), .int .u8 0, .int .u8 0] := (N4.set 3 _).call m
              clear m z4
              have Q := Q1.below D5 hN
              have B := B1.trans (D5.mono (Nat.le_of_lt hN))
              have qq0 : v5.cell? ⟨w.heap.size, 0, none⟩ = some (.int .u8 0) := Q.cell 0
              have qq1 : v5.cell? ⟨w.heap.size, 1, none⟩ = some (.int .u8 0) := Q.cell 1
              have qq2 : v5.cell? ⟨w.heap.size, 2, none⟩ = some (.int .u8 0) := Q.cell 2
              have qq3 : v5.cell? ⟨w.heap.size, 3, none⟩ = some (.int .u8 0) := Q.cell 3
              have qq4 : v5.cell? ⟨w.heap.size, 4, none⟩ = some (.int .i64 0) := Q.cell 4
              have ff0 : v5.frozen? ⟨w.heap.size, 0, none⟩ = false := Q.free 0
              have ff1 : v5.frozen? ⟨w.heap.size, 1, none⟩ = false := Q.free 1
              have ff2 : v5.frozen? ⟨w.heap.size, 2, none⟩ = false := Q.free 2
              have ff3 : v5.frozen? ⟨w.heap.size, 3, none⟩ = false := Q.free 3
              have ff4 : v5.frozen? ⟨w.heap.size, 4, none⟩ = false := Q.free 4
              go_wp2_with fail
              generalize hW : World.setCell _ _ _ = W9
              have FR : IsRow W9 w.heap.size 30 #[.int .u8 0, .int .u8 0, .int .u8 0, .int .u8 0, .int .i64 0] := by rw [← hW]; exact ((((Q.set 0 _).set 1 _).set 2 _).set 3 _).set 4 _
              have B9 : Below w.heap.size w W9 := by rw [← hW]; exact ((((B.setCell (Nat.le_refl _) _).setCell (Nat.le_refl _) _).setCell (Nat.le_refl _) _).setCell (Nat.le_refl _) _).setCell (Nat.le_refl _) _
              have y0 : W9.cell? ⟨w.heap.size, 0, none⟩ = some (.int .u8 0) := FR.cell 0
              have y1 : W9.cell? ⟨w.heap.size, 1, none⟩ = some (.int .u8 0) := FR.cell 1
              have y2 : W9.cell? ⟨w.heap.size, 2, none⟩ = some (.int .u8 0) := FR.cell 2
              have y3 : W9.cell? ⟨w.heap.size, 3, none⟩ = some (.int .u8 0) := FR.cell 3
              have y4 : W9.cell? ⟨w.heap.size, 4, none⟩ = some (.int .i64 0) := FR.cell 4
              exact bodyPost_ret (v := .tuple #[endV 0 0 0 0 0, .bool false]) (by simp [results, Tryz.results43, go_sem, y0, y1, y2, y3, y4]) rfl ⟨by rw [hV.out], B9⟩
            | true =>
              have gt := Lib.hid (got_yes (n := getV t 255) (show getB t 255 = true from ht) rfl)
              have Ht := Lib.hid ht
              clear ht
              rw [rounds_succ]
              have z4 : (v4.setCell ⟨w1.heap.size, 3, none⟩ (.int .u8 (getV s 255))).cell? ⟨w.heap.size + 1, 4, none⟩ = some (str t) := by rw [(D4.setCell (Nat.le_refl _) _).cell (p := ⟨w.heap.size + 1, 4, none⟩) hg]; exact x4
              go_wp2_with (go_at_call 68; refine (get_any t 255 _ ?_).mono ?_)
              · exact E.below (below_trans B1 (D4.setCell (Nat.le_refl _) _))
              rintro e v5 ⟨he, m⟩
              rw [gt.out] at he
              subst he
              have D5 : Below w1.heap.size w1 v5 := (D4.setCell (Nat.le_refl _) _).trans (m.mono (by have := D4.size; simp; omega))
              have N5 : IsRow v5 w1.heap.size 88 #[.int .u8 (getV p 255), .int .u8 (getV q 255), .int .u8 (getV r 255), .int .u8 (getV s 255), .int .u8 0, .int .u8 0] := (N4.set 3 _).call m
              clear m z4
              have c5 : v5.cell? ⟨w1.heap.size, 4, none⟩ = some (.int .u8 0) := N5.cell 4
              have f5 : v5.frozen? ⟨w1.heap.size, 4, none⟩ = false := N5.free 4
              go_wp2_with fail
              clear c5 f5
              cases hu : octB u with
              | false =>
                have hV := Lib.hid (read_none (l := l) (by rw [hA.out, hu]; simp))
                have gu := Lib.hid (got_no (show getB u 255 = false from hu))
                clear hu
                rw [rounds_succ]
                have z5 : (v5.setCell ⟨w1.heap.size, 4, none⟩ (.int .u8 (getV t 255))).cell? ⟨w.heap.size + 1, 5, none⟩ = some (str u) := by rw [(D5.setCell (Nat.le_refl _) _).cell (p := ⟨w.heap.size + 1, 5, none⟩) hg]; exact x5
                go_wp2_with (go_at_call 68; refine (get_any u 255 _ ?_).mono ?_)
                · exact E.below (below_trans B1 (D5.setCell (Nat.le_refl _) _))
                rintro e v6 ⟨he, m⟩
                rw [gu.out] at he
                subst he
                have D6 : Below w1.heap.size w1 v6 := (D5.setCell (Nat.le_refl _) _).trans (m.mono (by have := D5.size; simp; omega))
                have N6 : IsRow v6 w1.heap.size 88 #[.int .u8 (getV p 255), .int .u8 (getV q 255), .int .u8 (getV r 255), .int .u8 (getV s 255), .int .u8 (getV t 255), .int .u8 0] := (N5.set 4 _).call m
                clear m z5
                have Q := Q1.below D6 hN
                have B := B1.trans (D6.mono (Nat.le_of_lt hN))
                have qq0 : v6.cell? ⟨w.heap.size, 0, none⟩ = some (.int .u8 0) := Q.cell 0
                have qq1 : v6.cell? ⟨w.heap.size, 1, none⟩ = some (.int .u8 0) := Q.cell 1
                have qq2 : v6.cell? ⟨w.heap.size, 2, none⟩ = some (.int .u8 0) := Q.cell 2
                have qq3 : v6.cell? ⟨w.heap.size, 3, none⟩ = some (.int .u8 0) := Q.cell 3
                have qq4 : v6.cell? ⟨w.heap.size, 4, none⟩ = some (.int .i64 0) := Q.cell 4
                have ff0 : v6.frozen? ⟨w.heap.size, 0, none⟩ = false := Q.free 0
                have ff1 : v6.frozen? ⟨w.heap.size, 1, none⟩ = false := Q.free 1
                have ff2 : v6.frozen? ⟨w.heap.size, 2, none⟩ = false := Q.free 2
                have ff3 : v6.frozen? ⟨w.heap.size, 3, none⟩ = false := Q.free 3
                have ff4 : v6.frozen? ⟨w.heap.size, 4, none⟩ = false := Q.free 4
                go_wp2_with fail
                generalize hW : World.setCell _ _ _ = W9
                have FR : IsRow W9 w.heap.size 30 #[.int .u8 0, .int .u8 0, .int .u8 0, .int .u8 0, .int .i64 0] := by rw [← hW]; exact ((((Q.set 0 _).set 1 _).set 2 _).set 3 _).set 4 _
                have B9 : Below w.heap.size w W9 := by rw [← hW]; exact ((((B.setCell (Nat.le_refl _) _).setCell (Nat.le_refl _) _).setCell (Nat.le_refl _) _).setCell (Nat.le_refl _) _).setCell (Nat.le_refl _) _
                have y0 : W9.cell? ⟨w.heap.size, 0, none⟩ = some (.int .u8 0) := FR.cell 0
                have y1 : W9.cell? ⟨w.heap.size, 1, none⟩ = some (.int .u8 0) := FR.cell 1
                have y2 : W9.cell? ⟨w.heap.size, 2, none⟩ = some (.int .u8 0) := FR.cell 2
                have y3 : W9.cell? ⟨w.heap.size, 3, none⟩ = some (.int .u8 0) := FR.cell 3
                have y4 : W9.cell? ⟨w.heap.size, 4, none⟩ = some (.int .i64 0) := FR.cell 4
                exact bodyPost_ret (v := .tuple #[endV 0 0 0 0 0, .bool false]) (by simp [results, Tryz.results43, go_sem, y0, y1, y2, y3, y4]) rfl ⟨by rw [hV.out], B9⟩
              | true =>
                have gu := Lib.hid (got_yes (n := getV u 255) (show getB u 255 = true from hu) rfl)
                have Hu := Lib.hid hu
                clear hu
                rw [rounds_succ]
                have z5 : (v5.setCell ⟨w1.heap.size, 4, none⟩ (.int .u8 (getV t 255))).cell? ⟨w.heap.size + 1, 5, none⟩ = some (str u) := by rw [(D5.setCell (Nat.le_refl _) _).cell (p := ⟨w.heap.size + 1, 5, none⟩) hg]; exact x5
                go_wp2_with (go_at_call 68; refine (get_any u 255 _ ?_).mono ?_)
                · exact E.below (below_trans B1 (D5.setCell (Nat.le_refl _) _))
                rintro e v6 ⟨he, m⟩
                rw [gu.out] at he
                subst he
                have D6 : Below w1.heap.size w1 v6 := (D5.setCell (Nat.le_refl _) _).trans (m.mono (by have := D5.size; simp; omega))
                have N6 : IsRow v6 w1.heap.size 88 #[.int .u8 (getV p 255), .int .u8 (getV q 255), .int .u8 (getV r 255), .int .u8 (getV s 255), .int .u8 (getV t 255), .int .u8 0] := (N5.set 4 _).call m
                clear m z5
                have c6 : v6.cell? ⟨w1.heap.size, 5, none⟩ = some (.int .u8 0) := N6.cell 5
                have f6 : v6.frozen? ⟨w1.heap.size, 5, none⟩ = false := N6.free 5
                go_wp2_with fail
                clear c6 f6
                have hV := Lib.hid (hR.out (by rw [hA.out, Hp.out, Hq.out, Hr.out, Hs.out, Ht.out, Hu.out]; rfl))
                obtain ⟨v7, e7, D7, N7⟩ : ∃ v7, v6.setCell ⟨w1.heap.size, 5, none⟩ (.int .u8 (getV u 255)) = v7 ∧ Below w1.heap.size w1 v7 ∧ IsRow v7 w1.heap.size 88 #[.int .u8 (getV p 255), .int .u8 (getV q 255), .int .u8 (getV r 255), .int .u8 (getV s 255), .int .u8 (getV t 255), .int .u8 (getV u 255)] := ⟨_, rfl, D6.setCell (Nat.le_refl _) _, N6.set 5 _⟩
                rw [e7]
                clear e7
                have n0 : v7.cell? ⟨w1.heap.size, 0, none⟩ = some (.int .u8 (getV p 255)) := N7.cell 0
                have n1 : v7.cell? ⟨w1.heap.size, 1, none⟩ = some (.int .u8 (getV q 255)) := N7.cell 1
                have n2 : v7.cell? ⟨w1.heap.size, 2, none⟩ = some (.int .u8 (getV r 255)) := N7.cell 2
                have n3 : v7.cell? ⟨w1.heap.size, 3, none⟩ = some (.int .u8 (getV s 255)) := N7.cell 3
                have n4 : v7.cell? ⟨w1.heap.size, 4, none⟩ = some (.int .u8 (getV t 255)) := N7.cell 4
                have n5 : v7.cell? ⟨w1.heap.size, 5, none⟩ = some (.int .u8 (getV u 255)) := N7.cell 5
                rw [rounds_succ]
                go_wp2_with (go_at_call 56; refine (join_any (getV p 255) (getV q 255) (getV r 255) (getV s 255) (getV t 255) (getV u 255) lot hit lou hiu _).mono ?_)
                rintro e v8 ⟨rfl, m⟩
                have D8 : Below w1.heap.size w1 v8 := below_trans D7 m
                clear m n0 n1 n2 n3 n4 n5
                have Q := Q1.below D8 hN
                have B := B1.trans (D8.mono (Nat.le_of_lt hN))
                have qq0 : v8.cell? ⟨w.heap.size, 0, none⟩ = some (.int .u8 0) := Q.cell 0
                have qq1 : v8.cell? ⟨w.heap.size, 1, none⟩ = some (.int .u8 0) := Q.cell 1
                have qq2 : v8.cell? ⟨w.heap.size, 2, none⟩ = some (.int .u8 0) := Q.cell 2
                have qq3 : v8.cell? ⟨w.heap.size, 3, none⟩ = some (.int .u8 0) := Q.cell 3
                have qq4 : v8.cell? ⟨w.heap.size, 4, none⟩ = some (.int .i64 0) := Q.cell 4
                have ff0 : v8.frozen? ⟨w.heap.size, 0, none⟩ = false := Q.free 0
                have ff1 : v8.frozen? ⟨w.heap.size, 1, none⟩ = false := Q.free 1
                have ff2 : v8.frozen? ⟨w.heap.size, 2, none⟩ = false := Q.free 2
                have ff3 : v8.frozen? ⟨w.heap.size, 3, none⟩ = false := Q.free 3
                have ff4 : v8.frozen? ⟨w.heap.size, 4, none⟩ = false := Q.free 4
                go_wp2_with fail
                generalize hW : World.setCell _ _ _ = W9
                have FR : IsRow W9 w.heap.size 30 #[.int .u8 (getV p 255), .int .u8 (getV q 255), .int .u8 (getV r 255), .int .u8 (getV s 255), .int .i64 (getV t 255 * 256 + getV u 255)] := by rw [← hW]; exact ((((Q.set 0 _).set 1 _).set 2 _).set 3 _).set 4 _
                have B9 : Below w.heap.size w W9 := by rw [← hW]; exact ((((B.setCell (Nat.le_refl _) _).setCell (Nat.le_refl _) _).setCell (Nat.le_refl _) _).setCell (Nat.le_refl _) _).setCell (Nat.le_refl _) _
                have y0 : W9.cell? ⟨w.heap.size, 0, none⟩ = some (.int .u8 (getV p 255)) := FR.cell 0
                have y1 : W9.cell? ⟨w.heap.size, 1, none⟩ = some (.int .u8 (getV q 255)) := FR.cell 1
                have y2 : W9.cell? ⟨w.heap.size, 2, none⟩ = some (.int .u8 (getV r 255)) := FR.cell 2
                have y3 : W9.cell? ⟨w.heap.size, 3, none⟩ = some (.int .u8 (getV s 255)) := FR.cell 3
                have y4 : W9.cell? ⟨w.heap.size, 4, none⟩ = some (.int .i64 (getV t 255 * 256 + getV u 255)) := FR.cell 4
                exact bodyPost_ret (v := .tuple #[endV (getV p 255) (getV q 255) (getV r 255) (getV s 255) (getV t 255 * 256 + getV u 255), .bool true]) (by simp [results, Tryz.results43, go_sem, y0, y1, y2, y3, y4]) rfl ⟨by rw [hV.out], B9⟩
  · have hn : ((((parts7 l).length : Nat) : Int) != 6) = true := by rw [bne_iff_ne]; omega
    have hV := Lib.hid (read_none (six_few h6))
    generalize (parts7 l).length = len at hn h6
    have qq0 : w1.cell? ⟨w.heap.size, 0, none⟩ = some (.int .u8 0) := Q1.cell 0
    have qq1 : w1.cell? ⟨w.heap.size, 1, none⟩ = some (.int .u8 0) := Q1.cell 1
    have qq2 : w1.cell? ⟨w.heap.size, 2, none⟩ = some (.int .u8 0) := Q1.cell 2
    have qq3 : w1.cell? ⟨w.heap.size, 3, none⟩ = some (.int .u8 0) := Q1.cell 3
    have qq4 : w1.cell? ⟨w.heap.size, 4, none⟩ = some (.int .i64 0) := Q1.cell 4
    have ff0 : w1.frozen? ⟨w.heap.size, 0, none⟩ = false := Q1.free 0
    have ff1 : w1.frozen? ⟨w.heap.size, 1, none⟩ = false := Q1.free 1
    have ff2 : w1.frozen? ⟨w.heap.size, 2, none⟩ = false := Q1.free 2
    have ff3 : w1.frozen? ⟨w.heap.size, 3, none⟩ = false := Q1.free 3
    have ff4 : w1.frozen? ⟨w.heap.size, 4, none⟩ = false := Q1.free 4
    go_wp2_with fail
    generalize hW : World.setCell _ _ _ = W9
    have FR : IsRow W9 w.heap.size 30 #[.int .u8 0, .int .u8 0, .int .u8 0, .int .u8 0, .int .i64 0] := by rw [← hW]; exact ((((Q1.set 0 _).set 1 _).set 2 _).set 3 _).set 4 _
    have B9 : Below w.heap.size w W9 := by rw [← hW]; exact ((((B1.setCell (Nat.le_refl _) _).setCell (Nat.le_refl _) _).setCell (Nat.le_refl _) _).setCell (Nat.le_refl _) _).setCell (Nat.le_refl _) _
    have y0 : W9.cell? ⟨w.heap.size, 0, none⟩ = some (.int .u8 0) := FR.cell 0
    have y1 : W9.cell? ⟨w.heap.size, 1, none⟩ = some (.int .u8 0) := FR.cell 1
    have y2 : W9.cell? ⟨w.heap.size, 2, none⟩ = some (.int .u8 0) := FR.cell 2
    have y3 : W9.cell? ⟨w.heap.size, 3, none⟩ = some (.int .u8 0) := FR.cell 3
    have y4 : W9.cell? ⟨w.heap.size, 4, none⟩ = some (.int .i64 0) := FR.cell 4
    exact bodyPost_ret (v := .tuple #[endV 0 0 0 0 0, .bool false]) (by simp [results, Tryz.results43, go_sem, y0, y1, y2, y3, y4]) rfl ⟨by rw [hV.out], B9⟩

set_option maxHeartbeats 2000000 in
set_option maxRecDepth 100000 in
theorem find_any (l : List UInt8) (hl : l.length ≤ 1000000) (w : World) (E : Env w) :
    Calls Tryz.prog 51 #[str l] w fun e w' => e = .returned (readV (insL l)) ∧ Below w.heap.size w w' := by
  have hi := insL_le l
  have CR := Lib.hid (fun W (EW : Env W) => read_any (insL l) (by omega) W EW)
  have CI := Lib.hid (fun W => inside_any l hl W)
  unfold readV at CR ⊢
  generalize insL l = m at CR CI hi ⊢
  generalize sixN m 0 = r0 at CR ⊢
  generalize sixN m 1 = r1 at CR ⊢
  generalize sixN m 2 = r2 at CR ⊢
  generalize sixN m 3 = r3 at CR ⊢
  generalize sixP m = rp at CR ⊢
  generalize sixB m = rb at CR ⊢
  go_enter Tryz.func51, Tryz.ntmps51
  go_wp2_with (go_at_call 72; refine (CI.out _).mono ?_)
  rintro e w' ⟨rfl, rfl⟩
  go_wp2_with (go_at_call 43; refine (CR.out _ ?_).mono ?_)
  · exact E.alloc _
  rintro e w1 ⟨rfl, b1⟩
  have B1 : Below w.heap.size w w1 := ((Below.refl _ _).alloc (Nat.le_refl _) _).trans (b1.mono (by simp))
  have Q1 : IsRow w1 w.heap.size 30 #[.int .u8 0, .int .u8 0, .int .u8 0, .int .u8 0, .int .i64 0] := (IsRow.made w _ _).call b1
  clear b1
  have qq0 : w1.cell? ⟨w.heap.size, 0, none⟩ = some (.int .u8 0) := Q1.cell 0
  have qq1 : w1.cell? ⟨w.heap.size, 1, none⟩ = some (.int .u8 0) := Q1.cell 1
  have qq2 : w1.cell? ⟨w.heap.size, 2, none⟩ = some (.int .u8 0) := Q1.cell 2
  have qq3 : w1.cell? ⟨w.heap.size, 3, none⟩ = some (.int .u8 0) := Q1.cell 3
  have qq4 : w1.cell? ⟨w.heap.size, 4, none⟩ = some (.int .i64 0) := Q1.cell 4
  have ff0 : w1.frozen? ⟨w.heap.size, 0, none⟩ = false := Q1.free 0
  have ff1 : w1.frozen? ⟨w.heap.size, 1, none⟩ = false := Q1.free 1
  have ff2 : w1.frozen? ⟨w.heap.size, 2, none⟩ = false := Q1.free 2
  have ff3 : w1.frozen? ⟨w.heap.size, 3, none⟩ = false := Q1.free 3
  have ff4 : w1.frozen? ⟨w.heap.size, 4, none⟩ = false := Q1.free 4
  go_wp2_with fail
  generalize hW : World.setCell _ _ _ = W9
  have FR : IsRow W9 w.heap.size 30 #[.int .u8 r0, .int .u8 r1, .int .u8 r2, .int .u8 r3, .int .i64 rp] := by rw [← hW]; exact ((((Q1.set 0 _).set 1 _).set 2 _).set 3 _).set 4 _
  have B9 : Below w.heap.size w W9 := by rw [← hW]; exact ((((B1.setCell (Nat.le_refl _) _).setCell (Nat.le_refl _) _).setCell (Nat.le_refl _) _).setCell (Nat.le_refl _) _).setCell (Nat.le_refl _) _
  have y0 : W9.cell? ⟨w.heap.size, 0, none⟩ = some (.int .u8 r0) := FR.cell 0
  have y1 : W9.cell? ⟨w.heap.size, 1, none⟩ = some (.int .u8 r1) := FR.cell 1
  have y2 : W9.cell? ⟨w.heap.size, 2, none⟩ = some (.int .u8 r2) := FR.cell 2
  have y3 : W9.cell? ⟨w.heap.size, 3, none⟩ = some (.int .u8 r3) := FR.cell 3
  have y4 : W9.cell? ⟨w.heap.size, 4, none⟩ = some (.int .i64 rp) := FR.cell 4
  exact bodyPost_ret (v := .tuple #[endV r0 r1 r2 r3 rp, .bool rb]) (by simp [results, Tryz.results51, go_sem, y0, y1, y2, y3, y4]) rfl ⟨rfl, B9⟩

#print axioms read_any
#print axioms find_any
end Go.Proofs.YtdimfppijcebjaaGreatDoor.Six
