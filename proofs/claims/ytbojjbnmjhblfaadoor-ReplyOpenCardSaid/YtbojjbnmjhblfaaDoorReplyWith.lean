/- The contracts of slices.Concat of two lists of texts, and of reply.with. -/
import Derived.Test.YtbojjbnmjhblfaaDoorReplyPrintOwn
namespace Go.Proofs.YtbojjbnmjhblfaaDoor.Rp
open Go.Proofs.YtbojjbnmjhblfaaDoor Go.Proofs.YtbojjbnmjhblfaaDoor.Cm Go.Proofs.YtbojjbnmjhblfaaDoor.Quad
open Go Go.ChangeShapes Go.WideShapes Go.ChangeAt Go.RowKit
set_option maxRecDepth 100000
set_option linter.unusedSimpArgs false

theorem one_at {w : World} {b : Nat} {x : Value} (h : w.cell? ⟨b, 0, none⟩ = some x) : ∀ j u, ([x] : List Value)[j]? = some u → w.cell? (Addr.add ⟨b, 0, none⟩ j) = some u := by
  intro j u hj
  obtain rfl : j = 0 := by have := (List.getElem?_eq_some_iff.1 hj).1; simpa using this
  have e : x = u := by simpa using hj
  rw [← e]; exact h

set_option maxHeartbeats 8000000 in
theorem concat_two (u : Value) (l : Ls) (s : List UInt8) (hl : l.length ≤ 1000) (b ab : Nat) (w : World) (Y : TextsIs w u l) (hb0 : w.cell? ⟨b, 0, none⟩ = some u) (hb1 : w.cell? ⟨b, 1, none⟩ = some (.slice (some ⟨ab, 0, none⟩) 1 1)) (ha : w.cell? ⟨ab, 0, none⟩ = some (.string ⟨s.toArray⟩)) :
    Calls Tryd.prog 40 #[.slice (some ⟨b, 0, none⟩) 2 2] w fun e w' => ∃ p n c, e = .returned (.slice p n c) ∧ n = l.length + 1 ∧ OwnStrs w.heap.size w' (.slice p n c) (l ++ [s]) ∧ Below w.heap.size w w' := by
  obtain ⟨i0, hi, hz0, hz1, hz2⟩ := info_parts info_string
  have lb := World.block_lt_of_cell? w _ hb0
  have la := World.block_lt_of_cell? w _ ha
  have HG := Lib.hid (fun W => grow_nil l.length hl W)
  have Y0 := Lib.hid Y
  obtain ⟨p, n, c, rfl, hn⟩ := Y.form3
  rw [← hn] at HG
  have hn1 : n ≤ 1000 := by omega
  have HN := Lib.hid hn
  clear Y hn hl
  go_enter Tryd.func40, Tryd.ntmps40
  go_wp2_with fail
  refine wp_loop_rounds 3 ?_
  rw [rounds_succ]
  go_wp2_with fail
  rw [rounds_succ]
  go_wp2_with fail
  rw [rounds_succ]
  go_wp2_with (go_at_call 51; refine (HG.out _).mono ?_; rintro e w1 ⟨G, cap, rfl, hown, b1⟩; have HO := Lib.hid hown; have B1 := Lib.hid b1; have hb0' : w1.cell? ⟨b, 0, none⟩ = some (.slice p n c) := (b1.cell (p := ⟨b, 0, none⟩) lb).trans hb0; have hb1' : w1.cell? ⟨b, 1, none⟩ = some (.slice (some ⟨ab, 0, none⟩) 1 1) := (b1.cell (p := ⟨b, 1, none⟩) lb).trans hb1; have ha' : w1.cell? ⟨ab, 0, none⟩ = some (.string ⟨s.toArray⟩) := (b1.cell (p := ⟨ab, 0, none⟩) la).trans ha; clear hown b1)
  rcases Y0.out with ⟨e, rfl⟩ | ⟨a, c', ⟨e, _⟩, hcell⟩
  · injection e with e1 e2 e3
    subst e1; subst e2; subst e3
    refine wp_loop_rounds 3 ?_
    rw [rounds_succ]
    go_wp2_with (at_builtin; refine wpList_append_own_none rfl _ _ 22 rfl w.heap.size 9 i0 1 Tryd.underlying22 hi _ _ _ rfl HO.out rfl ?_)
    clear hb0 hb1 ha
    rw [rounds_succ]
    go_wp2_with (at_builtin; refine wpList_append_own _ rfl _ _ 22 rfl w.heap.size 9 i0 (.string ByteArray.empty) 1 16 Tryd.underlying22 hi hz0 hz1 hz2 rfl (by decide) _ _ _ rfl HO.out ⟨ab, 0, none⟩ 1 1 [.string ⟨s.toArray⟩] rfl rfl ?d1 ?d2 ?d3 ?d4 ?d5 ?_)
    case d1 => exact one_at ha'
    case d2 => intro y hy; simp only [List.mem_singleton] at hy; subst hy; rfl
    case d3 => unfold maxLen; omega
    case d4 => omega
    case d5 => exact B1.out.size
    intro v3 w3 hown3 hg3 _
    have B3 := Lib.hid (B1.out.grown hg3 B1.out.size (own_ge HO.out))
    obtain ⟨g, cap3, rfl, _, _⟩ := own_more hown3
    have HO3 : OwnStrs w.heap.size w3 (.slice (some ⟨g, 0, none⟩) (0 + 1) cap3) ([] ++ [s]) := own_texts (t := 9) hown3
    have HO3' := Lib.hid HO3
    clear hown3 hg3 HO3 ha' hb0' hb1'
    go_wp2_with fail
    rw [rounds_succ]
    go_wp2_with fail
    go_ret
    exact ⟨_, _, _, rfl, rfl, HO3'.out, B3.out⟩
  · injection e with e1 e2 e3
    subst e1; subst e3
    clear e2
    have LC : ∀ j u, (l.map strV)[j]? = some u → w1.cell? (a.add j) = some u := texts_cells (fun i h => (B1.out.cell (World.block_lt_of_cell? w _ (hcell i h))).trans (hcell i h))
    have HLC := Lib.hid LC
    clear LC hcell
    refine wp_loop_rounds 3 ?_
    rw [rounds_succ]
    go_wp2_with (at_builtin; refine wpList_append_own _ rfl _ _ 22 rfl w.heap.size 9 i0 (.string ByteArray.empty) 1 16 Tryd.underlying22 hi hz0 hz1 hz2 rfl (by decide) _ _ _ rfl HO.out a n c (l.map strV) rfl ?c0 ?c1 ?c2 ?c3 ?c4 ?c5 ?_)
    case c0 => rw [List.length_map, Nat.mul_one]; exact HN.out.symm
    case c1 => exact HLC.out
    case c2 => exact texts_one
    case c3 => unfold maxLen; omega
    case c4 => omega
    case c5 => exact B1.out.size
    intro v2 w2 hown2 hg2 _
    have B2 := Lib.hid (B1.out.grown hg2 B1.out.size (own_ge HO.out))
    have HO2 := Lib.hid hown2
    clear hown2 hg2 hb0' hb1' ha'
    have hb0'' : w2.cell? ⟨b, 0, none⟩ = some (.slice (some a) n c) := (B2.out.cell (p := ⟨b, 0, none⟩) lb).trans hb0
    have hb1'' : w2.cell? ⟨b, 1, none⟩ = some (.slice (some ⟨ab, 0, none⟩) 1 1) := (B2.out.cell (p := ⟨b, 1, none⟩) lb).trans hb1
    have ha2 : w2.cell? ⟨ab, 0, none⟩ = some (.string ⟨s.toArray⟩) := (B2.out.cell (p := ⟨ab, 0, none⟩) la).trans ha
    clear hb0 hb1 ha
    go_wp2_with fail
    rw [rounds_succ]
    go_wp2_with (at_builtin; refine wpList_append_own _ rfl _ _ 22 rfl w.heap.size 9 i0 (.string ByteArray.empty) 1 16 Tryd.underlying22 hi hz0 hz1 hz2 rfl (by decide) _ _ _ rfl HO2.out ⟨ab, 0, none⟩ 1 1 [.string ⟨s.toArray⟩] rfl rfl ?d1 ?d2 ?d3 ?d4 ?d5 ?_)
    case d1 => exact one_at ha2
    case d2 => intro y hy; simp only [List.mem_singleton] at hy; subst hy; rfl
    case d3 => unfold maxLen; omega
    case d4 => omega
    case d5 => exact B2.out.size
    intro v3 w3 hown3 hg3 _
    have B3 := Lib.hid (B2.out.grown hg3 B2.out.size (own_ge HO2.out))
    obtain ⟨g, cap3, rfl, _, _⟩ := own_more hown3
    have HO3 : OwnStrs w.heap.size w3 (.slice (some ⟨g, 0, none⟩) (n + 1) cap3) (l ++ [s]) := own_texts (t := 9) (by have h := hown3; rw [show (l ++ [s]).length = n + 1 from by rw [List.length_append, HN.out]; rfl, show (l ++ [s]).map (fun s => Value.string ⟨s.toArray⟩) = l.map strV ++ [.string ⟨s.toArray⟩] from by simp]; exact h)
    have HO3' := Lib.hid HO3
    clear hown3 hg3 HO3 ha2 hb0'' hb1''
    go_wp2_with fail
    rw [rounds_succ]
    go_wp2_with fail
    go_ret
    exact ⟨_, _, _, rfl, by rw [HN.out], HO3'.out, B3.out⟩

set_option maxHeartbeats 4000000 in
theorem with_any (c : Int) (u : Value) (o : Bool) (l : Ls) (s : List UInt8) (hl : l.length ≤ 1000) (w : World) (Y : TextsIs w u l) :
    Calls Tryd.prog 35 #[gatherV c u o, .string ⟨s.toArray⟩] w fun e w' => ∃ p n k, e = .returned (gatherV c (.slice p n k) o) ∧ n = l.length + 1 ∧ OwnStrs w.heap.size w' (.slice p n k) (l ++ [s]) ∧ Below w.heap.size w w' := by
  obtain ⟨p, n, k, rfl, hn⟩ := Y.form3
  have YA : Hid (TextsIs ((((w.alloc (.cells #[.int .i64 c, .slice p n k, .bool o] 33)).alloc (.cells #[.int .i64 0, .slice none 0 0, .bool false] 33)).alloc (.cells #[.string ⟨s.toArray⟩] 9)).alloc (.cells #[.slice p n k, .slice (some ⟨w.heap.size + 1 + 1, 0, none⟩) 1 1] 22)) (.slice p n k) l) := Lib.hid ((((Y.alloc _).alloc _).alloc _).alloc _)
  have B0 : Hid (Below w.heap.size w ((((w.alloc (.cells #[.int .i64 c, .slice p n k, .bool o] 33)).alloc (.cells #[.int .i64 0, .slice none 0 0, .bool false] 33)).alloc (.cells #[.string ⟨s.toArray⟩] 9)).alloc (.cells #[.slice p n k, .slice (some ⟨w.heap.size + 1 + 1, 0, none⟩) 1 1] 22))) := Lib.hid (((((Below.refl _ w).alloc (Nat.le_refl _) _).alloc (by simp) _).alloc (by simp <;> omega) _).alloc (by simp <;> omega) _)
  have R0 : Hid (IsRow ((((w.alloc (.cells #[.int .i64 c, .slice p n k, .bool o] 33)).alloc (.cells #[.int .i64 0, .slice none 0 0, .bool false] 33)).alloc (.cells #[.string ⟨s.toArray⟩] 9)).alloc (.cells #[.slice p n k, .slice (some ⟨w.heap.size + 1 + 1, 0, none⟩) 1 1] 22)) w.heap.size 33 #[.int .i64 c, .slice p n k, .bool o]) := Lib.hid ((((IsRow.made w _ _).alloc _).alloc _).alloc _)
  have R1 : Hid (IsRow ((((w.alloc (.cells #[.int .i64 c, .slice p n k, .bool o] 33)).alloc (.cells #[.int .i64 0, .slice none 0 0, .bool false] 33)).alloc (.cells #[.string ⟨s.toArray⟩] 9)).alloc (.cells #[.slice p n k, .slice (some ⟨w.heap.size + 1 + 1, 0, none⟩) 1 1] 22)) (w.heap.size + 1) 33 #[.int .i64 0, .slice none 0 0, .bool false]) := Lib.hid (by have h := ((IsRow.made (w.alloc (.cells #[.int .i64 c, .slice p n k, .bool o] 33)) 33 #[.int .i64 0, .slice none 0 0, .bool false]).alloc (.cells #[.string ⟨s.toArray⟩] 9)).alloc (.cells #[.slice p n k, .slice (some ⟨w.heap.size + 1 + 1, 0, none⟩) 1 1] 22); rw [World.size_alloc] at h; exact h)
  have R2 : IsRow ((((w.alloc (.cells #[.int .i64 c, .slice p n k, .bool o] 33)).alloc (.cells #[.int .i64 0, .slice none 0 0, .bool false] 33)).alloc (.cells #[.string ⟨s.toArray⟩] 9)).alloc (.cells #[.slice p n k, .slice (some ⟨w.heap.size + 1 + 1, 0, none⟩) 1 1] 22)) (w.heap.size + 1 + 1) 9 #[.string ⟨s.toArray⟩] := by have h := (IsRow.made ((w.alloc (.cells #[.int .i64 c, .slice p n k, .bool o] 33)).alloc (.cells #[.int .i64 0, .slice none 0 0, .bool false] 33)) 9 #[.string ⟨s.toArray⟩]).alloc (.cells #[.slice p n k, .slice (some ⟨w.heap.size + 1 + 1, 0, none⟩) 1 1] 22); rw [World.size_alloc, World.size_alloc] at h; exact h
  have R3 : IsRow ((((w.alloc (.cells #[.int .i64 c, .slice p n k, .bool o] 33)).alloc (.cells #[.int .i64 0, .slice none 0 0, .bool false] 33)).alloc (.cells #[.string ⟨s.toArray⟩] 9)).alloc (.cells #[.slice p n k, .slice (some ⟨w.heap.size + 1 + 1, 0, none⟩) 1 1] 22)) (w.heap.size + 1 + 1 + 1) 22 #[.slice p n k, .slice (some ⟨w.heap.size + 1 + 1, 0, none⟩) 1 1] := by have h := IsRow.made (((w.alloc (.cells #[.int .i64 c, .slice p n k, .bool o] 33)).alloc (.cells #[.int .i64 0, .slice none 0 0, .bool false] 33)).alloc (.cells #[.string ⟨s.toArray⟩] 9)) 22 #[.slice p n k, .slice (some ⟨w.heap.size + 1 + 1, 0, none⟩) 1 1]; rw [World.size_alloc, World.size_alloc, World.size_alloc] at h; exact h
  have HC := Lib.hid (concat_two (.slice p n k) l s hl (w.heap.size + 1 + 1 + 1) (w.heap.size + 1 + 1) ((((w.alloc (.cells #[.int .i64 c, .slice p n k, .bool o] 33)).alloc (.cells #[.int .i64 0, .slice none 0 0, .bool false] 33)).alloc (.cells #[.string ⟨s.toArray⟩] 9)).alloc (.cells #[.slice p n k, .slice (some ⟨w.heap.size + 1 + 1, 0, none⟩) 1 1] 22)) YA.out (R3.cell 0) (R3.cell 1) (R2.cell 0))
  have hs : Hid (w.heap.size + 1 < ((((w.alloc (.cells #[.int .i64 c, .slice p n k, .bool o] 33)).alloc (.cells #[.int .i64 0, .slice none 0 0, .bool false] 33)).alloc (.cells #[.string ⟨s.toArray⟩] 9)).alloc (.cells #[.slice p n k, .slice (some ⟨w.heap.size + 1 + 1, 0, none⟩) 1 1] 22)).heap.size) := Lib.hid (by simp <;> omega)
  clear Y hn R2 R3 YA
  go_enter Tryd.func35, Tryd.ntmps35
  go_wp2_with (go_at_call 40; refine HC.out.mono ?_; rintro e w1 ⟨q, m, d, rfl, hm, ho, b1⟩; have Q0 := R0.out.call b1; have Q1 := R1.out.call b1; have B1 := Lib.hid (B0.out.trans (b1.mono B0.out.size)); have HM := Lib.hid hm; have HO := Lib.hid ho; have g0 := Q0.cell 0; have g1 := Q0.cell 1; have g2 := Q0.cell 2; have f1 := Q0.free 1; have z0 := Q1.cell 0; have z1 := Q1.cell 1; have z2 := Q1.cell 2; have x0 := Q1.free 0; have x1 := Q1.free 1; have x2 := Q1.free 2; have lt0 := Q0.lt; have lt1 := Q1.lt; clear hm ho b1 HC)
  generalize hW : World.setCell _ _ _ = W9
  have FR : IsRow W9 (w.heap.size + 1) 33 #[.int .i64 c, .slice q m d, .bool o] := by rw [← hW]; exact (((Q1.other (a := ⟨w.heap.size, 1, none⟩) (by show w.heap.size + 1 ≠ w.heap.size; omega) _).set 0 _).set 1 _).set 2 _
  have B9 : Below w.heap.size w W9 := by rw [← hW]; exact (((B1.out.setCell (p := ⟨w.heap.size, 1, none⟩) (Nat.le_refl _) _).setCell (p := ⟨w.heap.size + 1, 0, none⟩) (by show w.heap.size ≤ w.heap.size + 1; omega) _).setCell (p := ⟨w.heap.size + 1, 1, none⟩) (by show w.heap.size ≤ w.heap.size + 1; omega) _).setCell (p := ⟨w.heap.size + 1, 2, none⟩) (by show w.heap.size ≤ w.heap.size + 1; omega) _
  have O9 : OwnStrs w.heap.size W9 (.slice q m d) (l ++ [s]) := by
    have hs1 := hs.out
    rw [← hW]
    exact ((((HO.out.set (p := ⟨w.heap.size, 1, none⟩) (by show w.heap.size < _; omega) _).set (p := ⟨w.heap.size + 1, 0, none⟩) hs1 _).set (p := ⟨w.heap.size + 1, 1, none⟩) hs1 _).set (p := ⟨w.heap.size + 1, 2, none⟩) hs1 _).mono (by omega)
  have y0 : W9.cell? ⟨w.heap.size + 1, 0, none⟩ = some (.int .i64 c) := FR.cell 0
  have y1 : W9.cell? ⟨w.heap.size + 1, 1, none⟩ = some (.slice q m d) := FR.cell 1
  have y2 : W9.cell? ⟨w.heap.size + 1, 2, none⟩ = some (.bool o) := FR.cell 2
  exact bodyPost_ret (v := gatherV c (.slice q m d) o) (by simp [results, Tryd.results35, go_sem, gatherV, y0, y1, y2]) rfl ⟨q, m, d, rfl, HM.out, O9, B9⟩

#print axioms concat_two
#print axioms with_any
end Go.Proofs.YtbojjbnmjhblfaaDoor.Rp
