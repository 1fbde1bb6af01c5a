/- The contracts of what the code of layer 9 asks of the library's package slices, of lists of texts: Equal, Clone, Grow of none, Concat of two. -/
import Derived.Test.YtbojjbnmjhblfaaDoorTexts
import Derived.Test.YtbojjbnmjhblfaaDoorBlocks
import Derived.Laws.AppendOwnNone
import Derived.Lib.SliceRun
import Derived.Lib.AppendZerosOnto
import Derived.BigQuiet
import Derived.Deep.QuietTactic
import Derived.WalkKit
import Derived.WalkMore
import Derived.Lib.Hide
import Derived.LoopTactic
namespace Go.Proofs.YtbojjbnmjhblfaaDoor.Rp
open Go.Proofs.YtbojjbnmjhblfaaDoor
open Go Go.ChangeShapes Go.WideShapes Go.ChangeAt Go.RowKit
set_option maxRecDepth 100000
set_option linter.unusedSimpArgs false

set_option maxHeartbeats 4000000 in
theorem equal_any (u u' : Value) (l l' : List (List UInt8)) (hl : l.length ≤ 9223372036854775807) (w : World) (Y : TextsIs w u l) (Y' : TextsIs w u' l') :
    Calls Tryd.prog 26 #[u, u'] w fun e w' => e = .returned (.bool (decide (l = l'))) ∧ Below w.heap.size w w' := by
  have YH := Lib.hid Y
  have YH' := Lib.hid Y'
  obtain ⟨p0, n0, rfl⟩ := Y.form
  obtain ⟨p1, n1, rfl⟩ := Y'.form
  clear Y Y'
  by_cases h2 : l.length = l'.length
  · obtain ⟨n, hn⟩ : ∃ n, l.length = n := ⟨_, rfl⟩
    have hn' : l'.length = n := by omega
    rw [hn, hn']
    have HN0 := Lib.hid hn
    have HN1 := Lib.hid hn'
    clear h2 hn hn'
    go_enter Tryd.func26, Tryd.ntmps26
    go_wp2_with fail
    go_loopw [13] (fun x13 wr => ∃ (k : Nat), x13 = .int .i64 (k : Int) ∧ k ≤ n ∧ Hid (∀ i (h : i < l.length) (h' : i < l'.length), i < k → l[i] = l'[i]) ∧ Hid (Below w.heap.size w wr)) (fun i _ => n - (intOf i).toNat)
    case atStart => exact ⟨0, rfl, Nat.zero_le _, Lib.hid (fun i _ _ h => absurd h (by omega)), Lib.hid (Below.refl _ _)⟩
    case round =>
      obtain ⟨k, rfl, hk, HS, HB⟩ := hrel
      by_cases hlt : k < n
      · have hlt0 : k < l.length := by rw [HN0.out]; exact hlt
        have hlt1 : k < l'.length := by rw [HN1.out]; exact hlt
        have hji : (k : Int) < (n : Int) := by omega
        have HK : Hid (k + 1 ≤ n) := Lib.hid hlt
        have hkm : k < 9223372036854775807 := by have := HN0.out; omega
        obtain ⟨a, rfl, _, hab, hcell⟩ := (show TextsIs w (.slice p0 l.length n0) l from YH.out).some (by omega)
        obtain ⟨a', rfl, _, hab', hcell'⟩ := (show TextsIs w (.slice p1 l'.length n1) l' from YH'.out).some (by omega)
        have hc : wr.cell? (a.add k) = some (.string ⟨l[k].toArray⟩) := by rw [HB.out.cell (by rw [add_block]; exact hab)]; exact hcell k hlt0
        have hc' : wr.cell? (a'.add k) = some (.string ⟨l'[k].toArray⟩) := by rw [HB.out.cell (by rw [add_block]; exact hab')]; exact hcell' k hlt1
        have HX : Hid (l[k] ≠ l'[k] → decide (l = l') = false) := Lib.hid (fun h => decide_eq_false (fun e => h (by subst e; rfl)))
        have HN : Hid (l[k] = l'[k] → ∀ i (h : i < l.length) (h' : i < l'.length), i < k + 1 → l[i] = l'[i]) := Lib.hid (fun e i h h' hi => by
          by_cases hik : i < k
          · exact HS.out i h h' hik
          · obtain rfl : i = k := by omega
            exact e)
        clear hcell hcell'
        generalize l[k] = t at *
        generalize l'[k] = t' at *
        clear hlt0 hlt1
        cases he : (t == t') with
        | false =>
          have HV := Lib.hid (HX.out (beq_eq_false_iff_ne.1 he))
          clear HX HN
          go_wp2_with fail
          go_quiet (fail)
          go_wp2_with fail
          go_ret
          exact ⟨by rw [HV.out] <;> rfl, HB.out.trans ⟨rfl, rfl, rfl, Nat.le_refl _, fun _ _ => rfl⟩⟩
        | true =>
          have HV := Lib.hid (HN.out (beq_iff_eq.1 he))
          clear HX HN
          go_wp2_with fail
          go_quiet (fail)
          go_wp2_with fail
          go_roundw
          case rel => exact ⟨k + 1, by go_num, HK.out, HV, Lib.hid (HB.out.trans ⟨rfl, rfl, rfl, Nat.le_refl _, fun _ _ => rfl⟩)⟩
          case measure => have := HK.out; simp [intOf]; omega
      · have hji : ¬ (k : Int) < (n : Int) := by omega
        have HV : Hid (decide (l = l') = true) := Lib.hid (decide_eq_true (List.ext_getElem (by rw [HN0.out, HN1.out]) fun i h h' => HS.out i h h' (by have := HN0.out; omega)))
        go_wp2_with fail
        go_ret
        exact ⟨by rw [HV.out] <;> rfl, HB.out⟩
  · have g2 : ((l.length : Int) != (l'.length : Int)) = true := by simp; omega
    have HV : Hid (decide (l = l') = false) := Lib.hid (decide_eq_false (fun e => h2 (by rw [e])))
    clear h2
    go_enter Tryd.func26, Tryd.ntmps26
    go_wp2_with fail
    go_ret
    exact ⟨by rw [HV.out] <;> rfl, Below.refl _ _⟩

theorem texts_cells {w : World} {a : Addr} {l : List (List UInt8)} (h : ∀ i (h : i < l.length), w.cell? (a.add i) = some (.string ⟨l[i].toArray⟩)) : ∀ j u, (l.map strV)[j]? = some u → w.cell? (a.add j) = some u := by
  intro j u hj
  have hjl : j < l.length := by have := (List.getElem?_eq_some_iff.1 hj).1; simpa using this
  rw [h j hjl]
  rw [List.getElem?_map, List.getElem?_eq_getElem hjl, Option.map_some] at hj
  exact hj
theorem texts_one {l : List (List UInt8)} : ∀ u ∈ l.map strV, u.oneCell' = true := by
  intro u hu
  obtain ⟨x, _, rfl⟩ := List.mem_map.1 hu
  rfl

set_option maxHeartbeats 2000000 in
theorem clone_any (a : Addr) (n c : Nat) (l : List (List UInt8)) (hn : n = l.length) (hl : l.length ≤ 1000) (w : World) (hcell : ∀ i (h : i < l.length), w.cell? (a.add i) = some (.string ⟨l[i].toArray⟩)) :
    Calls Tryd.prog 21 #[.slice (some a) n c] w fun e w' => ∃ v, e = .returned v ∧ w'.ownsRow w.heap.size 9 1 v n (l.map strV) ∧ Below w.heap.size w w' := by
  obtain ⟨i0, hi, hz0, hz1, hz2⟩ := info_parts info_string
  have q : ∀ (w : World) (a : Option Addr) (n c n' c' : Nat), (binOp .eql 22 (.slice a n c) (.slice none n' c')).run Tryd.prog w = .ok (.bool a.isNone) w := fun w a n c n' c' => Lib.run_eql_slice_nil w _ _ a n c n' c' Tryd.underlying22
  have HC := Lib.hid hcell
  clear hcell
  go_enter Tryd.func21, Tryd.ntmps21
  go_wp2_with (at_builtin; refine wpList_append_own _ rfl _ _ 22 rfl w.heap.size 9 i0 (.string ByteArray.empty) 1 16 Tryd.underlying22 hi hz0 hz1 hz2 rfl (by decide) _ _ _ rfl (World.ownsRow_made w #[] 0 (Nat.le_refl _) (Nat.zero_le _) rfl) a n c (l.map strV) rfl ?qc1 ?qc2 ?qc3 ?qc4 ?qc5 ?qc6 ?_)
  case qc1 => simp [hn]
  case qc2 => exact texts_cells (fun i h => (by have hb : Below w.heap.size w (w.alloc (.cells #[] 9)) := (Below.refl _ _).alloc (Nat.le_refl _) _
                                                rw [hb.cell (World.block_lt_of_cell? w _ (HC.out i h))]; exact HC.out i h))
  case qc3 => exact texts_one
  case qc4 => unfold maxLen; omega
  case qc5 => omega
  case qc6 => simp
  intro v' w1 hown hgrow hnil
  go_wp2
  go_ret
  refine ⟨v', rfl, by rw [hn]; exact hown, ?_⟩
  exact ((Below.refl _ w).alloc (Nat.le_refl _) _).grown hgrow (by simp) (by intro k hk; simp [Value.ownBlock] at hk; omega)

set_option maxHeartbeats 2000000 in
/-- room for n + 1 texts -/
theorem grow_nil (n : Nat) (hn : n ≤ 1000) (w : World) :
    Calls Tryd.prog 51 #[.slice none 0 0, .int .i64 ((n : Int) + 1)] w fun e w' => ∃ B c, e = .returned (.slice (some ⟨B, 0, none⟩) 0 c) ∧ w'.ownsRow w.heap.size 9 1 (.slice (some ⟨B, 0, none⟩) 0 c) 0 [] ∧ Below w.heap.size w w' := by
  obtain ⟨i0, hi, hz0, hz1, hz2⟩ := info_parts info_string
  have h1 : ¬ ((n : Int) + 1 < 0) := by omega
  have h4 : (n : Int) + 1 > 0 := by omega
  have hold : (Builtin.firstCells i0.size 0 (.slice none 0 0)).run Tryd.prog w.drew = .ok ([] : List Value).toArray w.drew := run_firstCells_none w.drew i0.size 0 0 0
  have hr : ∀ ty, (Builtin.append_ #[22, 3] ty #[.slice none 0 0, .int .i64 ((n : Int) + 1)]).run Tryd.prog w =
      .ok (.slice (some ⟨w.heap.size, 0, none⟩) (0 + (n + 1)) (grownCap w (0 + (n + 1)) 0 9)) (w.drew.alloc (.cells (([] : List Value).toArray ++ Builtin.zeroCells (Value.string ByteArray.empty).cells (n + 1) ++ Builtin.zeroCells (Value.string ByteArray.empty).cells (grownCap w (0 + (n + 1)) 0 9 - (0 + (n + 1)))) 9)) := fun ty =>
    Lib.run_append_grow_zeros w 22 3 ty 9 i0 (.string ByteArray.empty) .i64 .i64 Tryd.underlying22 Tryd.underlying3 hi hz0 none 0 0 [] hold (n + 1) (by omega) (by omega) (by omega) (by omega) (by rw [hz2]; omega)
      (growslice_fits (by omega) (by rw [hz2]; omega))
  have hG := grownCap_ge w (0 + (n + 1)) 0 9
  have hM := grownCap_le_maxLen w (0 + (n + 1)) 0 9 (by unfold maxLen; omega)
  generalize grownCap w (0 + (n + 1)) 0 9 = G at hr hG hM
  have hG63 : G ≤ 9223372036854775807 := by unfold maxLen at hM; omega
  obtain ⟨cs, hcs⟩ : ∃ cs, cs = ([] : List Value).toArray ++ Builtin.zeroCells (Value.string ByteArray.empty).cells (n + 1) ++ Builtin.zeroCells (Value.string ByteArray.empty).cells (G - (0 + (n + 1))) := ⟨_, rfl⟩
  rw [← hcs] at hr
  have HS : Hid (cs.size = G * 1) := Lib.hid (by rw [hcs, Array.size_append, Array.size_append, size_zeroCells, size_zeroCells]; simp [Value.cells]; omega)
  have HM := Lib.hid hM
  obtain ⟨m, hm⟩ : ∃ m, m = 0 + (n + 1) := ⟨_, rfl⟩
  rw [← hm] at hr
  clear hcs hold hm hM
  go_enter Tryd.func51, Tryd.ntmps51
  go_wp2_with (at_builtin; refine Lib.wpList_append_run _ rfl _ _ _ _ rfl _ _ rfl rfl _ _ (hr _) ?_)
  go_ret
  refine ⟨_, _, rfl, ?_, ?_⟩
  · exact World.ownsRow_made w.drew cs G (by show w.heap.size ≤ w.heap.size; omega) HM.out HS.out
  · exact ((Below.refl _ w).drew).alloc (by show w.heap.size ≤ w.heap.size; omega) _

#print axioms equal_any
#print axioms clone_any
#print axioms grow_nil
end Go.Proofs.YtbojjbnmjhblfaaDoor.Rp
