/- The contracts of what the code of layer 9 asks of the library's package slices, of lists of texts: Equal, Clone, Grow of none, Concat of two. -/
import Derived.Test.YtojpahnfhhbnoaaDoorTexts
import Derived.Test.YtojpahnfhhbnoaaDoorBlocks
import Derived.Laws.AppendOwnNone
import Derived.Lib.SliceRun
import Derived.Lib.AppendZerosOnto
import Derived.BigQuiet
import Derived.Deep.QuietTactic
import Derived.WalkKit
import Derived.WalkMore
import Derived.Lib.Hide
import Derived.LoopTactic
namespace Go.Proofs.YtojpahnfhhbnoaaDoor.Rp
open Go.Proofs.YtojpahnfhhbnoaaDoor
open Go Go.ChangeShapes Go.WideShapes Go.ChangeAt Go.RowKit
set_option maxRecDepth 100000
set_option linter.unusedSimpArgs false

set_option maxHeartbeats 4000000 in
theorem equal_any (u u' : Value) (l l' : List (List UInt8)) (hl : l.length ≤ 9223372036854775807) (w : World) (Y : TextsIs w u l) (Y' : TextsIs w u' l') :
    Calls Tryd.prog 23 #[u, u'] w fun e w' => e = .returned (.bool (decide (l = l'))) ∧ Below w.heap.size w w' := by
  have YH := Lib.hid Y
  have YH' := Lib.hid Y'
  obtain ⟨p0, n0, rfl⟩ := Y.form
  obtain ⟨p1, n1, rfl⟩ := Y'.form
  clear Y Y'
  by_cases h2 : l.length = l'.length
  · obtain ⟨n, hn⟩ : ∃ n, l.length = n := ⟨_, rfl⟩
    have hn' : l'.length = n := by omega
    rw [hn, hn']
    have HN0 := Lib.hid hn
    have HN1 := Lib.hid hn'
    clear h2 hn hn'
    go_enter Tryd.func23, Tryd.ntmps23
    go_wp2_with fail
    go_loopw [13] (fun x13 wr => ∃ (k : Nat), x13 = .int .i64 (k : Int) ∧ k ≤ n ∧ Hid (∀ i (h : i < l.length) (h' : i < l'.length), i < k → l[i] = l'[i]) ∧ Hid (Below w.heap.size w wr)) (fun i _ => n - (intOf i).toNat)
    case atStart => exact ⟨0, rfl, Nat.zero_le _, Lib.hid (fun i _ _ h => absurd h (by omega)), Lib.hid (Below.refl _ _)⟩
    case round =>
      obtain ⟨k, rfl, hk, HS, HB⟩ := hrel
      by_cases hlt : k < n
      · have hlt0 : k < l.length := by rw [HN0.out]; exact hlt
        have hlt1 : k < l'.length := by rw [HN1.out]; exact hlt
        have hji : (k : Int) < (n : Int) := by omega
        have HK : Hid (k + 1 ≤ n) := Lib.hid hlt
        have hkm : k < 9223372036854775807 := by have := HN0.out; omega
        obtain ⟨a, rfl, _, hab, hcell⟩ := (show TextsIs w (.slice p0 l.length n0) l from YH.out).some (by omega)
        obtain ⟨a', rfl, _, hab', hcell'⟩ := (show TextsIs w (.slice p1 l'.length n1) l' from YH'.out).some (by omega)
        have hc : wr.cell? (a.add k) = some (.string ⟨l[k].toArray⟩) := by rw [HB.out.cell (by rw [add_block]; exact hab)]; exact hcell k hlt0
        have hc' : wr.cell? (a'.add k) = some (.string ⟨l'[k].toArray⟩) := by rw [HB.out.cell (by rw [add_block]; exact hab')]; exact hcell' k hlt1
        have HX : Hid (l[k] ≠ l'[k] → decide (l = l') = false) := Lib.hid (fun h => decide_eq_false (fun e => h (by subst e; rfl)))
        have HN : Hid (l[k] = l'[k] → ∀ i (h : i < l.length) (h' : i < l'.length), i < k + 1 → l[i] = l'[i]) := Lib.hid (fun e i h h' hi => by
          by_cases hik : i < k
          · exact HS.out i h h' hik
          · obtain rfl : i = k := by omega
            exact e)
        clear hcell hcell'
        generalize l[k] = t at *
        generalize l'[k] = t' at *
        clear hlt0 hlt1
        cases he : (t == t') with
        | false =>
          have HV := Lib.hid (HX.out (beq_eq_false_iff_ne.1 he))
          clear HX HN
          go_wp2_with fail
          go_quiet (fail)
          go_wp2_with fail
          go_ret
          exact ⟨by rw [HV.out] <;> rfl, HB.out.trans ⟨rfl, rfl, rfl, Nat.le_refl _, fun _ _ => rfl⟩⟩
        | true =>
          have HV := Lib.hid (HN.out (beq_iff_eq.1 he))
          clear HX HN
          go_wp2_with fail
          go_quiet (fail)
          go_wp2_with fail
          go_roundw
          case rel => exact ⟨k + 1, by go_num, HK.out, HV, Lib.hid (HB.out.trans ⟨rfl, rfl, rfl, Nat.le_refl _, fun _ _ => rfl⟩)⟩
          case measure => have := HK.out; simp [intOf]; omega
      · have hji : ¬ (k : Int) < (n : Int) := by omega
        have HV : Hid (decide (l = l') = true) := Lib.hid (decide_eq_true (List.ext_getElem (by rw [HN0.out, HN1.out]) fun i h h' => HS.out i h h' (by have := HN0.out; omega)))
        go_wp2_with fail
        go_ret
        exact ⟨by rw [HV.out] <;> rfl, HB.out⟩
  · have g2 : ((l.length : Int) != (l'.length : Int)) = true := by simp; omega
    have HV : Hid (decide (l = l') = false) := Lib.hid (decide_eq_false (fun e => h2 (by rw [e])))
    clear h2
    go_enter Tryd.func23, Tryd.ntmps23
    go_wp2_with fail
    go_ret
    exact ⟨by rw [HV.out] <;> rfl, Below.refl _ _⟩

theorem texts_cells {w : World} {a : Addr} {l : List (List UInt8)} (h : ∀ i (h : i < l.length), w.cell? (a.add i) = some (.string ⟨l[i].toArray⟩)) : ∀ j u, (l.map strV)[j]? = some u → w.cell? (a.add j) = some u := by
  intro j u hj
  have hjl : j < l.length := by have := (List.getElem?_eq_some_iff.1 hj).1; simpa using this
  rw [h j hjl]
  rw [List.getElem?_map, List.getElem?_eq_getElem hjl, Option.map_some] at hj
  exact hj
theorem texts_one {l : List (List UInt8)} : ∀ u ∈ l.map strV, u.oneCell' = true := by
  intro u hu
  obtain ⟨x, _, rfl⟩ := List.mem_map.1 hu
  rfl



#print axioms equal_any
end Go.Proofs.YtojpahnfhhbnoaaDoor.Rp
