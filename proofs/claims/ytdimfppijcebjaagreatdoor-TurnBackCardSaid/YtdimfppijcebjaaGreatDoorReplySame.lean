/- The contracts of the document's answer of layer 9: wharfingerref09's Same and Texts. -/
import Derived.Test.YtdimfppijcebjaaGreatDoorReplyRef
import Derived.Deep.QuietTactic
namespace Go.Proofs.YtdimfppijcebjaaGreatDoor.Rp
open Go.Proofs.YtdimfppijcebjaaGreatDoor Go.Proofs.YtdimfppijcebjaaGreatDoor.Cm Go.Proofs.YtdimfppijcebjaaGreatDoor.Quad
open Go Go.ChangeShapes Go.WideShapes Go.ChangeAt Go.RowKit
set_option maxRecDepth 100000
set_option linter.unusedSimpArgs false

theorem same_no {c c' : Int} {l l' : Ls} (h : ¬ (c = c' ∧ l = l')) : same c l c' l' = false := decide_eq_false h
theorem same_yes {c : Int} {l : Ls} : same c l c l = true := decide_eq_true ⟨rfl, rfl⟩

set_option maxHeartbeats 8000000 in
theorem rsame_any (c c' : Int) (u u' : Value) (l l' : Ls) (hl : l.length ≤ 9223372036854775807) (w : World) (Y : TextsIs w u l) (Y' : TextsIs w u' l') :
    Calls Tryz.prog 17 #[replyV c u, replyV c' u'] w fun e w' => e = .returned (.bool (same c l c' l')) ∧ Below w.heap.size w w' := by
  have YH := Lib.hid Y
  have YH' := Lib.hid Y'
  obtain ⟨p0, n0, rfl⟩ := Y.form
  obtain ⟨p1, n1, rfl⟩ := Y'.form
  clear Y Y'
  have b1 : Below w.heap.size w ((w.alloc (.cells #[.int .i64 c, .slice p0 l.length n0] 26)).alloc (.cells #[.int .i64 c', .slice p1 l'.length n1] 26)) := ((Below.refl _ w).alloc (Nat.le_refl _) _).alloc (by simp) _
  have R0 := (IsRow.made w 26 #[.int .i64 c, .slice p0 l.length n0]).alloc (.cells #[.int .i64 c', .slice p1 l'.length n1] 26)
  have R1 := IsRow.made (w.alloc (.cells #[.int .i64 c, .slice p0 l.length n0] 26)) 26 #[.int .i64 c', .slice p1 l'.length n1]
  rw [World.size_alloc] at R1
  by_cases h1 : c = c'
  · subst h1
    by_cases h2 : l.length = l'.length
    · obtain ⟨n, hn⟩ : ∃ n, l.length = n := ⟨_, rfl⟩
      have hn' : l'.length = n := by omega
      rw [hn, hn'] at b1
      rw [hn, hn'] at R0
      rw [hn, hn'] at R1
      rw [hn]
      rw [hn']
      have B1 := Lib.hid b1
      have RH0 := Lib.hid R0
      have RH1 := Lib.hid R1
      have HN0 := Lib.hid hn
      have HN1 := Lib.hid hn'
      clear b1 R0 R1 h2 hn hn'
      go_enter Tryz.func17, Tryz.ntmps17
      go_wp2_with fail
      go_loopw [5] (fun x5 wr => ∃ (k : Nat), x5 = .int .i64 (k : Int) ∧ k ≤ n ∧ Hid (∀ i (h : i < l.length) (h' : i < l'.length), i < k → l[i] = l'[i]) ∧ Hid (Below w.heap.size w wr) ∧ Hid (IsRow wr w.heap.size 26 #[.int .i64 c, .slice p0 n n0]) ∧ Hid (IsRow wr (w.heap.size + 1) 26 #[.int .i64 c, .slice p1 n n1])) (fun i _ => n - (intOf i).toNat)
      case atStart => exact ⟨0, rfl, Nat.zero_le _, Lib.hid (fun i _ _ h => absurd h (by omega)), B1, RH0, RH1⟩
      case round =>
        obtain ⟨k, rfl, hk, HS, HB, HR0, HR1⟩ := hrel
        have q01 := HR0.out.cell 1
        have q11 := HR1.out.cell 1
        by_cases hlt : k < n
        · have hlt0 : k < l.length := by rw [HN0.out]; exact hlt
          have hlt1 : k < l'.length := by rw [HN1.out]; exact hlt
          have hji : (k : Int) < (n : Int) := by omega
          have HK : Hid (k + 1 ≤ n) := Lib.hid hlt
          have hkm : k < 9223372036854775807 := by have := HN0.out; omega
          obtain ⟨a, rfl, _, hab, hcell⟩ := (show TextsIs w (.slice p0 l.length n0) l from YH.out).some (by omega)
          obtain ⟨a', rfl, _, hab', hcell'⟩ := (show TextsIs w (.slice p1 l'.length n1) l' from YH'.out).some (by omega)
          have hc : wr.cell? (a.add k) = some (.string ⟨l[k].toArray⟩) := by rw [HB.out.cell (by rw [add_block]; exact hab)]; exact hcell k hlt0
          have hc' : wr.cell? (a'.add k) = some (.string ⟨l'[k].toArray⟩) := by rw [HB.out.cell (by rw [add_block]; exact hab')]; exact hcell' k hlt1
          have HX : Hid (l[k] ≠ l'[k] → same c l c l' = false) := Lib.hid (fun h => same_no (fun e => h (by have := e.2; subst this; rfl)))
          have HN : Hid (l[k] = l'[k] → ∀ i (h : i < l.length) (h' : i < l'.length), i < k + 1 → l[i] = l'[i]) := Lib.hid (fun e i h h' hi => by
            by_cases hik : i < k
            · exact HS.out i h h' hik
            · obtain rfl : i = k := by omega
              exact e)
          clear hcell hcell'
          generalize l[k] = t at *
          generalize l'[k] = t' at *
          clear hlt0 hlt1
          cases he : (t == t') with
          | false =>
            have HV := Lib.hid (HX.out (beq_eq_false_iff_ne.1 he))
            clear HX HN
            go_wp2_with fail
            go_quiet (fail)
            go_wp2_with fail
            go_ret
            exact ⟨by rw [HV.out] <;> rfl, HB.out.trans ⟨rfl, rfl, rfl, Nat.le_refl _, fun _ _ => rfl⟩⟩
          | true =>
            have HV := Lib.hid (HN.out (beq_iff_eq.1 he))
            clear HX HN
            go_wp2_with fail
            go_quiet (fail)
            go_wp2_with fail
            go_roundw
            case rel => exact ⟨k + 1, by go_num, HK.out, HV, Lib.hid (HB.out.trans ⟨rfl, rfl, rfl, Nat.le_refl _, fun _ _ => rfl⟩), Lib.hid (HR0.out.below (B := w.heap.size + 2) ⟨rfl, rfl, rfl, Nat.le_refl _, fun _ _ => rfl⟩ (by omega)), Lib.hid (HR1.out.below (B := w.heap.size + 2) ⟨rfl, rfl, rfl, Nat.le_refl _, fun _ _ => rfl⟩ (by omega))⟩
            case measure => have := HK.out; simp [intOf]; omega
        · have hji : ¬ (k : Int) < (n : Int) := by omega
          have HV : Hid (same c l c l' = true) := Lib.hid (decide_eq_true ⟨rfl, List.ext_getElem (by rw [HN0.out, HN1.out]) fun i h h' => HS.out i h h' (by have := HN0.out; omega)⟩)
          go_wp2_with fail
          go_ret
          exact ⟨by rw [HV.out] <;> rfl, HB.out⟩
    · have g2 : ((l.length : Int) != (l'.length : Int)) = true := by simp; omega
      have HV := Lib.hid (same_no (c := c) (c' := c) (l := l) (l' := l') (fun e => h2 (by rw [e.2])))
      have B1 := Lib.hid b1
      clear b1 R0 R1
      go_enter Tryz.func17, Tryz.ntmps17
      go_wp2_with fail
      go_ret
      exact ⟨by rw [HV.out] <;> rfl, B1.out⟩
  · have g1 : (c != c') = true := by simpa using h1
    have HV := Lib.hid (same_no (c := c) (c' := c') (l := l) (l' := l') (fun e => h1 e.1))
    have B1 := Lib.hid b1
    clear b1 R0 R1
    go_enter Tryz.func17, Tryz.ntmps17
    go_wp2_with fail
    go_ret
    exact ⟨by rw [HV.out] <;> rfl, B1.out⟩


#print axioms rsame_any
end Go.Proofs.YtdimfppijcebjaaGreatDoor.Rp
