/- Proved: for every low port (1024 to 60000), number (1 to 50), draw, and one of them: where all are busy there is none; where all but one are it is that one; so many are free. Conditions: none beyond the row's own (the library's variables start as the program's text lays them: the card ties them). -/
import Derived.Test.YtpmmdlfgocjniaaPoolAwake
import Derived.BigQuiet
import Derived.Deep.QuietTactic
import Derived.Deep.RegionHeld

namespace Go.Proofs.Ytpmmdlfgocjniaa.poolFull
open Go.Proofs.Ytpmmdlfgocjniaa Go.Proofs.Ytpmmdlfgocjniaa.Po
open Go.ChangeShapes Go.WideShapes Go.ChangeAt Go.RowKit Go.Sort Go.ChangeMaps
set_option linter.unusedSimpArgs false
set_option linter.unusedVariables false
theorem OwnIntsLt {base : Nat} {w : World} {v : Value} {l : List Int} (h : OwnInts base w v l) : ∀ k, v.ownBlock = some k → k < w.heap.size := fun k hk => (World.ownsRow.lt h k hk).2
theorem apart_one {x x' y : Value} {n : Nat} (h : x'.ownBlock = x.ownBlock ∨ x'.ownBlock = some n) (hd : ∀ b, x.ownBlock = some b → y.ownBlock ≠ some b) (hl : ∀ b, y.ownBlock = some b → b < n) : ∀ b, x'.ownBlock = some b → y.ownBlock ≠ some b := by
  intro b hb e
  rcases h with h | h
  · exact hd b (by rw [← h]; exact hb) e
  · rw [h] at hb; injection hb with hb; subst hb; exact absurd (hl _ e) (Nat.lt_irrefl _)
theorem apart_two {x y y' : Value} {n : Nat} (h : y'.ownBlock = y.ownBlock ∨ y'.ownBlock = some n) (hd : ∀ b, x.ownBlock = some b → y.ownBlock ≠ some b) (hl : ∀ b, x.ownBlock = some b → b < n) : ∀ b, x.ownBlock = some b → y'.ownBlock ≠ some b := by
  intro b hb e
  rcases h with h | h
  · exact hd b hb (by rw [← h]; exact e)
  · rw [h] at e; injection e with e; subst e; exact absurd (hl _ hb) (Nat.lt_irrefl _)
theorem full_all {low draw : Int} {N : Nat} : pick low (low + (N : Int) - 1) draw (allL low N) = (0, false) ∧ free low (low + (N : Int) - 1) (allL low N) = 0 := by
  rcases pick_cases low (low + (N : Int) - 1) draw (allL low N) with ⟨q, _, h⟩ | ⟨h, k⟩
  · exact absurd (mem_all.2 ⟨h.lo, by have := h.hi; omega⟩) h.out
  · exact ⟨h, free_none k⟩
theorem full_most {low draw s : Int} {N : Nat} (hf : Fine low (low + (N : Int) - 1)) (h0 : 0 ≤ s) (h1 : s < N) : pick low (low + (N : Int) - 1) draw (mostL low s N) = (low + s, true) ∧ free low (low + (N : Int) - 1) (mostL low s N) = 1 :=
  pick_one hf (by omega) (by omega) (fun h => (mem_most.1 h).2.2 rfl) (fun p a b c => mem_most.2 ⟨a, by omega, c⟩)
set_option linter.unusedVariables false in
set_option maxHeartbeats 16000000 in
set_option maxRecDepth 100000 in
theorem walk (n0 : Int) (l0 : -9223372036854775808 ≤ n0) (h0 : n0 ≤ 9223372036854775807) (n1 : Int) (l1 : -9223372036854775808 ≤ n1) (h1 : n1 ≤ 9223372036854775807) (n2 : Int) (l2 : -9223372036854775808 ≤ n2) (h2 : n2 ≤ 9223372036854775807) (n3 : Int) (l3 : -9223372036854775808 ≤ n3) (h3 : n3 ≤ 9223372036854775807) (w : World)  (E : Env w) :
    Calls Try.prog 6 #[.int .i64 n0, .int .i64 n1, .int .i64 n2, .int .i64 n3] w fun e w' => e = .returned (.bool true) ∧ Below w.heap.size w w' := by
  have AWK := Lib.hid (fun W EW => awake_any W EW)
  have B0 := Lib.hid (Below.refl w.heap.size w)
  by_cases ga : n0 < 1024
  · go_enter Try.func6, Try.ntmps6
    go_wp2_with (first
        | (go_at_call 8; refine (AWK.out _ (E.below (B0.out))).mono ?_; rintro e w1 ⟨rfl, b1⟩; have B1 := Lib.hid (B0.out.trans (b1.mono B0.out.size)); clear AWK))
    all_goals (go_ret; exact ⟨by first | rfl | (simp; done) | (simp; omega), B1.out⟩)
  have ga' : ¬ n0 < 1024 := by omega
  by_cases gb : 60000 < n0
  · go_enter Try.func6, Try.ntmps6
    go_wp2_with (first
        | (go_at_call 8; refine (AWK.out _ (E.below (B0.out))).mono ?_; rintro e w1 ⟨rfl, b1⟩; have B1 := Lib.hid (B0.out.trans (b1.mono B0.out.size)); clear AWK))
    all_goals (go_ret; exact ⟨by first | rfl | (simp; done) | (simp; omega), B1.out⟩)
  have gb' : ¬ 60000 < n0 := by omega
  by_cases gc : n1 < 1
  · go_enter Try.func6, Try.ntmps6
    go_wp2_with (first
        | (go_at_call 8; refine (AWK.out _ (E.below (B0.out))).mono ?_; rintro e w1 ⟨rfl, b1⟩; have B1 := Lib.hid (B0.out.trans (b1.mono B0.out.size)); clear AWK))
    all_goals (go_ret; exact ⟨by first | rfl | (simp; done) | (simp; omega), B1.out⟩)
  have gc' : ¬ n1 < 1 := by omega
  by_cases gd : 50 < n1
  · go_enter Try.func6, Try.ntmps6
    go_wp2_with (first
        | (go_at_call 8; refine (AWK.out _ (E.below (B0.out))).mono ?_; rintro e w1 ⟨rfl, b1⟩; have B1 := Lib.hid (B0.out.trans (b1.mono B0.out.size)); clear AWK))
    all_goals (go_ret; exact ⟨by first | rfl | (simp; done) | (simp; omega), B1.out⟩)
  have gd' : ¬ 50 < n1 := by omega
  by_cases ge : n3 < 0
  · go_enter Try.func6, Try.ntmps6
    go_wp2_with (first
        | (go_at_call 8; refine (AWK.out _ (E.below (B0.out))).mono ?_; rintro e w1 ⟨rfl, b1⟩; have B1 := Lib.hid (B0.out.trans (b1.mono B0.out.size)); clear AWK))
    all_goals (go_ret; exact ⟨by first | rfl | (simp; done) | (simp; omega), B1.out⟩)
  have ge' : ¬ n3 < 0 := by omega
  by_cases gf : n1 ≤ n3
  · go_enter Try.func6, Try.ntmps6
    go_wp2_with (first
        | (go_at_call 8; refine (AWK.out _ (E.below (B0.out))).mono ?_; rintro e w1 ⟨rfl, b1⟩; have B1 := Lib.hid (B0.out.trans (b1.mono B0.out.size)); clear AWK))
    all_goals (go_ret; exact ⟨by first | rfl | (simp; done) | (simp; omega), B1.out⟩)
  have gf' : ¬ n1 ≤ n3 := by omega
  obtain ⟨N, rfl⟩ : ∃ N : Nat, n1 = (N : Int) := ⟨n1.toNat, by omega⟩
  have hN50 : N ≤ 50 := by omega
  have HN50 := Lib.hid hN50
  have hf : Fine n0 (n0 + (N : Int) - 1) := ⟨by omega, by omega, by omega⟩
  obtain ⟨p1, p2⟩ := full_all (low := n0) (draw := n2) (N := N)
  obtain ⟨p3, p4⟩ := full_most (low := n0) (draw := n2) (s := n3) (N := N) hf (by omega) (by omega)
  have p5 : free n0 (n0 + (N : Int) - 1) [] = (N : Int) := by rw [free_all hf]; omega
  have hla : (allL n0 N).length ≤ 100000 := by rw [all_len]; omega
  have hlm : (mostL n0 n3 N).length ≤ 100000 := by have := most_len n0 n3 N; omega
  have H1 := Lib.hid (fun u W EW HR => pick_of n0 (n0 + (N : Int) - 1) n2 l2 h2 u (allL n0 N) hla 0 false p1 W EW HR)
  have H2 := Lib.hid (fun u W EW HR => pick_of n0 (n0 + (N : Int) - 1) n2 l2 h2 u (mostL n0 n3 N) hlm (n0 + n3) true p3 W EW HR)
  have H3 := Lib.hid (fun u W EW HR => free_of n0 (n0 + (N : Int) - 1) u (allL n0 N) hla 0 p2 W EW HR)
  have H4 := Lib.hid (fun u W EW HR => free_of n0 (n0 + (N : Int) - 1) u (mostL n0 n3 N) hlm 1 p4 W EW HR)
  have H5 := Lib.hid (fun u W EW HR => free_of n0 (n0 + (N : Int) - 1) u [] (by decide) N p5 W EW HR)
  clear p1 p2 p3 p4 p5 hla hlm hf
  go_enter Try.func6, Try.ntmps6
  go_wp2_with (first
      | (go_at_call 8; refine (AWK.out _ (E.below (B0.out))).mono ?_; rintro e w1 ⟨rfl, b1⟩; have B1 := Lib.hid (B0.out.trans (b1.mono B0.out.size)); clear AWK))
  go_loopw [10, 11, 12] (fun x10 x11 x12 wr => ∃ (k : Nat), x12 = .int .i64 (k : Int) ∧ k ≤ N ∧ Hid (OwnInts w.heap.size wr x10 (allL n0 k)) ∧ Hid (OwnInts w.heap.size wr x11 (mostL n0 n3 k)) ∧ Hid (∀ b, x10.ownBlock = some b → x11.ownBlock ≠ some b) ∧ Hid (Below w.heap.size w wr)) (fun _ _ i _ => N - (intOf i).toNat)
  case atStart => exact ⟨0, rfl, Nat.zero_le _, Lib.hid (OwnInts.nil _ _), Lib.hid (OwnInts.nil _ _), Lib.hid (fun b hb => by cases hb), B1⟩
  case round =>
    obtain ⟨k, rfl, hk, HA, HM, HD, HB⟩ := hrel
    by_cases hlt : k < N
    · have hji : (k : Int) < (N : Int) := by omega
      have HK : Hid (k + 1 ≤ N) := Lib.hid hlt
      have HLEN : Hid ((allL n0 k).length ≤ 50 ∧ (mostL n0 n3 k).length ≤ 50) := Lib.hid (by have h1 := all_len n0 k; have h2 := most_len n0 n3 k; have := HN50.out; omega)
      by_cases hat : (k : Int) = n3
      · have gat : ((k : Int) == n3) = true := by rw [beq_iff_eq]; exact hat
        have hat2 := Lib.hid hat
        clear hat
        go_wp2_with (first
          | (at_builtin; refine wpList_append_ints rfl _ _ rfl w.heap.size u10 (allL n0 k) rfl (HA.out.alloc _) (.slice (some ⟨wr.heap.size, 0, none⟩) 1 1) [n0 + (k : Int)] rfl (ints_one wr (n0 + (k : Int))) (by have := HLEN.out; simp; omega) (by have := HB.out.size; simp; omega) ?_; intro va wa oa ga ka; have BA := Lib.hid ((HB.out.alloc HB.out.size (.cells #[.int .i64 (n0 + (k : Int))] 3)).grown ga (by have := HB.out.size; simp; omega) HA.out.ge); have OA : Hid (OwnInts w.heap.size wa va (allL n0 (k + 1))) := Lib.hid (by rw [all_next]; exact oa); have OM := Lib.hid ((HM.out.alloc (.cells #[.int .i64 (n0 + (k : Int))] 3)).other ga (fun b hb e => HD.out b e hb)); have DA := Lib.hid (apart_one ka HD.out (OwnIntsLt (HM.out.alloc (.cells #[.int .i64 (n0 + (k : Int))] 3)))); clear HA HM HD oa ga ka))
        go_roundw
        case rel => exact ⟨k + 1, by go_num, HK.out, OA, Lib.hid (by rw [most_next, if_pos hat2.out]; exact OM.out), DA, BA⟩
        case measure => have := HK.out; simp [intOf]; omega
      · have gat : ((k : Int) == n3) = false := by rw [beq_eq_false_iff_ne]; exact hat
        have hne := Lib.hid hat
        clear hat
        go_wp2_with (first
          | (at_builtin; refine wpList_append_ints rfl _ _ rfl w.heap.size u10 (allL n0 k) rfl (HA.out.alloc _) (.slice (some ⟨wr.heap.size, 0, none⟩) 1 1) [n0 + (k : Int)] rfl (ints_one wr (n0 + (k : Int))) (by have := HLEN.out; simp; omega) (by have := HB.out.size; simp; omega) ?_; intro va wa oa ga ka; have BA := Lib.hid ((HB.out.alloc HB.out.size (.cells #[.int .i64 (n0 + (k : Int))] 3)).grown ga (by have := HB.out.size; simp; omega) HA.out.ge); have OA : Hid (OwnInts w.heap.size wa va (allL n0 (k + 1))) := Lib.hid (by rw [all_next]; exact oa); have OM := Lib.hid ((HM.out.alloc (.cells #[.int .i64 (n0 + (k : Int))] 3)).other ga (fun b hb e => HD.out b e hb)); have DA := Lib.hid (apart_one ka HD.out (OwnIntsLt (HM.out.alloc (.cells #[.int .i64 (n0 + (k : Int))] 3)))); clear HA HM HD oa ga ka)
          | (at_builtin; refine wpList_append_ints rfl _ _ rfl w.heap.size u11 (mostL n0 n3 k) rfl (OM.out.alloc _) (.slice (some ⟨wa.heap.size, 0, none⟩) 1 1) [n0 + (k : Int)] rfl (ints_one wa (n0 + (k : Int))) (by have := HLEN.out; simp; omega) (by have := BA.out.size; simp; omega) ?_; intro vm wm om gm km; have BM := Lib.hid ((BA.out.alloc BA.out.size (.cells #[.int .i64 (n0 + (k : Int))] 3)).grown gm (by have := BA.out.size; simp; omega) OM.out.ge); have OM2 : Hid (OwnInts w.heap.size wm vm (mostL n0 n3 (k + 1))) := Lib.hid (by rw [most_next, if_neg hne.out]; exact om); have OA2 := Lib.hid ((OA.out.alloc (.cells #[.int .i64 (n0 + (k : Int))] 3)).other gm (fun b hb e => DA.out b hb e)); have DM := Lib.hid (apart_two km DA.out (OwnIntsLt (OA.out.alloc (.cells #[.int .i64 (n0 + (k : Int))] 3)))); clear OA OM DA om gm km))
        go_roundw
        case rel => exact ⟨k + 1, by go_num, HK.out, OA2, OM2, DM, BM⟩
        case measure => have := HK.out; simp [intOf]; omega
    · have hji : ¬ (k : Int) < (N : Int) := by omega
      obtain rfl : k = N := by omega
      go_wp2_with (first
          | (go_at_call 9; refine (H1.out _ _ (E.below HB.out) HA.out.ints).mono ?_; rintro e wc ⟨rfl, bwc⟩; have Bwc := Lib.hid (HB.out.trans (bwc.mono HB.out.size)); clear H1)
          | (go_at_call 9; refine (H2.out _ _ (E.below Bwc.out) (HM.out.ints.call (bwc))).mono ?_; rintro e wd ⟨rfl, bwd⟩; have Bwd := Lib.hid (Bwc.out.trans (bwd.mono Bwc.out.size)); clear H2)
          | (go_at_call 11; refine (H3.out _ _ (E.below Bwd.out) (HA.out.ints.call (below_trans bwc bwd))).mono ?_; rintro e we ⟨rfl, bwe⟩; have Bwe := Lib.hid (Bwd.out.trans (bwe.mono Bwd.out.size)); clear H3)
          | (go_at_call 11; refine (H4.out _ _ (E.below Bwe.out) (HM.out.ints.call (below_trans (below_trans bwc bwd) bwe))).mono ?_; rintro e wf ⟨rfl, bwf⟩; have Bwf := Lib.hid (Bwe.out.trans (bwf.mono Bwe.out.size)); clear H4)
          | (go_at_call 11; refine (H5.out _ _ (E.below Bwf.out) (IntsIs.nil _)).mono ?_; rintro e wg ⟨rfl, bwg⟩; have Bwg := Lib.hid (Bwf.out.trans (bwg.mono Bwf.out.size)); clear H5))
      all_goals (go_ret; exact ⟨by first | rfl | (simp; done) | (simp; omega), Bwg.out⟩)

set_option maxRecDepth 100000 in
theorem lifted (os : Os) (started : os.Started) (H : Type) (enc : TypeId × Value → H) :
    ReturnsInHanded {} Try.checked os 6 .any (Rows.poolFullSpec.pre6 enc Try.prog Try.f6 Rows.poolFullRow.domain false) (Rows.poolFullSpec.post enc Try.prog Try.f6 false true false false) := by
  refine returnsInHanded_of_change (C := Try.checked) ownKnobs started (by kernel_rfl) Try.func6
    (ChangeSpec.witness6 (enc := enc) (C := Try.checked) false ⟨#[], #[.int .i64 0, .int .i64 0, .int .i64 0, .int .i64 0], []⟩ 8 (by kernel_rfl) (by kernel_rfl) (by kernel_rfl) (by kernel_rfl)) ?_
  intro W base args ds gs before hval0 hW _ _
  have E : Env W := trivial
  have hval : ∀ (j : Nat) t v, Try.f6.params[j]? = some t → args[j]? = some v → Value.okWide Try.prog W .any base t v := hval0
  have hW' := hW
  obtain ⟨p, q, hA0, hV, rfl, _, _⟩ := hW
  have hA : DataW.TrodAll enc Try.prog W 0 (fun _ => true) true Try.f6.params.toList args.toList ds p := hA0
  rw [Try.params6] at hA hval
  obtain ⟨v0, vs0, d0, ds0, p0, q0, hargs, rfl, rfl, r0, t0⟩ := trodAll_cons hA
  obtain ⟨v1, vs1, d1, ds1, p1, q1, rfl, rfl, rfl, r1, t1⟩ := trodAll_cons t0
  obtain ⟨v2, vs2, d2, ds2, p2, q2, rfl, rfl, rfl, r2, t2⟩ := trodAll_cons t1
  obtain ⟨v3, vs3, d3, ds3, p3, q3, rfl, rfl, rfl, r3, t3⟩ := trodAll_cons t2
  obtain ⟨rfl, rfl, rfl⟩ := trodAll_nil t3
  obtain rfl : args = #[v0, v1, v2, v3] := by cases args; simp_all
  obtain ⟨rfl, rfl⟩ := trodVars_none hV
  obtain ⟨n0, rfl, rfl, rfl, w0⟩ := open_int Try.underlying3 (hval 0 3 v0 rfl rfl) r0
  obtain ⟨n1, rfl, rfl, rfl, w1⟩ := open_int Try.underlying3 (hval 1 3 v1 rfl rfl) r1
  obtain ⟨n2, rfl, rfl, rfl, w2⟩ := open_int Try.underlying3 (hval 2 3 v2 rfl rfl) r2
  obtain ⟨n3, rfl, rfl, rfl, w3⟩ := open_int Try.underlying3 (hval 3 3 v3 rfl rfl) r3
  clear hA0 hval0
  simp only [List.append_nil] at hW'
  refine (walk n0 (int_wf w0).1 (int_wf w0).2 n1 (int_wf w1).1 (int_wf w1).2 n2 (int_wf w2).1 (int_wf w2).2 n3 (int_wf w3).1 (int_wf w3).2 W  E).mono fun e W' ⟨he, hb⟩ => ?_
  subst he
  exact ⟨_, rfl, told hW' (fun _ _ _ => trodAll_cons_mk (shut_bool Try.underlying4 _) trodAll_mk0) (trodAll_cons_mk (shut_int Try.underlying3 w0) (trodAll_cons_mk (shut_int Try.underlying3 w1) (trodAll_cons_mk (shut_int Try.underlying3 w2) (trodAll_cons_mk (shut_int Try.underlying3 w3) trodAll_mk0)))) (fun _ => rfl) hb⟩

theorem over : Rows.poolFullRow.holds Try.pinned (OpenSpec.ofChange Rows.poolFullSpec) :=
  OpenClaim.holds_of_wide 6 Try.f6 rfl rfl rfl rfl rfl rfl rfl ⟨rfl, rfl, rfl, rfl, rfl⟩ rfl rfl rfl rfl rfl (by kernel_rfl) Try.func6 (by kernel_rfl)
    (of_decide_eq_true (by kernel_rfl)) (by unfold Func.isWrapper; first | (rw [if_pos (by decide +kernel)]; kernel_rfl) | (rw [if_neg (by decide +kernel)]; exact ⟨rfl, rfl⟩))
    (fun os started H enc _ => lifted os started H enc)

theorem proved : Rows.PoolFullSaid :=
  over
#print axioms proved
end Go.Proofs.Ytpmmdlfgocjniaa.poolFull
