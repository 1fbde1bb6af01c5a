/- Proved: for every two numbers and every text the law ReplyOpen of layer 9 answers true. Conditions: none beyond the row's own (the library's variables start as the program's text lays them: the card ties them). -/
import Derived.Test.YtbojjbnmjhblfaaDoorReplyAwake
import Derived.BigQuiet
import Derived.Deep.QuietTactic
import Derived.LoopTactic
import Derived.WalkMore
import Derived.Deep.RegionHeld
import Derived.Deep.RegionLaw
import Derived.Test.YtbojjbnmjhblfaaDoorTwo

namespace Go.Proofs.YtbojjbnmjhblfaaDoor.replyOpen
open Go.Proofs.YtbojjbnmjhblfaaDoor Go.Proofs.YtbojjbnmjhblfaaDoor.Rp Go.Proofs.YtbojjbnmjhblfaaDoor.Cm Go.Proofs.YtbojjbnmjhblfaaDoor.Quad
open Go.ChangeShapes Go.WideShapes Go.ChangeAt Go.RowKit Go.Sort Go.ChangeMaps

/-- what stands behind all ways through a region, to be shown once -/
structure Way (P : Prop) : Prop where
  out : P
theorem via {P Q : Prop} (f : Way P → Q) (h : P) : Q := f ⟨h⟩
theorem two_may {c : Int} (lo : 100 ≤ c) (hi : c ≤ 599) : May c [[120], [121]] where
  lo := lo
  hi := hi
  one := by decide
  few := by decide
  clean := fun i h => by
    match i, h with
    | 0, _ => show Cm.clean [120] = true; decide
    | 1, _ => show Cm.clean [121] = true; decide
  short := fun i h => by
    match i, h with
    | 0, _ => show 1 ≤ 500; decide
    | 1, _ => show 1 ≤ 500; decide
  mid := fun i h h0 h1 => by simp at h1; omega
theorem print_two {c : Int} (lo : 100 ≤ c) (hi : c ≤ 599) : Rp.print c [[120], [121]] = ([Lib.itoa c ++ [45, 120], Lib.itoa c ++ [32, 121]], true) := by
  unfold Rp.print
  rw [may_of (two_may lo hi), if_pos rfl]
  rfl
theorem print_one {c : Int} {s : List UInt8} (lo : 100 ≤ c) (hi : c ≤ 599) (hs : s.length ≤ 400) : Rp.print c [s] = if clean s then ([Lib.itoa c ++ 32 :: s], true) else ([], false) := by
  unfold Rp.print
  rw [may_one, decide_eq_true lo, decide_eq_true hi, decide_eq_true (by omega : s.length ≤ 500)]
  cases clean s <;> rfl
theorem take_one {c : Int} (lo : 100 ≤ c) (hi : c ≤ 599) : take ⟨0, [], false⟩ (Lib.itoa c ++ [45, 120]) = ⟨⟨c, [[120]], true⟩, 0, [], false, 0⟩ := take_line (two_may lo hi) (i := 0) (by decide)
theorem take_mid {c c' : Int} {s : List UInt8} (lo : 100 ≤ c) (hi : c ≤ 599) (lo' : 100 ≤ c') (hi' : c' ≤ 599) (hne : c ≠ c') (hs : s.length ≤ 400) (hc : clean s = true) :
    take ⟨c, [[120]], true⟩ (Lib.itoa c' ++ 32 :: s) = ⟨⟨c, [[120], Lib.itoa c' ++ 32 :: s], true⟩, 0, [], false, 0⟩ := by
  unfold take later
  rw [clean_append, clean_cons, code_clean lo' hi', hc, other_ends lo hi lo' hi' hne, decide_eq_true (by rw [List.length_append, List.length_cons, code_len lo' hi']; omega)]
  rfl
theorem take_end {c : Int} {x : List UInt8} (lo : 100 ≤ c) (hi : c ≤ 599) : take ⟨c, [[120], x], true⟩ (Lib.itoa c ++ [32, 121]) = ⟨Ga.none, c, [[120], x, [121]], true, 0⟩ := by
  unfold take later
  have e := ends_last (code := c) [121]
  have d := drop_last (code := c) [121]
  rw [clean_append, code_clean lo hi, decide_eq_true (by rw [List.length_append, code_len lo hi]; decide), e, d]
  rfl

set_option linter.unusedSimpArgs false
set_option linter.unusedVariables false in
set_option maxHeartbeats 8000000 in
set_option maxRecDepth 100000 in
theorem walk (n0 : Int) (l0 : -9223372036854775808 ≤ n0) (h0 : n0 ≤ 9223372036854775807) (n1 : Int) (l1 : -9223372036854775808 ≤ n1) (h1 : n1 ≤ 9223372036854775807) (s2 : List UInt8) (z2 : s2.length ≤ 9223372036854775807) (w : World)  (E : Env w) :
    Calls Tryd.prog 6 #[.int .i64 n0, .int .i64 n1, str s2] w fun e w' => e = .returned (.bool true) ∧ Below w.heap.size w w' := by
  by_cases h100 : n0 < 100
  · have B0 := Lib.hid (Below.refl w.heap.size w)
    go_enter Tryd.func6, Tryd.ntmps6
    go_wp2_with (first
          | (go_at_call 8; refine (awake_any _ (E.below (B0.out))).mono ?_; rintro e w1 ⟨rfl, b1⟩; have B1 := Lib.hid (B0.out.trans (b1.mono B0.out.size))))
    all_goals (go_ret; exact ⟨by first | rfl | (simp; done) | (simp; omega), B1.out⟩)
  by_cases h599 : 599 < n0
  · have B0 := Lib.hid (Below.refl w.heap.size w)
    go_enter Tryd.func6, Tryd.ntmps6
    go_wp2_with (first
          | (go_at_call 8; refine (awake_any _ (E.below (B0.out))).mono ?_; rintro e w1 ⟨rfl, b1⟩; have B1 := Lib.hid (B0.out.trans (b1.mono B0.out.size))))
    all_goals (go_ret; exact ⟨by first | rfl | (simp; done) | (simp; omega), B1.out⟩)
  by_cases k100 : n1 < 100
  · have B0 := Lib.hid (Below.refl w.heap.size w)
    go_enter Tryd.func6, Tryd.ntmps6
    go_wp2_with (first
          | (go_at_call 8; refine (awake_any _ (E.below (B0.out))).mono ?_; rintro e w1 ⟨rfl, b1⟩; have B1 := Lib.hid (B0.out.trans (b1.mono B0.out.size))))
    all_goals (go_ret; exact ⟨by first | rfl | (simp; done) | (simp; omega), B1.out⟩)
  by_cases k599 : 599 < n1
  · have B0 := Lib.hid (Below.refl w.heap.size w)
    go_enter Tryd.func6, Tryd.ntmps6
    go_wp2_with (first
          | (go_at_call 8; refine (awake_any _ (E.below (B0.out))).mono ?_; rintro e w1 ⟨rfl, b1⟩; have B1 := Lib.hid (B0.out.trans (b1.mono B0.out.size))))
    all_goals (go_ret; exact ⟨by first | rfl | (simp; done) | (simp; omega), B1.out⟩)
  by_cases hne : n0 = n1
  · have e0 : (n0 == n1) = true := beq_iff_eq.2 hne
    clear hne
    have B0 := Lib.hid (Below.refl w.heap.size w)
    go_enter Tryd.func6, Tryd.ntmps6
    go_wp2_with (first
          | (go_at_call 8; refine (awake_any _ (E.below (B0.out))).mono ?_; rintro e w1 ⟨rfl, b1⟩; have B1 := Lib.hid (B0.out.trans (b1.mono B0.out.size))))
    all_goals (go_ret; exact ⟨by first | rfl | (simp; done) | (simp; omega), B1.out⟩)
  have e0 : (n0 == n1) = false := beq_eq_false_iff_ne.2 hne
  by_cases h400 : 400 < s2.length
  · have g4 : (400 : Int) < (s2.length : Int) := by omega
    have B0 := Lib.hid (Below.refl w.heap.size w)
    go_enter Tryd.func6, Tryd.ntmps6
    go_wp2_with (first
          | (go_at_call 8; refine (awake_any _ (E.below (B0.out))).mono ?_; rintro e w1 ⟨rfl, b1⟩; have B1 := Lib.hid (B0.out.trans (b1.mono B0.out.size))))
    all_goals (go_ret; exact ⟨by first | rfl | (simp; done) | (simp; omega), B1.out⟩)
  have g4 : ¬ (400 : Int) < (s2.length : Int) := by omega
  have hd0 := code_len (code := n0) (by omega) (by omega)
  have hd1 := code_len (code := n1) (by omega) (by omega)
  have HP0 := Lib.hid (fun u W EW YW => print_at n0 l0 h0 u [[120], [121]] (by decide) _ (print_two (c := n0) (by omega) (by omega)) W EW YW)
  have hq := print_one (c := n1) (s := s2) (by omega) (by omega) (by omega)
  have HT1 := Lib.hid (fun u W EW YW => take_at 0 (by decide) (by decide) u false [] (Lib.itoa n0 ++ [45, 120]) (by decide) (by rw [List.length_append, hd0]; decide) _ (take_one (c := n0) (by omega) (by omega)) W EW YW)
  simp only [List.length_cons, List.length_nil, Nat.zero_add, Nat.reduceAdd] at HP0 HT1
  cases hcl : clean s2 with
  | false =>
    rw [hcl] at hq
    have HP1 := Lib.hid (fun u W EW YW => print_at n1 l1 h1 u [s2] (by intro s h; rw [List.mem_singleton.1 h]; exact z2) _ hq W EW YW)
    simp only [List.length_cons, List.length_nil, Bool.false_eq_true, if_false] at HP1
    clear hq hcl hd0 hd1 HT1
    have B0 := Lib.hid (Below.refl w.heap.size w)
    go_enter Tryd.func6, Tryd.ntmps6
    go_wp2_with (first
          | (go_at_call 8; refine (awake_any _ (E.below (B0.out))).mono ?_; rintro e w1 ⟨rfl, b1⟩; have B1 := Lib.hid (B0.out.trans (b1.mono B0.out.size)))
          | (go_at_call 11; refine (HP0.out _ _ (E.below ((B1.out).alloc B1.out.size (.cells #[.string ⟨#[120]⟩, .string ⟨#[121]⟩] 9))) (texts_lit w1 _ [[120], [121]] _ rfl 2 rfl 2)).mono ?_; rintro e w2 ⟨⟨pa, ca, rfl, oa⟩, b2⟩; have B2 := Lib.hid (((B1.out).alloc B1.out.size (.cells #[.string ⟨#[120]⟩, .string ⟨#[121]⟩] 9)).trans (b2.mono (by have := B1.out.size; simp <;> omega))); obtain ⟨ba, rfl, _, hba, hca⟩ := oa.some (Nat.succ_pos _); have CA := Lib.hid (And.intro hba hca); clear oa hba hca HP0)
          | (go_at_call 11; refine (HP1.out _ _ (E.below ((B2.out).alloc B2.out.size (.cells #[.string ⟨s2.toArray⟩] 9))) (texts_lit w2 _ [s2] _ rfl 1 rfl 1)).mono ?_; rintro e w3 ⟨⟨pb, cb, rfl, ob⟩, b3⟩; have B3 := Lib.hid (((B2.out).alloc B2.out.size (.cells #[.string ⟨s2.toArray⟩] 9)).trans (b3.mono (by have := B2.out.size; simp <;> omega))); clear HP1; clear ob))
    all_goals (go_ret; exact ⟨by first | rfl | (simp; done) | (simp; omega), B3.out⟩)
  | true =>
    rw [hcl] at hq
    have HP1 := Lib.hid (fun u W EW YW => print_at n1 l1 h1 u [s2] (by intro s h; rw [List.mem_singleton.1 h]; exact z2) _ hq W EW YW)
    have HT2 := Lib.hid (fun u W EW YW => take_at n0 l0 h0 u true [[120]] (Lib.itoa n1 ++ 32 :: s2) (by decide) (by rw [List.length_append, List.length_cons, hd1]; omega) _ (take_mid (c := n0) (c' := n1) (by omega) (by omega) (by omega) (by omega) hne (by omega) hcl) W EW YW)
    have HT3 := Lib.hid (fun u W EW YW => take_at n0 l0 h0 u true [[120], Lib.itoa n1 ++ 32 :: s2] (Lib.itoa n0 ++ [32, 121]) (by simp) (by rw [List.length_append, hd0]; decide) _ (take_end (c := n0) (by omega) (by omega)) W EW YW)
    simp only [List.length_cons, List.length_nil, Nat.zero_add, Nat.reduceAdd, if_true] at HP1 HT2 HT3
    generalize Lib.itoa n1 ++ 32 :: s2 = X at HP1 HT2 HT3
    generalize Lib.itoa n0 ++ [45, 120] = A0 at HP0 HT1
    generalize Lib.itoa n0 ++ [32, 121] = A1 at HP0 HT3
    clear hq hcl hd0 hd1
    have B0 := Lib.hid (Below.refl w.heap.size w)
    go_enter Tryd.func6, Tryd.ntmps6
    go_wp2_with (first
          | (go_at_call 8; refine (awake_any _ (E.below (B0.out))).mono ?_; rintro e w1 ⟨rfl, b1⟩; have B1 := Lib.hid (B0.out.trans (b1.mono B0.out.size)))
          | (go_at_call 11; refine (HP0.out _ _ (E.below ((B1.out).alloc B1.out.size (.cells #[.string ⟨#[120]⟩, .string ⟨#[121]⟩] 9))) (texts_lit w1 _ [[120], [121]] _ rfl 2 rfl 2)).mono ?_; rintro e w2 ⟨⟨pa, ca, rfl, oa⟩, b2⟩; have B2 := Lib.hid (((B1.out).alloc B1.out.size (.cells #[.string ⟨#[120]⟩, .string ⟨#[121]⟩] 9)).trans (b2.mono (by have := B1.out.size; simp <;> omega))); obtain ⟨ba, rfl, _, hba, hca⟩ := oa.some (Nat.succ_pos _); have CA := Lib.hid (And.intro hba hca); clear oa hba hca HP0)
          | (go_at_call 11; refine (HP1.out _ _ (E.below ((B2.out).alloc B2.out.size (.cells #[.string ⟨s2.toArray⟩] 9))) (texts_lit w2 _ [s2] _ rfl 1 rfl 1)).mono ?_; rintro e w3 ⟨⟨pb, cb, rfl, ob⟩, b3⟩; have B3 := Lib.hid (((B2.out).alloc B2.out.size (.cells #[.string ⟨s2.toArray⟩] 9)).trans (b3.mono (by have := B2.out.size; simp <;> omega))); clear HP1; obtain ⟨bb, rfl, _, hbb, hcb⟩ := ob.some (Nat.succ_pos _); have CB := Lib.hid (And.intro hbb (show w3.cell? ⟨bb, 0, none⟩ = some (.string ⟨X.toArray⟩) from hcb 0 (Nat.succ_pos _))); have hbaw : ba < w3.heap.size := Nat.lt_of_lt_of_le CA.out.1 (by have := b3.size; simp at this; omega); have bCA : Below w2.heap.size w2 w3 := ((Below.refl w2.heap.size w2).alloc (Nat.le_refl _) (.cells #[.string ⟨s2.toArray⟩] 9)).trans (b3.mono (by simp)); have ea0 : w3.cell? ⟨ba, 0, none⟩ = some (.string ⟨A0.toArray⟩) := (bCA.cell (p := ⟨ba, 0, none⟩) CA.out.1).trans (CA.out.2 0 (by simp)); have EA1 := Lib.hid (show w3.cell? ⟨ba, 1, none⟩ = some (.string ⟨A1.toArray⟩) from (bCA.cell (p := ⟨ba, 1, none⟩) CA.out.1).trans (CA.out.2 1 (by simp))); clear ob hbb hcb bCA)
          | (go_at_call 17; refine (HT1.out _ _ (E.below (B3.out)) (TextsIs.nil _)).mono ?_; rintro e w4 ⟨⟨p4, c4, q4, d4, rfl, o4, o4'⟩, b4⟩; have B4 := Lib.hid (B3.out.trans (b4.mono B3.out.size)); clear HT1; have b4s := b4.size; have O4 := Lib.hid o4; have EB4 := Lib.hid ((b4.cell (p := ⟨bb, 0, none⟩) CB.out.1).trans CB.out.2); have EA4 := Lib.hid ((b4.cell (p := ⟨ba, 1, none⟩) hbaw).trans EA1.out); clear o4 o4' ea0))
    have BV := Lib.hid (((Below.refl w4.heap.size w4).alloc (Nat.le_refl _) (.cells #[.int .i64 n0, .slice p4 1 c4, .bool true] 33)).alloc (by simp) (.cells #[.int .i64 0, .slice q4 0 d4] 24))
    have GV := Lib.hid ((IsRow.made w4 33 #[.int .i64 n0, .slice p4 1 c4, .bool true]).alloc (.cells #[.int .i64 0, .slice q4 0 d4] 24))
    have OV := Lib.hid ((O4.out.alloc (.cells #[.int .i64 n0, .slice p4 1 c4, .bool true] 33)).alloc (.cells #[.int .i64 0, .slice q4 0 d4] 24)).texts
    generalize World.alloc (World.alloc w4 _) _ = v0 at BV GV OV ⊢
    have bbl : bb < w4.heap.size := Nat.lt_of_lt_of_le CB.out.1 b4s
    have bal : ba < w4.heap.size := Nat.lt_of_lt_of_le hbaw b4s
    have e0' : v0.cell? ⟨bb, 0, none⟩ = some (.string ⟨X.toArray⟩) := (BV.out.cell (p := ⟨bb, 0, none⟩) bbl).trans EB4.out
    have g0 := GV.out.cell 0
    have g1 := GV.out.cell 1
    have g2 := GV.out.cell 2
    have glt := GV.out.lt
    have bbv : bb < v0.heap.size := Nat.lt_trans bbl glt
    have bav : ba < v0.heap.size := Nat.lt_trans bal glt
    have BW := Lib.hid (B4.out.trans (BV.out.mono B4.out.size))
    have SB : Hid (∀ W, Below w4.heap.size v0 W → W.cell? ⟨bb, 0, none⟩ = some (.string ⟨X.toArray⟩)) := Lib.hid (fun W h => (h.cell (p := ⟨bb, 0, none⟩) bbl).trans e0')
    have JOIN : Hid (∀ W w', Below v0.heap.size v0 W → Below W.heap.size W w' → Below v0.heap.size v0 w') := Lib.hid (fun W w' h k => h.trans (k.mono h.size))
    have JN2 : Hid (∀ W w', Below v0.heap.size v0 W → Below W.heap.size W w' → ∀ v l v' l', OwnStrs W.heap.size w' v l → OwnStrs W.heap.size w' v' l' → ∃ B, v0.heap.size ≤ B ∧ W.heap.size = B ∧ OwnStrs B w' v l ∧ OwnStrs B w' v' l') := Lib.hid (fun W w' h _ v l v' l' o1 o2 => ⟨_, h.size, rfl, o1, o2⟩)
    have EV : Hid (∀ W, Below v0.heap.size v0 W → Env W) := Lib.hid (fun W h => E.below (BW.out.trans (h.mono (by have := BW.out.size; omega))))
    have XV : Hid (∀ W, Below v0.heap.size v0 W → TextsIs W (.slice p4 1 c4) [[120]]) := Lib.hid (fun W h => OV.out.call h)
    apply via
    case f =>
      intro hkey
      go_region_law ((go_simp; go_at_call 17; refine (HT2.out _ _ (EV.out _ (by first | exact Below.refl _ _ | exact (Below.refl _ _).drew | exact ((Below.refl _ _).alloc (Nat.le_refl _) _) | exact ((Below.refl _ _).alloc (Nat.le_refl _) _).drew | exact (((Below.refl _ _).alloc (Nat.le_refl _) _).alloc (by simp) _) | exact (((Below.refl _ _).alloc (Nat.le_refl _) _).alloc (by simp) _).drew)) (XV.out _ (by first | exact Below.refl _ _ | exact (Below.refl _ _).drew | exact ((Below.refl _ _).alloc (Nat.le_refl _) _) | exact ((Below.refl _ _).alloc (Nat.le_refl _) _).drew | exact (((Below.refl _ _).alloc (Nat.le_refl _) _).alloc (by simp) _) | exact (((Below.refl _ _).alloc (Nat.le_refl _) _).alloc (by simp) _).drew))).mono ?_; rintro e w5 ⟨⟨p5, c5, q5, d5, rfl, o5, o5'⟩, b5⟩; have HBF := Lib.hid (JOIN.out _ _ (by first | exact Below.refl _ _ | exact (Below.refl _ _).drew | exact ((Below.refl _ _).alloc (Nat.le_refl _) _) | exact ((Below.refl _ _).alloc (Nat.le_refl _) _).drew | exact (((Below.refl _ _).alloc (Nat.le_refl _) _).alloc (by simp) _) | exact (((Below.refl _ _).alloc (Nat.le_refl _) _).alloc (by simp) _).drew) b5); have HB5 := Lib.hid (HBF.out.mono (Nat.le_of_lt glt)); have K5 := SB.out w5 HB5.out; obtain ⟨BB, hBl, hBe, O5, -⟩ := JN2.out _ _ (by first | exact Below.refl _ _ | exact (Below.refl _ _).drew | exact ((Below.refl _ _).alloc (Nat.le_refl _) _) | exact ((Below.refl _ _).alloc (Nat.le_refl _) _).drew | exact (((Below.refl _ _).alloc (Nat.le_refl _) _).alloc (by simp) _) | exact (((Below.refl _ _).alloc (Nat.le_refl _) _).alloc (by simp) _).drew) b5 _ _ _ _ o5 o5'; simp at hBe; have G5 := GV.out.call HBF.out; have gf0 := G5.free 0; have gf1 := G5.free 1; have gf2 := G5.free 2; have gc0 := G5.cell 0; have gc1 := G5.cell 1; have gc2 := G5.cell 2; have glt5 := G5.lt; have s5 := HBF.out.size; first | (have ZH := (IsRow.made v0 33 #[.int .i64 0, .slice none 0 0, .bool false]).drew.call b5; have zf0 := ZH.free 0; have zc0 := ZH.cell 0; have zf1 := ZH.free 1; have zc1 := ZH.cell 1; have zf2 := ZH.free 2; have zc2 := ZH.cell 2; have zlt := ZH.lt) | (have ZM := (IsRow.made v0 24 #[.int .i64 0, .slice none 0 0]).drew.call b5; have yf0 := ZM.free 0; have yc0 := ZM.cell 0; have yf1 := ZM.free 1; have yc1 := ZM.cell 1; have ylt := ZM.lt) | (have ZH := ((IsRow.made v0 33 #[.int .i64 0, .slice none 0 0, .bool false]).alloc (.cells #[.int .i64 0, .slice none 0 0] 24)).drew.call b5; have ZM := (IsRow.made (v0.alloc (.cells #[.int .i64 0, .slice none 0 0, .bool false] 33)) 24 #[.int .i64 0, .slice none 0 0]).drew.call b5; have zf0 := ZH.free 0; have zc0 := ZH.cell 0; have zf1 := ZH.free 1; have zc1 := ZH.cell 1; have zf2 := ZH.free 2; have zc2 := ZH.cell 2; have zlt := ZH.lt; have yf0 : w5.frozen? ⟨v0.heap.size + 1, 0, none⟩ = false := (by have h := ZM.free 0; rw [World.size_alloc] at h; exact h); have yc0 : w5.cell? ⟨v0.heap.size + 1, 0, none⟩ = some (.int .i64 0) := (by have h := ZM.cell 0; rw [World.size_alloc] at h; exact h); have yf1 : w5.frozen? ⟨v0.heap.size + 1, 1, none⟩ = false := (by have h := ZM.free 1; rw [World.size_alloc] at h; exact h); have yc1 : w5.cell? ⟨v0.heap.size + 1, 1, none⟩ = some (.slice none 0 0) := (by have h := ZM.cell 1; rw [World.size_alloc] at h; exact h); have ylt : v0.heap.size + 1 < w5.heap.size := (by have h := ZM.lt; rw [World.size_alloc] at h; exact h)) | (have ZM := ((IsRow.made v0 24 #[.int .i64 0, .slice none 0 0]).alloc (.cells #[.int .i64 0, .slice none 0 0, .bool false] 33)).drew.call b5; have ZH := (IsRow.made (v0.alloc (.cells #[.int .i64 0, .slice none 0 0] 24)) 33 #[.int .i64 0, .slice none 0 0, .bool false]).drew.call b5; have yf0 := ZM.free 0; have yc0 := ZM.cell 0; have yf1 := ZM.free 1; have yc1 := ZM.cell 1; have ylt := ZM.lt; have zf0 : w5.frozen? ⟨v0.heap.size + 1, 0, none⟩ = false := (by have h := ZH.free 0; rw [World.size_alloc] at h; exact h); have zc0 : w5.cell? ⟨v0.heap.size + 1, 0, none⟩ = some (.int .i64 0) := (by have h := ZH.cell 0; rw [World.size_alloc] at h; exact h); have zf1 : w5.frozen? ⟨v0.heap.size + 1, 1, none⟩ = false := (by have h := ZH.free 1; rw [World.size_alloc] at h; exact h); have zc1 : w5.cell? ⟨v0.heap.size + 1, 1, none⟩ = some (.slice none 0 0) := (by have h := ZH.cell 1; rw [World.size_alloc] at h; exact h); have zf2 : w5.frozen? ⟨v0.heap.size + 1, 2, none⟩ = false := (by have h := ZH.free 2; rw [World.size_alloc] at h; exact h); have zc2 : w5.cell? ⟨v0.heap.size + 1, 2, none⟩ = some (.bool false) := (by have h := ZH.cell 2; rw [World.size_alloc] at h; exact h); have zlt : v0.heap.size + 1 < w5.heap.size := (by have h := ZH.lt; rw [World.size_alloc] at h; exact h)) | (have ZH := (IsRow.made v0 33 #[.int .i64 0, .slice none 0 0, .bool false]).call b5; have zf0 := ZH.free 0; have zc0 := ZH.cell 0; have zf1 := ZH.free 1; have zc1 := ZH.cell 1; have zf2 := ZH.free 2; have zc2 := ZH.cell 2; have zlt := ZH.lt) | (have ZM := (IsRow.made v0 24 #[.int .i64 0, .slice none 0 0]).call b5; have yf0 := ZM.free 0; have yc0 := ZM.cell 0; have yf1 := ZM.free 1; have yc1 := ZM.cell 1; have ylt := ZM.lt) | (have ZH := ((IsRow.made v0 33 #[.int .i64 0, .slice none 0 0, .bool false]).alloc (.cells #[.int .i64 0, .slice none 0 0] 24)).call b5; have ZM := (IsRow.made (v0.alloc (.cells #[.int .i64 0, .slice none 0 0, .bool false] 33)) 24 #[.int .i64 0, .slice none 0 0]).call b5; have zf0 := ZH.free 0; have zc0 := ZH.cell 0; have zf1 := ZH.free 1; have zc1 := ZH.cell 1; have zf2 := ZH.free 2; have zc2 := ZH.cell 2; have zlt := ZH.lt; have yf0 : w5.frozen? ⟨v0.heap.size + 1, 0, none⟩ = false := (by have h := ZM.free 0; rw [World.size_alloc] at h; exact h); have yc0 : w5.cell? ⟨v0.heap.size + 1, 0, none⟩ = some (.int .i64 0) := (by have h := ZM.cell 0; rw [World.size_alloc] at h; exact h); have yf1 : w5.frozen? ⟨v0.heap.size + 1, 1, none⟩ = false := (by have h := ZM.free 1; rw [World.size_alloc] at h; exact h); have yc1 : w5.cell? ⟨v0.heap.size + 1, 1, none⟩ = some (.slice none 0 0) := (by have h := ZM.cell 1; rw [World.size_alloc] at h; exact h); have ylt : v0.heap.size + 1 < w5.heap.size := (by have h := ZM.lt; rw [World.size_alloc] at h; exact h)) | (have ZM := ((IsRow.made v0 24 #[.int .i64 0, .slice none 0 0]).alloc (.cells #[.int .i64 0, .slice none 0 0, .bool false] 33)).call b5; have ZH := (IsRow.made (v0.alloc (.cells #[.int .i64 0, .slice none 0 0] 24)) 33 #[.int .i64 0, .slice none 0 0, .bool false]).call b5; have yf0 := ZM.free 0; have yc0 := ZM.cell 0; have yf1 := ZM.free 1; have yc1 := ZM.cell 1; have ylt := ZM.lt; have zf0 : w5.frozen? ⟨v0.heap.size + 1, 0, none⟩ = false := (by have h := ZH.free 0; rw [World.size_alloc] at h; exact h); have zc0 : w5.cell? ⟨v0.heap.size + 1, 0, none⟩ = some (.int .i64 0) := (by have h := ZH.cell 0; rw [World.size_alloc] at h; exact h); have zf1 : w5.frozen? ⟨v0.heap.size + 1, 1, none⟩ = false := (by have h := ZH.free 1; rw [World.size_alloc] at h; exact h); have zc1 : w5.cell? ⟨v0.heap.size + 1, 1, none⟩ = some (.slice none 0 0) := (by have h := ZH.cell 1; rw [World.size_alloc] at h; exact h); have zf2 : w5.frozen? ⟨v0.heap.size + 1, 2, none⟩ = false := (by have h := ZH.free 2; rw [World.size_alloc] at h; exact h); have zc2 : w5.cell? ⟨v0.heap.size + 1, 2, none⟩ = some (.bool false) := (by have h := ZH.cell 2; rw [World.size_alloc] at h; exact h); have zlt : v0.heap.size + 1 < w5.heap.size := (by have h := ZH.lt; rw [World.size_alloc] at h; exact h)) | skip))
      all_goals (first
        | (have TW := Lib.hid (Two.ss (.int .i64 n0) (.slice p5 2 c5) (.bool true) (.int .i64 0) (.slice q5 0 d5) (w := w5) (b := w4.heap.size) (B := BB) (H := w4.heap.size) (M := v0.heap.size) (Nat.le_refl _) (by omega) (by omega) (by omega) (by omega) (by omega) G5 ZM); generalize World.setCell (World.setCell (World.setCell (World.setCell (World.setCell w5 _ _) _ _) _ _) _ _) _ _ = v1 at TW ⊢; generalize v0.heap.size = MM at TW ⊢; with_reducible show Exit.then _ _ _ _ v1)
        | (have TW := Lib.hid (Two.sn (.int .i64 n0) (.slice p5 2 c5) (.bool true) (.int .i64 0) (.slice q5 0 d5) (w := w5) (b := w4.heap.size) (B := BB) (H := w4.heap.size) (Nat.le_refl _) (by omega) (by omega) G5); generalize World.alloc (World.setCell (World.setCell (World.setCell w5 _ _) _ _) _ _) _ = v1 at TW ⊢; generalize w5.heap.size = MM at TW ⊢; with_reducible show Exit.then _ _ _ _ v1))
      all_goals (
        have FB := Lib.hid (TW.out.below _ _ HB5.out (Nat.le_refl _))
        have FO := Lib.hid (TW.out.own _ _ O5)
        have FR := Lib.hid TW.out.row
        clear TW O5 o5 o5'
        revert FB FO FR
        revert MM
        revert v1
        revert d5
        revert q5
        revert c5
        revert p5
        exact hkey.out)
    case h =>
      intro p5 c5 q5 d5 v1 MM FB FO FR
      have e1 : v1.cell? ⟨ba, 1, none⟩ = some (.string ⟨A1.toArray⟩) := (FB.out.cell (p := ⟨ba, 1, none⟩) bal).trans ((BV.out.cell (p := ⟨ba, 1, none⟩) bal).trans EA4.out)
      have E0 := Lib.hid (SB.out v1 FB.out)
      have h0' := FR.out.cell 0
      have h1' := FR.out.cell 1
      have h2' := FR.out.cell 2
      have hl := FR.out.lt
      have bav1 : ba < v1.heap.size := Nat.lt_trans bal hl
      have bbv1 : bb < v1.heap.size := Nat.lt_trans bbl hl
      have BW1 := Lib.hid (BW.out.trans (FB.out.mono B4.out.size))
      have JOIN1 : Hid (∀ W w', Below v1.heap.size v1 W → Below W.heap.size W w' → Below v1.heap.size v1 w') := Lib.hid (fun W w' h k => h.trans (k.mono h.size))
      have JN3 : Hid (∀ W w', Below v1.heap.size v1 W → Below W.heap.size W w' → ∀ v l v' l', OwnStrs W.heap.size w' v l → OwnStrs W.heap.size w' v' l' → ∃ B, v1.heap.size ≤ B ∧ W.heap.size = B ∧ OwnStrs B w' v l ∧ OwnStrs B w' v' l') := Lib.hid (fun W w' h _ v l v' l' o1 o2 => ⟨_, h.size, rfl, o1, o2⟩)
      have EV1 : Hid (∀ W, Below v1.heap.size v1 W → Env W) := Lib.hid (fun W h => E.below (BW1.out.trans (h.mono (by have := BW1.out.size; omega))))
      have XV1 : Hid (∀ W, Below v1.heap.size v1 W → TextsIs W (.slice p5 2 c5) [[120], X]) := Lib.hid (fun W h => FO.out.texts.call h)
      have GK1 : Hid (∀ w', Below v1.heap.size v1 w' → w'.cell? ⟨w4.heap.size, 0, none⟩ = some (.int .i64 n0) ∧ w'.cell? ⟨w4.heap.size, 1, none⟩ = some (.slice p5 2 c5) ∧ w'.cell? ⟨w4.heap.size, 2, none⟩ = some (.bool true) ∧ w'.cell? ⟨ba, 1, none⟩ = some (.string ⟨A1.toArray⟩)) := Lib.hid (fun w' h => ⟨(FR.out.call h).cell 0, (FR.out.call h).cell 1, (FR.out.call h).cell 2, (h.cell (p := ⟨ba, 1, none⟩) bav1).trans e1⟩)
      clear glt g0 g1 g2 e0' JOIN JN2 EV XV HT2
      go_wp2_with fail
      apply via
      case f =>
        intro hkey
        go_region_held (fun w' => w'.cell? ⟨w4.heap.size, 0, none⟩ = some (.int .i64 n0) ∧ w'.cell? ⟨w4.heap.size, 1, none⟩ = some (.slice p5 2 c5) ∧ w'.cell? ⟨w4.heap.size, 2, none⟩ = some (.bool true) ∧ w'.cell? ⟨ba, 1, none⟩ = some (.string ⟨A1.toArray⟩)) (first | with_reducible exact K7 | exact GK1.out _ (by repeat (first | with_reducible exact HB7.out | with_reducible exact Below.refl _ _ | with_reducible refine Below.drew ?_ | with_reducible refine Below.alloc ?_ (by first | exact Nat.le_refl _ | (simp; done) | (simp; omega) | (have := HB7.out.size; simp; omega)) _ | with_reducible refine Below.setCell ?_ (by first | exact Nat.le_refl _ | (show v1.heap.size ≤ _; omega) | (show v1.heap.size ≤ _; have := HB7.out.size; simp <;> omega)) _)) | go_keep)
          ((go_at_call 17; refine (HT3.out _ _ (EV1.out _ (by first | exact Below.refl _ _ | exact (Below.refl _ _).drew | exact ((Below.refl _ _).alloc (Nat.le_refl _) _) | exact ((Below.refl _ _).alloc (Nat.le_refl _) _).drew | exact (((Below.refl _ _).alloc (Nat.le_refl _) _).alloc (by simp) _) | exact (((Below.refl _ _).alloc (Nat.le_refl _) _).alloc (by simp) _).drew)) (XV1.out _ (by first | exact Below.refl _ _ | exact (Below.refl _ _).drew | exact ((Below.refl _ _).alloc (Nat.le_refl _) _) | exact ((Below.refl _ _).alloc (Nat.le_refl _) _).drew | exact (((Below.refl _ _).alloc (Nat.le_refl _) _).alloc (by simp) _) | exact (((Below.refl _ _).alloc (Nat.le_refl _) _).alloc (by simp) _).drew))).mono ?_; rintro e w7 ⟨⟨p7, c7, q7, d7, rfl, o7, o7'⟩, b7⟩; obtain ⟨bq, rfl, _, _, _⟩ := o7'.some (Nat.succ_pos _); have HB7 := Lib.hid (JOIN1.out _ _ (by first | exact Below.refl _ _ | exact (Below.refl _ _).drew | exact ((Below.refl _ _).alloc (Nat.le_refl _) _) | exact ((Below.refl _ _).alloc (Nat.le_refl _) _).drew | exact (((Below.refl _ _).alloc (Nat.le_refl _) _).alloc (by simp) _) | exact (((Below.refl _ _).alloc (Nat.le_refl _) _).alloc (by simp) _).drew) b7); have K7 := GK1.out w7 HB7.out; obtain ⟨BB, hBl, hBe, O7, O7'⟩ := JN3.out _ _ (by first | exact Below.refl _ _ | exact (Below.refl _ _).drew | exact ((Below.refl _ _).alloc (Nat.le_refl _) _) | exact ((Below.refl _ _).alloc (Nat.le_refl _) _).drew | exact (((Below.refl _ _).alloc (Nat.le_refl _) _).alloc (by simp) _) | exact (((Below.refl _ _).alloc (Nat.le_refl _) _).alloc (by simp) _).drew) b7 _ _ _ _ o7 o7'; simp at hBe; first | (have ZH := (IsRow.made v1 33 #[.int .i64 0, .slice none 0 0, .bool false]).drew.call b7; have zf0 := ZH.free 0; have zc0 := ZH.cell 0; have zf1 := ZH.free 1; have zc1 := ZH.cell 1; have zf2 := ZH.free 2; have zc2 := ZH.cell 2; have zlt := ZH.lt) | (have ZM := (IsRow.made v1 24 #[.int .i64 0, .slice none 0 0]).drew.call b7; have yf0 := ZM.free 0; have yc0 := ZM.cell 0; have yf1 := ZM.free 1; have yc1 := ZM.cell 1; have ylt := ZM.lt) | (have ZH := ((IsRow.made v1 33 #[.int .i64 0, .slice none 0 0, .bool false]).alloc (.cells #[.int .i64 0, .slice none 0 0] 24)).drew.call b7; have ZM := (IsRow.made (v1.alloc (.cells #[.int .i64 0, .slice none 0 0, .bool false] 33)) 24 #[.int .i64 0, .slice none 0 0]).drew.call b7; have zf0 := ZH.free 0; have zc0 := ZH.cell 0; have zf1 := ZH.free 1; have zc1 := ZH.cell 1; have zf2 := ZH.free 2; have zc2 := ZH.cell 2; have zlt := ZH.lt; have yf0 : w7.frozen? ⟨v1.heap.size + 1, 0, none⟩ = false := (by have h := ZM.free 0; rw [World.size_alloc] at h; exact h); have yc0 : w7.cell? ⟨v1.heap.size + 1, 0, none⟩ = some (.int .i64 0) := (by have h := ZM.cell 0; rw [World.size_alloc] at h; exact h); have yf1 : w7.frozen? ⟨v1.heap.size + 1, 1, none⟩ = false := (by have h := ZM.free 1; rw [World.size_alloc] at h; exact h); have yc1 : w7.cell? ⟨v1.heap.size + 1, 1, none⟩ = some (.slice none 0 0) := (by have h := ZM.cell 1; rw [World.size_alloc] at h; exact h); have ylt : v1.heap.size + 1 < w7.heap.size := (by have h := ZM.lt; rw [World.size_alloc] at h; exact h)) | (have ZM := ((IsRow.made v1 24 #[.int .i64 0, .slice none 0 0]).alloc (.cells #[.int .i64 0, .slice none 0 0, .bool false] 33)).drew.call b7; have ZH := (IsRow.made (v1.alloc (.cells #[.int .i64 0, .slice none 0 0] 24)) 33 #[.int .i64 0, .slice none 0 0, .bool false]).drew.call b7; have yf0 := ZM.free 0; have yc0 := ZM.cell 0; have yf1 := ZM.free 1; have yc1 := ZM.cell 1; have ylt := ZM.lt; have zf0 : w7.frozen? ⟨v1.heap.size + 1, 0, none⟩ = false := (by have h := ZH.free 0; rw [World.size_alloc] at h; exact h); have zc0 : w7.cell? ⟨v1.heap.size + 1, 0, none⟩ = some (.int .i64 0) := (by have h := ZH.cell 0; rw [World.size_alloc] at h; exact h); have zf1 : w7.frozen? ⟨v1.heap.size + 1, 1, none⟩ = false := (by have h := ZH.free 1; rw [World.size_alloc] at h; exact h); have zc1 : w7.cell? ⟨v1.heap.size + 1, 1, none⟩ = some (.slice none 0 0) := (by have h := ZH.cell 1; rw [World.size_alloc] at h; exact h); have zf2 : w7.frozen? ⟨v1.heap.size + 1, 2, none⟩ = false := (by have h := ZH.free 2; rw [World.size_alloc] at h; exact h); have zc2 : w7.cell? ⟨v1.heap.size + 1, 2, none⟩ = some (.bool false) := (by have h := ZH.cell 2; rw [World.size_alloc] at h; exact h); have zlt : v1.heap.size + 1 < w7.heap.size := (by have h := ZH.lt; rw [World.size_alloc] at h; exact h)) | (have ZH := (IsRow.made v1 33 #[.int .i64 0, .slice none 0 0, .bool false]).call b7; have zf0 := ZH.free 0; have zc0 := ZH.cell 0; have zf1 := ZH.free 1; have zc1 := ZH.cell 1; have zf2 := ZH.free 2; have zc2 := ZH.cell 2; have zlt := ZH.lt) | (have ZM := (IsRow.made v1 24 #[.int .i64 0, .slice none 0 0]).call b7; have yf0 := ZM.free 0; have yc0 := ZM.cell 0; have yf1 := ZM.free 1; have yc1 := ZM.cell 1; have ylt := ZM.lt) | (have ZH := ((IsRow.made v1 33 #[.int .i64 0, .slice none 0 0, .bool false]).alloc (.cells #[.int .i64 0, .slice none 0 0] 24)).call b7; have ZM := (IsRow.made (v1.alloc (.cells #[.int .i64 0, .slice none 0 0, .bool false] 33)) 24 #[.int .i64 0, .slice none 0 0]).call b7; have zf0 := ZH.free 0; have zc0 := ZH.cell 0; have zf1 := ZH.free 1; have zc1 := ZH.cell 1; have zf2 := ZH.free 2; have zc2 := ZH.cell 2; have zlt := ZH.lt; have yf0 : w7.frozen? ⟨v1.heap.size + 1, 0, none⟩ = false := (by have h := ZM.free 0; rw [World.size_alloc] at h; exact h); have yc0 : w7.cell? ⟨v1.heap.size + 1, 0, none⟩ = some (.int .i64 0) := (by have h := ZM.cell 0; rw [World.size_alloc] at h; exact h); have yf1 : w7.frozen? ⟨v1.heap.size + 1, 1, none⟩ = false := (by have h := ZM.free 1; rw [World.size_alloc] at h; exact h); have yc1 : w7.cell? ⟨v1.heap.size + 1, 1, none⟩ = some (.slice none 0 0) := (by have h := ZM.cell 1; rw [World.size_alloc] at h; exact h); have ylt : v1.heap.size + 1 < w7.heap.size := (by have h := ZM.lt; rw [World.size_alloc] at h; exact h)) | (have ZM := ((IsRow.made v1 24 #[.int .i64 0, .slice none 0 0]).alloc (.cells #[.int .i64 0, .slice none 0 0, .bool false] 33)).call b7; have ZH := (IsRow.made (v1.alloc (.cells #[.int .i64 0, .slice none 0 0] 24)) 33 #[.int .i64 0, .slice none 0 0, .bool false]).call b7; have yf0 := ZM.free 0; have yc0 := ZM.cell 0; have yf1 := ZM.free 1; have yc1 := ZM.cell 1; have ylt := ZM.lt; have zf0 : w7.frozen? ⟨v1.heap.size + 1, 0, none⟩ = false := (by have h := ZH.free 0; rw [World.size_alloc] at h; exact h); have zc0 : w7.cell? ⟨v1.heap.size + 1, 0, none⟩ = some (.int .i64 0) := (by have h := ZH.cell 0; rw [World.size_alloc] at h; exact h); have zf1 : w7.frozen? ⟨v1.heap.size + 1, 1, none⟩ = false := (by have h := ZH.free 1; rw [World.size_alloc] at h; exact h); have zc1 : w7.cell? ⟨v1.heap.size + 1, 1, none⟩ = some (.slice none 0 0) := (by have h := ZH.cell 1; rw [World.size_alloc] at h; exact h); have zf2 : w7.frozen? ⟨v1.heap.size + 1, 2, none⟩ = false := (by have h := ZH.free 2; rw [World.size_alloc] at h; exact h); have zc2 : w7.cell? ⟨v1.heap.size + 1, 2, none⟩ = some (.bool false) := (by have h := ZH.cell 2; rw [World.size_alloc] at h; exact h); have zlt : v1.heap.size + 1 < w7.heap.size := (by have h := ZH.lt; rw [World.size_alloc] at h; exact h)) | skip))
        all_goals (first
          | (have TW := Lib.hid (Two.ss (.int .i64 0) (.slice p7 0 c7) (.bool false) (.int .i64 n0) (.slice (some ⟨bq, 0, none⟩) 3 d7) (w := w7) (b := w4.heap.size + 1) (B := BB) (H := v1.heap.size) (M := v1.heap.size + 1) (by omega) (by omega) (by omega) (by omega) (by omega) (by omega) (by have h := ZH; first | exact h | (rw [World.size_alloc] at h; exact h)) (by have h := ZM; first | exact h | (rw [World.size_alloc] at h; exact h))); generalize World.setCell (World.setCell (World.setCell (World.setCell (World.setCell w7 _ _) _ _) _ _) _ _) _ _ = v2 at TW ⊢; generalize v1.heap.size + 1 = MM2 at TW ⊢; generalize v1.heap.size = HH at TW ⊢; with_reducible show Exit.then _ _ _ _ v2)
          | (have TW := Lib.hid (Two.ss (.int .i64 0) (.slice p7 0 c7) (.bool false) (.int .i64 n0) (.slice (some ⟨bq, 0, none⟩) 3 d7) (w := w7) (b := w4.heap.size + 1) (B := BB) (H := v1.heap.size + 1) (M := v1.heap.size) (by omega) (by omega) (by omega) (by omega) (by omega) (by omega) (by have h := ZH; first | exact h | (rw [World.size_alloc] at h; exact h)) (by have h := ZM; first | exact h | (rw [World.size_alloc] at h; exact h))); generalize World.setCell (World.setCell (World.setCell (World.setCell (World.setCell w7 _ _) _ _) _ _) _ _) _ _ = v2 at TW ⊢; generalize v1.heap.size + 1 = HH at TW ⊢; generalize v1.heap.size = MM2 at TW ⊢; with_reducible show Exit.then _ _ _ _ v2)
          | (have TW := Lib.hid (Two.sn (.int .i64 0) (.slice p7 0 c7) (.bool false) (.int .i64 n0) (.slice (some ⟨bq, 0, none⟩) 3 d7) (w := w7) (b := w4.heap.size + 1) (B := BB) (H := v1.heap.size) (by omega) (by omega) (by omega) ZH); generalize World.alloc (World.setCell (World.setCell (World.setCell w7 _ _) _ _) _ _) _ = v2 at TW ⊢; generalize v1.heap.size = HH at TW ⊢; generalize w7.heap.size = MM2 at TW ⊢; with_reducible show Exit.then _ _ _ _ v2)
          | (have TW := Lib.hid (Two.ns (.int .i64 0) (.slice p7 0 c7) (.bool false) (.int .i64 n0) (.slice (some ⟨bq, 0, none⟩) 3 d7) (w := w7) (b := w4.heap.size + 1) (B := BB) (M := v1.heap.size) (by omega) (by omega) (by omega) ZM); generalize World.alloc (World.setCell (World.setCell w7 _ _) _ _) _ = v2 at TW ⊢; generalize w7.heap.size = HH at TW ⊢; generalize v1.heap.size = MM2 at TW ⊢; with_reducible show Exit.then _ _ _ _ v2)
          | (have TW := Lib.hid (Two.hm (.int .i64 0) (.slice p7 0 c7) (.bool false) (.int .i64 n0) (.slice (some ⟨bq, 0, none⟩) 3 d7) (w := w7) (b := w4.heap.size + 1) (B := BB) (by have := HB7.out.size; omega) (by omega)); generalize World.alloc (World.alloc w7 _) _ = v2 at TW ⊢; generalize w7.heap.size + 1 = MM2 at TW ⊢; generalize w7.heap.size = HH at TW ⊢; with_reducible show Exit.then _ _ _ _ v2)
          | (have TW := Lib.hid (Two.mh (.int .i64 0) (.slice p7 0 c7) (.bool false) (.int .i64 n0) (.slice (some ⟨bq, 0, none⟩) 3 d7) (w := w7) (b := w4.heap.size + 1) (B := BB) (by have := HB7.out.size; omega) (by omega)); generalize World.alloc (World.alloc w7 _) _ = v2 at TW ⊢; generalize w7.heap.size + 1 = HH at TW ⊢; generalize w7.heap.size = MM2 at TW ⊢; with_reducible show Exit.then _ _ _ _ v2))
        all_goals (
          have FB7 := Lib.hid (TW.out.below _ _ (HB7.out.mono (by omega)) (Nat.le_refl _))
          have FY := Lib.hid (TW.out.own _ _ O7')
          have FM := Lib.hid TW.out.mow
          clear TW
          generalize d7 = d8 at FY FM ⊢
          generalize c7 = c8 at FY FM ⊢
          generalize p7 = p8 at FY FM ⊢
          generalize bq = b8 at FY FM ⊢
          revert FB7 FY FM
          revert MM2
          revert HH
          revert v2
          revert d8
          revert c8
          revert p8
          revert b8
          exact hkey.out)
      case h =>
        intro b8 p8 c8 d8 v2 HH MM2 FB7 FY FM
        obtain ⟨b9, eb, _, hbq, hcq⟩ := FY.out.some (Nat.succ_pos _)
        injection eb with eb
        injection eb with eb _ _
        subst eb
        have x1 : v2.cell? ⟨b8, 1, none⟩ = some (.string ⟨X.toArray⟩) := hcq 1 (by simp)
        have x0 : v2.cell? ⟨bb, 0, none⟩ = some (.string ⟨X.toArray⟩) := (FB7.out.cell (p := ⟨bb, 0, none⟩) (by show bb < w4.heap.size + 1; omega)).trans E0.out
        have m0 := FM.out.cell 0
        have m1 := FM.out.cell 1
        have exx : (X == X) = true := by simp
        have enn : (n0 == n0) = true := by simp
        have i13 : (1 : Int) < 3 := by decide
        have i01 : (0 : Int) < 1 := by decide
        have BF := Lib.hid (BW1.out.trans (FB7.out.mono (by have := B4.out.size; omega)))
        clear hcq
        go_wp2_with fail
        go_quiet (fail)
        go_wp2_with fail
        go_ret
        exact ⟨by first | rfl | (simp; done), BF.out.trans ⟨rfl, rfl, rfl, Nat.le_refl _, fun _ _ => rfl⟩⟩

set_option maxRecDepth 100000 in
theorem lifted (os : Os) (started : os.Started) (H : Type) (enc : TypeId × Value → H) :
    ReturnsInHanded {} Tryd.checked os 6 .any (fun w args => (Rows.replyOpenSpec.pre enc Tryd.prog Tryd.f6 [] false w args ∧ laidMetH Tryd.prog laidHere w) ∧ sizedMet enc Tryd.prog Tryd.f6 (OpenSpec.ofChange Rows.replyOpenSpec) false w args)
      (Rows.replyOpenSpec.post enc Tryd.prog Tryd.f6 false true false false) := by
  refine handed started (by kernel_rfl) Tryd.func6 #[.int .i64 0, .int .i64 0, .string ⟨#[]⟩] (by kernel_rfl) (by kernel_rfl) (by kernel_rfl) (World.shaped_of_ZipB (by kernel_rfl) (by kernel_rfl))
    (by unfold laidHere; rw [MakeChecks.laidMetH_plain _ _ _ (by kernel_rfl)]; exact laidMet_laidAll _ (by kernel_rfl) (by kernel_rfl)) ?_
  intro W base args ds gs before hval0 hW E
  have hval : ∀ (j : Nat) t v, Tryd.f6.params[j]? = some t → args[j]? = some v → Value.okWide Tryd.prog W .any base t v := hval0
  have hW' := hW
  obtain ⟨p, q, hA0, hV, rfl, _, _⟩ := hW
  have hA : DataW.TrodAll enc Tryd.prog W 0 (fun _ => true) true Tryd.f6.params.toList args.toList ds p := hA0
  rw [Tryd.params6] at hA hval
  obtain ⟨v0, vs0, d0, ds0, p0, q0, hargs, rfl, rfl, r0, t0⟩ := trodAll_cons hA
  obtain ⟨v1, vs1, d1, ds1, p1, q1, rfl, rfl, rfl, r1, t1⟩ := trodAll_cons t0
  obtain ⟨v2, vs2, d2, ds2, p2, q2, rfl, rfl, rfl, r2, t2⟩ := trodAll_cons t1
  obtain ⟨rfl, rfl, rfl⟩ := trodAll_nil t2
  obtain rfl : args = #[v0, v1, v2] := by cases args; simp_all
  obtain ⟨rfl, rfl⟩ := trodVars_none hV
  obtain ⟨n0, rfl, rfl, rfl, w0⟩ := open_int Tryd.underlying3 (hval 0 3 v0 rfl rfl) r0
  obtain ⟨n1, rfl, rfl, rfl, w1⟩ := open_int Tryd.underlying3 (hval 1 3 v1 rfl rfl) r1
  obtain ⟨x2, rfl, rfl, rfl, w2⟩ := open_string Tryd.underlying9 (hval 2 9 v2 rfl rfl) r2
  obtain ⟨s2, rfl⟩ : ∃ l : List UInt8, x2 = ⟨l.toArray⟩ := ⟨x2.data.toList, by simp⟩
  clear hA0 hval0
  simp only [List.append_nil] at hW'
  refine (walk n0 (int_wf w0).1 (int_wf w0).2 n1 (int_wf w1).1 (int_wf w1).2 s2 (by have := w2; rw [size_mk] at this; unfold maxLen at this; exact this) W  E).mono fun e W' ⟨he, hb⟩ => ?_
  subst he
  exact ⟨_, rfl, told hW' (fun _ _ _ => trodAll_cons_mk (shut_bool Tryd.underlying4 _) trodAll_mk0) (trodAll_cons_mk (shut_int Tryd.underlying3 w0) (trodAll_cons_mk (shut_int Tryd.underlying3 w1) (trodAll_cons_mk (shut_string Tryd.underlying9 w2) trodAll_mk0))) (fun _ => rfl) hb⟩

theorem over : Rows.ReplyOpenSaid :=
  OpenClaim.holds_of_wide 6 Tryd.f6 rfl rfl rfl rfl rfl rfl rfl ⟨rfl, rfl, rfl, rfl, rfl⟩ rfl rfl rfl rfl rfl (by kernel_rfl) Tryd.func6 (by kernel_rfl)
    (of_decide_eq_true (by kernel_rfl)) (by unfold Func.isWrapper; first | (rw [if_pos (by decide +kernel)]; kernel_rfl) | (rw [if_neg (by decide +kernel)]; exact ⟨rfl, rfl⟩))
    (fun os started H enc _ => lifted os started H enc)

theorem proved : Rows.ReplyOpenCardSaid :=
  Claim7.holds_tied_plain_at .later [] Rows.replyOpenCard.laidKinds true Rows.replyOpenCard.stood.harness Rows.replyOpenCard.stood.looks
    over (fun _ h => by cases h) (by kernel_rfl) (fun _ h => by cases h) replyOpen_row_tie rfl ⟨rfl, rfl⟩ (by kernel_rfl) rfl
    (fun f fn hf hfn => by
      obtain rfl : f = 6 := Option.some.inj ((show Tryd.prog.funcNamed "wharfinger/wharfingerlaw09.ReplyOpen" = some 6 by kernel_rfl).symm.trans hf) |>.symm
      obtain rfl : fn = Tryd.f6 := (Option.some.inj (Tryd.func6.symm.trans hfn)).symm
      exact ⟨by kernel_rfl, fun j t ht => by
        rw [Tryd.params6] at ht
        have hm : t ∈ [3, 3, 9] := by simpa using Array.mem_of_getElem? ht
        have hall : ([3, 3, 9].all fun u => !Tryd.prog.wantsStandIn u) = true := by kernel_rfl
        exact (show Tryd.prog.wantsStandIn t = false by simpa using List.all_eq_true.1 hall t hm)⟩)
    (by kernel_rfl)
#print axioms proved
end Go.Proofs.YtbojjbnmjhblfaaDoor.replyOpen
