/- Proved: for every number and every byte the law LineLong of layer 6 answers true. Conditions: none beyond the row's own (the library's variables start as the program's text lays them: the card ties them). -/
import Derived.Test.YtampgoicogfccaaLineAwake
import Derived.Deep.RegionHeld

namespace Go.Proofs.Ytampgoicogfccaa.lineLong
open Go.Proofs.Ytampgoicogfccaa Go.Proofs.Ytampgoicogfccaa.Ln Go.Proofs.Ytampgoicogfccaa
open Go.ChangeShapes Go.WideShapes Go.ChangeAt Go.RowKit Go.Sort Go.ChangeMaps

set_option linter.unusedVariables false in
set_option maxHeartbeats 2000000 in
set_option maxRecDepth 100000 in
theorem walk (n0 : Int) (l0 : -9223372036854775808 ≤ n0) (h0 : n0 ≤ 9223372036854775807) (n1 : Int) (l1 : 0 ≤ n1) (h1 : n1 ≤ 255) (w : World)  (E : Env w) :
    Calls Try.prog 8 #[.int .i64 n0, .int .u8 n1] w fun e w' => e = .returned (.bool true) ∧ Below w.heap.size w w' := by
  obtain ⟨cu, rfl⟩ : ∃ cu : UInt8, n1 = (cu.toNat : Int) := ⟨UInt8.ofNat n1.toNat, by rw [UInt8.toNat_ofNat_of_lt' (by show n1.toNat < 256; omega)]; omega⟩
  by_cases hneg : n0 < 0
  · go_enter Try.func8, Try.ntmps8
    go_wp2_with (go_at_call 9; refine (awake_any _).mono ?_; rintro e w1 ⟨rfl, b1⟩)
    go_ret
    exact ⟨by first | rfl | simp, b1⟩
  by_cases hbig : 300 < n0
  · go_enter Try.func8, Try.ntmps8
    go_wp2_with (go_at_call 9; refine (awake_any _).mono ?_; rintro e w1 ⟨rfl, b1⟩)
    go_ret
    exact ⟨by first | rfl | simp, b1⟩
  by_cases h10 : cu = 10
  · subst h10
    go_enter Try.func8, Try.ntmps8
    go_wp2_with (go_at_call 9; refine (awake_any _).mono ?_; rintro e w1 ⟨rfl, b1⟩)
    go_ret
    exact ⟨by first | rfl | simp, b1⟩
  by_cases h13 : cu = 13
  · subst h13
    go_enter Try.func8, Try.ntmps8
    go_wp2_with (go_at_call 9; refine (awake_any _).mono ?_; rintro e w1 ⟨rfl, b1⟩)
    go_ret
    exact ⟨by first | rfl | simp, b1⟩
  obtain ⟨n, rfl⟩ : ∃ k : Nat, n0 = (k : Int) := ⟨n0.toNat, by omega⟩
  have q10 : ((cu.toNat : Int) == 10) = false := byte_ne h10
  have q13 : ((cu.toNat : Int) == 13) = false := byte_ne h13
  have hn : n ≤ 300 := by omega
  obtain ⟨ma, hma, hmz⟩ : ∃ ma : List UInt8 × Bool, run ((n : Int) - 1) false none0 (List.replicate n cu ++ [13, 10]) = (none0, [ma]) ∧ (n = 0 ∨ ma = ([], true)) := by
    cases n with
    | zero => exact ⟨([], false), run_empty _ _, Or.inl rfl⟩
    | succ j => exact ⟨([], true), run_over false h10 h13 (by omega), Or.inr rfl⟩
  have hla := run_long (most := (n : Int)) (c := cu) false h10 h13 (n := n) (by omega)
  have S1 : Hid (∀ W (u : Value), BytesIs W u (List.replicate n cu ++ [13, 10]) → Calls Try.prog 10 #[.agg #[.slice none 0 0, .bool false, .bool false], u, .int .i64 (n : Int), .bool false] W fun e w' =>
      ∃ x' y, e = .returned (.tuple #[.agg #[x', .bool false, .bool false], y]) ∧ BytesIs w' x' [] ∧ LinesIs w' y [(List.replicate n cu, false)] ∧ Below W.heap.size W w') := Lib.hid (fun W u h => by
    have := feed_any none0 (.slice none 0 0) u (List.replicate n cu ++ [13, 10]) n false (by decide) (by simp; omega) W (.nil W) h
    unfold FeedPost at this
    rw [hla] at this
    exact this)
  have S2 : Hid (∀ W (u : Value), BytesIs W u (List.replicate n cu ++ [13, 10]) → Calls Try.prog 10 #[.agg #[.slice none 0 0, .bool false, .bool false], u, .int .i64 ((n : Int) - 1), .bool false] W fun e w' =>
      ∃ x' y, e = .returned (.tuple #[.agg #[x', .bool false, .bool false], y]) ∧ BytesIs w' x' [] ∧ LinesIs w' y [ma] ∧ Below W.heap.size W w') := Lib.hid (fun W u h => by
    have := feed_any none0 (.slice none 0 0) u (List.replicate n cu ++ [13, 10]) ((n : Int) - 1) false (by decide) (by simp; omega) W (.nil W) h
    unfold FeedPost at this
    rw [hma] at this
    exact this)
  have HM := Lib.hid hmz
  clear hla hma hmz h10 h13
  go_enter Try.func8, Try.ntmps8
  go_wp2_with (go_at_call 9; refine (awake_any _).mono ?_; rintro e w1 ⟨rfl, b1⟩)
  have B1 := Lib.hid b1
  clear b1
  go_loopw [6, 7] (fun x6 x7 wr => ∃ (k : Nat) (x : Value), x = x6 ∧ x7 = .int .i64 (k : Int) ∧ k ≤ n ∧ wr.ownsRow w1.heap.size 5 1 x (List.replicate k cu).length ((List.replicate k cu).map byteV) ∧ Below w1.heap.size w1 wr) (fun _ i _ => n - (intOf i).toNat)
  case atStart => exact ⟨0, _, rfl, rfl, Nat.zero_le _, World.ownsRow_nil _ _ _ _, Below.refl _ _⟩
  case round =>
    obtain ⟨k, x, rfl, rfl, hk, hown, hb⟩ := hrel
    have hsz := hb.size
    by_cases hlt : k < n
    · go_wp2_with (at_builtin; refine wpList_append_bytes rfl _ _ rfl w1.heap.size _ (List.replicate k cu) rfl (hown.alloc _) _ [cu] rfl (bytes_new _ [cu] (by show 1 ≤ maxLen; decide)) ?c1 ?c2 ?_)
      case c1 => first | omega | (simp; omega)
      try (case c2 => first | omega | (simp; omega))
      intro x4 w4 hown' hg
      have hb' : Below w1.heap.size w1 w4 := (hb.alloc hb.size _).grown hg (by simp; omega) (own_ge hown)
      have hown2 : w4.ownsRow w1.heap.size 5 1 x4 (List.replicate (k + 1) cu).length ((List.replicate (k + 1) cu).map byteV) := by
        rw [List.replicate_succ']; simpa using hown'
      clear hown hg hb hown'
      go_wp2_with fail
      go_roundw
      case rel => exact ⟨k + 1, x4, rfl, by go_num, by omega, hown2, hb'⟩
      case measure => simp [intOf]; omega
    · obtain rfl : k = n := by omega
      go_wp2_with (at_builtin; refine wpList_append_bytes rfl _ _ rfl w1.heap.size _ (List.replicate k cu) rfl (hown.alloc _) _ [13, 10] rfl (bytes_new _ [13, 10] (by decide)) ?d1 ?d2 ?_)
      case d1 => first | omega | (simp; omega)
      try (case d2 => first | omega | (simp; omega))
      intro x4 w4 hown' hg
      have hb' : Below w1.heap.size w1 w4 := (hb.alloc hb.size _).grown hg (by simp; omega) (own_ge hown)
      have HX := Lib.hid (bytes_of_own (l := List.replicate k cu ++ [13, 10]) (by simpa using hown'))
      have B4 := Lib.hid (B1.out.trans (hb'.mono B1.out.size))
      clear hown hg hb hown' hb' B1
      go_wp2_with (first
        | (go_at_call 10; refine (S1.out _ _ HX.out).mono ?_; rintro e w5 ⟨x5, y5, rfl, hx5, hy5, b5⟩; obtain ⟨p5, c5, rfl⟩ := hx5.form; obtain ⟨q5, d5, rfl⟩ := hy5.form; have B5 := Lib.hid (below_then B4.out b5); have Y5 := Lib.hid (hy5); have Z5 := Lib.hid ((HX.out.call b5).alloc (.cells #[.slice p5 0 c5, .bool false, .bool false] 24)); clear b5 S1 hx5 hy5 HX B4)
        | (go_at_call 10; refine (S2.out _ _ Z5.out).mono ?_; rintro e w6 ⟨x6, y6, rfl, hx6, hy6, b6⟩; obtain ⟨p6, c6, rfl⟩ := hx6.form; obtain ⟨q6, d6, rfl⟩ := hy6.form; have B6 := Lib.hid (below_new B5.out b6); have bq : Below w5.heap.size w5 w6 := below_new (Below.refl _ _) b6; have Y6 := Lib.hid (Y5.out.call bq); have V6 := Lib.hid hy6; have Z6 := Lib.hid (Z5.out.call b6); clear b6 S2 hx6 hy6 Z5 Y5 bq B5))
      have hb7 : Below w6.heap.size w6 (w6.alloc (.cells #[.slice p6 0 c6, .bool false, .bool false] 24)) := (Below.refl _ _).alloc (Nat.le_refl _) _
      obtain ⟨bl, ol, rfl, _, hcl⟩ := lines_some (Y6.out.call hb7) (by simp)
      obtain ⟨bm, om, rfl, _, hcm⟩ := lines_some (V6.out.call hb7) (by simp)
      obtain ⟨u7, hsl, hu7⟩ := slice_h (Z6.out.call hb7) k (by simp)
      rw [List.take_left' (by simp)] at hu7
      have B7 := Lib.hid (below_then B6.out hb7)
      have l0 := (hcl 0 (by simp)).1
      have l1' := (hcl 0 (by simp)).2
      have m0 := (hcm 0 (by simp)).1
      have m1 := (hcm 0 (by simp)).2
      simp only [List.getElem_cons_zero, Nat.zero_mul, Nat.add_zero] at l0 l1' m0 m1
      obtain ⟨pu, nu, eu⟩ : ∃ pu nu, u7 = .slice pu (List.replicate k cu).length nu := hu7.form
      subst eu
      have hcv := str_of_bytes (w := (w6.alloc (.cells #[.slice p6 0 c6, .bool false, .bool false] 24)).drew) hu7
      rw [List.length_replicate] at hsl hcv
      clear hcl hcm hu7 Y6 V6 Z6 B6 hb7
      generalize World.alloc w6 _ = w7 at *
      go_region_held (fun w' => w'.cell? ⟨bl, ol, none⟩ = some (.string ⟨(List.replicate k cu).toArray⟩) ∧ w'.cell? ⟨bl, ol + 1, none⟩ = some (.bool false) ∧ (convert 22 9 (.slice pu k nu)).run Try.prog w' = .ok (.string ⟨(List.replicate k cu).toArray⟩) w') (exact ⟨l0, l1', hcv⟩) (fail)
      all_goals (rcases HM.out with hk0 | hma)
      all_goals (first
        | (subst hk0; go_wp2_with fail; go_ret; exact ⟨by first | rfl | simp, B7.out.drew⟩)
        | (subst hma
           have eqs : ∀ W, (Op.equalIn 10000 37 (.agg #[.string ⟨#[]⟩, .bool true]) (.agg #[.string ⟨#[]⟩, .bool true])).run Try.prog W = .ok true W := fun W => by have := equal_lines [] [] true true W; rw [this]; rfl
           go_wp2_with fail
           all_goals (go_ret; exact ⟨by first | rfl | simp, B7.out.drew⟩)))

set_option maxRecDepth 100000 in
theorem lifted (os : Os) (started : os.Started) (H : Type) (enc : TypeId × Value → H) :
    ReturnsInHanded {} Try.checked os 8 .any (Rows.lineLongSpec.pre6 enc Try.prog Try.f8 Rows.lineLongRow.domain false) (Rows.lineLongSpec.post enc Try.prog Try.f8 false true false false) := by
  refine returnsInHanded_of_change (C := Try.checked) ownKnobs started (by kernel_rfl) Try.func8
    (ChangeSpec.witness6 (enc := enc) (C := Try.checked) false ⟨#[], #[.int .i64 0, .int .u8 0], []⟩ 8 (by kernel_rfl) (by kernel_rfl) (by kernel_rfl) (by kernel_rfl)) ?_
  intro W base args ds gs before hval0 hW _ _
  have E : Env W := trivial
  have hval : ∀ (j : Nat) t v, Try.f8.params[j]? = some t → args[j]? = some v → Value.okWide Try.prog W .any base t v := hval0
  have hW' := hW
  obtain ⟨p, q, hA0, hV, rfl, _, _⟩ := hW
  have hA : DataW.TrodAll enc Try.prog W 0 (fun _ => true) true Try.f8.params.toList args.toList ds p := hA0
  rw [Try.params8] at hA hval
  obtain ⟨v0, vs0, d0, ds0, p0, q0, hargs, rfl, rfl, r0, t0⟩ := trodAll_cons hA
  obtain ⟨v1, vs1, d1, ds1, p1, q1, rfl, rfl, rfl, r1, t1⟩ := trodAll_cons t0
  obtain ⟨rfl, rfl, rfl⟩ := trodAll_nil t1
  obtain rfl : args = #[v0, v1] := by cases args; simp_all
  obtain ⟨rfl, rfl⟩ := trodVars_none hV
  obtain ⟨n0, rfl, rfl, rfl, w0⟩ := open_int Try.underlying3 (hval 0 3 v0 rfl rfl) r0
  obtain ⟨n1, rfl, rfl, rfl, w1⟩ := open_int Try.underlying5 (hval 1 5 v1 rfl rfl) r1
  clear hA0 hval0
  simp only [List.append_nil] at hW'
  refine (walk n0 (int_wf w0).1 (int_wf w0).2 n1 (byte_wf w1).1 (byte_wf w1).2 W  E).mono fun e W' ⟨he, hb⟩ => ?_
  subst he
  exact ⟨_, rfl, told hW' (fun _ _ _ => trodAll_cons_mk (shut_bool Try.underlying4 _) trodAll_mk0) (trodAll_cons_mk (shut_int Try.underlying3 w0) (trodAll_cons_mk (shut_int Try.underlying5 w1) trodAll_mk0)) (fun _ => rfl) hb⟩

theorem over : Rows.lineLongRow.holds Try.pinned (OpenSpec.ofChange Rows.lineLongSpec) :=
  OpenClaim.holds_of_wide 8 Try.f8 rfl rfl rfl rfl rfl rfl rfl ⟨rfl, rfl, rfl, rfl, rfl⟩ rfl rfl rfl rfl rfl (by kernel_rfl) Try.func8 (by kernel_rfl)
    (of_decide_eq_true (by kernel_rfl)) (by unfold Func.isWrapper; first | (rw [if_pos (by decide +kernel)]; kernel_rfl) | (rw [if_neg (by decide +kernel)]; exact ⟨rfl, rfl⟩))
    (fun os started H enc _ => lifted os started H enc)

theorem proved : Rows.LineLongSaid :=
  over
#print axioms proved
end Go.Proofs.Ytampgoicogfccaa.lineLong
