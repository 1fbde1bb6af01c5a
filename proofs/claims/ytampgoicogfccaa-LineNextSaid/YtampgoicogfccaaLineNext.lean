/- Proved: for all bytes, every text, every number, both ways, the law LineNext of layer 6 answers true. Conditions: none beyond the row's own (the library's variables start as the program's text lays them: the card ties them). -/
import Derived.Test.YtampgoicogfccaaLineAwake
import Derived.SizedLaws

namespace Go.Proofs.Ytampgoicogfccaa.lineNext
open Go.Proofs.Ytampgoicogfccaa Go.Proofs.Ytampgoicogfccaa.Ln Go.Proofs.Ytampgoicogfccaa
open Go.ChangeShapes Go.WideShapes Go.ChangeAt Go.RowKit Go.Sort Go.ChangeMaps

set_option linter.unusedVariables false in
set_option maxHeartbeats 2000000 in
set_option maxRecDepth 100000 in
theorem walk (u0 : Value) (s0 : List UInt8) (s1 : List UInt8) (z1 : s1.length ≤ 140737488351232) (n2 : Int) (l2 : -9223372036854775808 ≤ n2) (h2 : n2 ≤ 9223372036854775807) (b3 : Bool) (w : World) (y0 : BytesIs w u0 s0) (E : Env w) :
    Calls Try.prog 6 #[u0, .string ⟨s1.toArray⟩, .int .i64 n2, .bool b3] w fun e w' => e = .returned (.bool true) ∧ Below w.heap.size w w' := by
  have P := Lib.hid (fun W => print_any s1 n2 z1 W)
  unfold PrintPost at P
  cases hp : prn s1 n2 with
  | false =>
    rw [hp] at P
    obtain ⟨pb, cb, rfl⟩ := y0.form
    clear y0
    go_enter Try.func6, Try.ntmps6
    go_wp2_with (first
      | (go_at_call 9; refine (awake_any _).mono ?_; rintro e w1 ⟨rfl, b1⟩)
      | (go_at_call 14; refine (P.out _).mono ?_; rintro e w2 ⟨x2, rfl, hx2, b2⟩; obtain ⟨p2, c2, rfl⟩ := hx2.form; have B2 := Lib.hid (below_then b1 b2); clear b1 b2 P hx2))
    all_goals (go_ret; exact ⟨by first | rfl | simp, B2.out⟩)
  | true =>
    rw [hp, if_pos rfl] at P
    have hok : ((s1.length : Int) ≤ n2 ∧ (10 : UInt8) ∉ s1 ∧ (13 : UInt8) ∉ s1) := of_decide_eq_true hp
    by_cases hlen : 300 < s0.length
    · obtain ⟨pb, cb, rfl⟩ := y0.form
      have hl' : (300 : Int) < (s0.length : Int) := by omega
      clear y0
      go_enter Try.func6, Try.ntmps6
      go_wp2_with (first
        | (go_at_call 9; refine (awake_any _).mono ?_; rintro e w1 ⟨rfl, b1⟩)
        | (go_at_call 14; refine (P.out _).mono ?_; rintro e w2 ⟨x2, rfl, hx2, b2⟩; obtain ⟨p2, c2, rfl⟩ := hx2.form; have B2 := Lib.hid (below_then b1 b2); clear b1 b2 P hx2))
      all_goals (go_ret; exact ⟨by first | rfl | simp, B2.out⟩)
    by_cases hlen2 : 300 < s1.length
    · obtain ⟨pb, cb, rfl⟩ := y0.form
      have hl' : (300 : Int) < (s1.length : Int) := by omega
      clear y0
      go_enter Try.func6, Try.ntmps6
      go_wp2_with (first
        | (go_at_call 9; refine (awake_any _).mono ?_; rintro e w1 ⟨rfl, b1⟩)
        | (go_at_call 14; refine (P.out _).mono ?_; rintro e w2 ⟨x2, rfl, hx2, b2⟩; obtain ⟨p2, c2, rfl⟩ := hx2.form; have B2 := Lib.hid (below_then b1 b2); clear b1 b2 P hx2))
      all_goals (go_ret; exact ⟨by first | rfl | simp, B2.out⟩)
    have hl0 : ¬ (300 : Int) < (s0.length : Int) := by omega
    have hl1 : ¬ (300 : Int) < (s1.length : Int) := by omega
    obtain ⟨ls, x, hrun⟩ := run_behind n2 b3 none0 s0
    have hpr := run_print b3 hok.2.1 hok.2.2 hok.1
    have Y0 := Lib.hid y0
    obtain ⟨pb, cb, rfl⟩ := y0.form
    clear y0 hok hp
    have S1 : Hid (∀ W (u : Value), BytesIs W u (s0 ++ [13, 10]) → Calls Try.prog 10 #[.agg #[.slice none 0 0, .bool false, .bool false], u, .int .i64 n2, .bool b3] W fun e w' =>
        ∃ x' y, e = .returned (.tuple #[.agg #[x', .bool false, .bool false], y]) ∧ BytesIs w' x' [] ∧ LinesIs w' y (ls ++ [x]) ∧ Below W.heap.size W w') := Lib.hid (fun W u h => by
      have := feed_any none0 (.slice none 0 0) u (s0 ++ [13, 10]) n2 b3 (by decide) (by simp; omega) W (.nil W) h
      unfold FeedPost at this
      rw [hrun] at this
      exact this)
    have S2 : Hid (∀ W (v u : Value), BytesIs W v [] → BytesIs W u (s1 ++ [13, 10]) → Calls Try.prog 10 #[.agg #[v, .bool false, .bool false], u, .int .i64 n2, .bool b3] W fun e w' =>
        ∃ x' y, e = .returned (.tuple #[.agg #[x', .bool false, .bool false], y]) ∧ BytesIs w' x' [] ∧ LinesIs w' y [(s1, false)] ∧ Below W.heap.size W w') := Lib.hid (fun W v u hv h => by
      have := feed_any none0 v u (s1 ++ [13, 10]) n2 b3 (by decide) (by simp; omega) W hv h
      unfold FeedPost at this
      rw [hpr] at this
      exact this)
    have S3 : Hid (∀ W (v u : Value), BytesIs W v [] → BytesIs W u [] → Calls Try.prog 16 #[.agg #[v, .bool false, .bool false], .agg #[u, .bool false, .bool false]] W fun e w' => e = .returned (.bool true) ∧ Below W.heap.size W w') := Lib.hid (fun W v u hv h => same_any ⟨[], false, false⟩ ⟨[], false, false⟩ v u W hv h)
    clear hrun hpr
    go_enter Try.func6, Try.ntmps6
    go_wp2_with (first
      | (go_at_call 9; refine (awake_any _).mono ?_; rintro e w1 ⟨rfl, b1⟩; have B1 := Lib.hid b1; have Y1 := Lib.hid (Y0.out.call b1); clear b1 Y0)
      | (go_at_call 14; refine (P.out _).mono ?_; rintro e w2 ⟨x2, rfl, hx2, b2⟩; obtain ⟨p2, c2, rfl⟩ := hx2.form; have B2 := Lib.hid (below_then B1.out b2); have Y2 := Lib.hid (Y1.out.call b2); have X2 : Hid (BytesIs w2 (.slice p2 (s1.length + 2) c2) (s1 ++ [13, 10])) := Lib.hid (by have h := hx2; rw [List.length_append] at h; exact h); clear b2 P hx2 Y1)
      | (at_builtin; refine wpList_append_bytes rfl _ _ rfl w2.heap.size (.slice none 0 0) [] rfl (World.ownsRow_nil _ _ _ _) _ s0 rfl Y2.out ?c1 ?c2 ?_))
    case c1 => first | omega | (simp; omega)
    try (case c2 => exact Nat.le_refl _)
    intro v3 w3 hown hg
    have b3' : Below w2.heap.size w2 w3 := (Below.refl _ _).grown hg (Nat.le_refl _) (fun k hk => by cases hk)
    have hown3 : w3.ownsRow w2.heap.size 5 1 v3 s0.length (s0.map byteV) := hown
    clear hown hg
    go_wp2_with (at_builtin; refine wpList_append_bytes rfl _ _ rfl w2.heap.size _ s0 rfl (hown3.alloc _) _ [13, 10] rfl (bytes_new w3 [13, 10] (by decide)) ?d1 ?d2 ?_)
    case d1 => first | omega | (simp; omega)
    try (case d2 => have := b3'.size; first | omega | (simp; omega))
    intro v4 w4 hown hg
    have b4 : Below w2.heap.size w2 w4 := (b3'.alloc b3'.size _).grown hg (by have := b3'.size; simp; omega) (own_ge hown3)
    have HX := Lib.hid (bytes_of_own (l := s0 ++ [13, 10]) (by simpa using hown))
    have X4 := Lib.hid (X2.out.call b4)
    have B4 := Lib.hid (below_then B2.out b4)
    clear hown hg b3' hown3 b4 B1 B2 Y2 X2
    have hpos : (0 : Int) < ((ls ++ [x]).length : Int) := by simp <;> omega
    have eqs : ∀ W, (Op.equalIn 10000 37 (.agg #[.string ⟨s1.toArray⟩, .bool false]) (.agg #[.string ⟨s1.toArray⟩, .bool false])).run Try.prog W = .ok true W := fun W => by have := equal_lines s1 s1 false false W; rw [this]; simp
    go_wp2_with (first
      | (go_at_call 10; refine (S1.out _ _ HX.out).mono ?_; rintro e w5 ⟨x5, y5, rfl, hx5, hy5, b5⟩; obtain ⟨p5, c5, rfl⟩ := hx5.form; obtain ⟨q5, d5, rfl⟩ := hy5.form; have B5 := Lib.hid (below_then B4.out b5); have R5 := Lib.hid (IsRow.made w5 24 #[.slice p5 0 c5, .bool false, .bool false]); have X5 := Lib.hid (hx5.alloc (.cells #[.slice p5 0 c5, .bool false, .bool false] 24)); have Z5 := Lib.hid ((X4.out.call b5).alloc (.cells #[.slice p5 0 c5, .bool false, .bool false] 24)); clear b5 S1 hx5 hy5 HX X4 B4)
      | (go_at_call 10; refine (S2.out _ _ _ X5.out Z5.out).mono ?_; rintro e w6 ⟨x6, y6, rfl, hx6, hy6, b6⟩; obtain ⟨p6, c6, rfl⟩ := hx6.form; obtain ⟨q6, d6, rfl⟩ := hy6.form; have B6 := Lib.hid (below_new B5.out b6); have R6 := R5.out.call b6; have klt := R6.lt; have k0 : w6.cell? ⟨w5.heap.size, 0, none⟩ = some (.slice p5 0 c5) := R6.cell 0; have k1 : w6.cell? ⟨w5.heap.size, 1, none⟩ = some (.bool false) := R6.cell 1; have k2 : w6.cell? ⟨w5.heap.size, 2, none⟩ = some (.bool false) := R6.cell 2; have X6 := Lib.hid (X5.out.call b6); have V6 := Lib.hid hx6; have Y6 := Lib.hid hy6; clear b6 S2 hx6 hy6 X5 Z5 R5 B5 R6)
      | (go_at_call 16; refine (S3.out _ _ _ (X6.out.alloc _) (.nil _)).mono ?_; rintro e w7 ⟨rfl, b7⟩; have B7 := Lib.hid (below_new B6.out b7); have R7 := (IsRow.made w6 24 #[.slice p6 0 c6, .bool false, .bool false]).call b7; have m0 : w7.cell? ⟨w6.heap.size, 0, none⟩ = some (.slice p6 0 c6) := R7.cell 0; have m1 : w7.cell? ⟨w6.heap.size, 1, none⟩ = some (.bool false) := R7.cell 1; have m2 : w7.cell? ⟨w6.heap.size, 2, none⟩ = some (.bool false) := R7.cell 2; have V7 := Lib.hid ((V6.out.alloc _).call b7); have bq : Below w6.heap.size w6 w7 := below_new (Below.refl _ _) b7; have Y7 := Lib.hid (Y6.out.call bq); clear b7 bq X6 V6 Y6 R7 B6)
      | (go_at_call 16; refine (S3.out _ _ _ V7.out (.nil _)).mono ?_; rintro e w8 ⟨rfl, b8⟩; have B8 := Lib.hid (below_then B7.out b8); obtain ⟨bl, ol, rfl, _, hcl⟩ := lines_some (Y7.out.call b8) (by simp); have u0 : w8.cell? ⟨bl, ol, none⟩ = some (.string ⟨s1.toArray⟩) := (hcl 0 (by simp)).1; have u1 : w8.cell? ⟨bl, ol + 1, none⟩ = some (.bool false) := (hcl 0 (by simp)).2; clear b8 V7 Y7 B7 hcl))
    all_goals (go_ret; exact ⟨by first | rfl | simp, B8.out⟩)

set_option maxRecDepth 100000 in
theorem lifted (os : Os) (started : os.Started) (H : Type) (enc : TypeId × Value → H) :
    ReturnsInHanded {} Try.checked os 6 .any (Rows.lineNextSpec.pre6 enc Try.prog Try.f6 Rows.lineNextRow.domain false) (Rows.lineNextSpec.post enc Try.prog Try.f6 false true false false) := by
  refine returnsInHanded_of_change_sized (C := Try.checked) ownKnobs started (by kernel_rfl) Try.func6
    (ChangeSpec.witness6 (enc := enc) (C := Try.checked) false ⟨#[], #[.slice none 0 0, .string ⟨#[]⟩, .int .i64 0, .bool false], []⟩ 8 (by kernel_rfl) (by kernel_rfl) (by kernel_rfl) (by kernel_rfl)) ?_
  intro W base args ds gs before hval0 hW _ hsz _
  have E : Env W := trivial
  have hval : ∀ (j : Nat) t v, Try.f6.params[j]? = some t → args[j]? = some v → Value.okWide Try.prog W .any base t v := hval0
  have hW' := hW
  obtain ⟨p, q, hA0, hV, rfl, _, _⟩ := hW
  have hA : DataW.TrodAll enc Try.prog W 0 (fun _ => true) true Try.f6.params.toList args.toList ds p := hA0
  rw [Try.params6] at hA hval hsz
  obtain ⟨v0, vs0, d0, ds0, p0, q0, hargs, rfl, rfl, r0, t0⟩ := trodAll_cons hA
  obtain ⟨v1, vs1, d1, ds1, p1, q1, rfl, rfl, rfl, r1, t1⟩ := trodAll_cons t0
  obtain ⟨v2, vs2, d2, ds2, p2, q2, rfl, rfl, rfl, r2, t2⟩ := trodAll_cons t1
  obtain ⟨v3, vs3, d3, ds3, p3, q3, rfl, rfl, rfl, r3, t3⟩ := trodAll_cons t2
  obtain ⟨rfl, rfl, rfl⟩ := trodAll_nil t3
  obtain rfl : args = #[v0, v1, v2, v3] := by cases args; simp_all
  obtain ⟨rfl, rfl⟩ := trodVars_none hV
  obtain ⟨s0, y0, k0⟩ := open_bytes (hval 0 22 v0 rfl rfl) r0
  obtain ⟨x1, rfl, rfl, rfl, w1⟩ := open_string Try.underlying9 (hval 1 9 v1 rfl rfl) r1
  obtain ⟨s1, rfl⟩ : ∃ l : List UInt8, x1 = ⟨l.toArray⟩ := ⟨x1.data.toList, by simp⟩
  obtain ⟨n2, rfl, rfl, rfl, w2⟩ := open_int Try.underlying3 (hval 2 3 v2 rfl rfl) r2
  obtain ⟨b3, rfl, rfl, rfl⟩ := open_bool Try.underlying4 (hval 3 4 v3 rfl rfl) r3
  clear hA0 hval0
  simp only [List.append_nil] at hW'
  refine (walk v0 s0 s1 (by have hs := sized_string hsz (j := 1) (t := 9) rfl rfl; have e := reachBytes_lt; simp at hs; unfold reachBytes at hs; omega) n2 (int_wf w2).1 (int_wf w2).2 b3 W y0 E).mono fun e W' ⟨he, hb⟩ => ?_
  subst he
  obtain ⟨pa0, z0⟩ := k0 W' hb
  exact ⟨_, rfl, told hW' (fun _ _ _ => trodAll_cons_mk (shut_bool Try.underlying4 _) trodAll_mk0) (trodAll_cons_mk (z0) (trodAll_cons_mk (shut_string Try.underlying9 w1) (trodAll_cons_mk (shut_int Try.underlying3 w2) (trodAll_cons_mk (shut_bool Try.underlying4 b3) trodAll_mk0)))) (fun _ => rfl) hb⟩

theorem over : Rows.lineNextRow.holds Try.pinned (OpenSpec.ofChange Rows.lineNextSpec) :=
  OpenClaim.holds_of_wide 6 Try.f6 rfl rfl rfl rfl rfl rfl rfl ⟨rfl, rfl, rfl, rfl, rfl⟩ rfl rfl rfl rfl rfl (by kernel_rfl) Try.func6 (by kernel_rfl)
    (of_decide_eq_true (by kernel_rfl)) (by unfold Func.isWrapper; first | (rw [if_pos (by decide +kernel)]; kernel_rfl) | (rw [if_neg (by decide +kernel)]; exact ⟨rfl, rfl⟩))
    (fun os started H enc _ => lifted os started H enc)

theorem proved : Rows.LineNextSaid :=
  over
#print axioms proved
end Go.Proofs.Ytampgoicogfccaa.lineNext
