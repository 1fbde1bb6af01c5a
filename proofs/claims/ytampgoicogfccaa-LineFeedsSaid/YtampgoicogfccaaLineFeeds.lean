/- Proved: for what has come of a line, all bytes, every number, both ways and every text the law LineFeeds of layer 6 answers true. Conditions: none beyond the row's own (the library's variables start as the program's text lays them: the card ties them). -/
import Derived.Test.YtampgoicogfccaaLineAwake
import Derived.Test.YtampgoicogfccaaLineSame
import Derived.Test.YtampgoicogfccaaLineFeed
import Derived.Test.YtampgoicogfccaaLinePrint
import Derived.SizedLaws

namespace Go.Proofs.Ytampgoicogfccaa.lineFeeds
open Go.Proofs.Ytampgoicogfccaa Go.Proofs.Ytampgoicogfccaa.Ln Go.Proofs.Ytampgoicogfccaa
open Go.ChangeShapes Go.WideShapes Go.ChangeAt Go.RowKit Go.Sort Go.ChangeMaps

set_option linter.unusedVariables false in
set_option maxHeartbeats 2000000 in
set_option maxRecDepth 100000 in
theorem walk (u0 : Value) (cr0 sk0 : Bool) (s0 : List UInt8) (u1 : Value) (s1 : List UInt8) (n2 : Int) (l2 : -9223372036854775808 ≤ n2) (h2 : n2 ≤ 9223372036854775807) (b3 : Bool) (s4 : List UInt8) (z4 : s4.length ≤ 140737488351232) (w : World) (y0 : BytesIs w u0 s0) (y1 : BytesIs w u1 s1) (E : Env w) :
    Calls Try.prog 3 #[framerV u0 cr0 sk0, u1, .int .i64 n2, .bool b3, .string ⟨s4.toArray⟩] w fun e w' => e = .returned (.bool true) ∧ Below w.heap.size w w' := by
  obtain ⟨p0, c0, rfl⟩ := y0.form
  obtain ⟨p1, c1, rfl⟩ := y1.form
  replace y0 := Lib.hid y0
  replace y1 := Lib.hid y1
  by_cases hlen1 : 500 < s1.length
  · have hl' : (500 : Int) < (s1.length : Int) := by omega
    go_enter Try.func3, Try.ntmps3
    go_wp2_with (go_at_call 9; refine (awake_any _).mono ?_; rintro e w1 ⟨rfl, b1⟩; have R1 := (IsRow.made w 24 #[.slice p0 s0.length c0, .bool cr0, .bool sk0]).call b1; have k0 : w1.cell? ⟨w.heap.size, 0, none⟩ = some (.slice p0 s0.length c0) := R1.cell 0; have k1 : w1.cell? ⟨w.heap.size, 1, none⟩ = some (.bool cr0) := R1.cell 1; have k2 : w1.cell? ⟨w.heap.size, 2, none⟩ = some (.bool sk0) := R1.cell 2; have B1 := Lib.hid (below_new (Below.refl _ _) b1); have H1 := Lib.hid R1; have Y0 := Lib.hid ((y0.out.alloc (.cells #[.slice p0 s0.length c0, .bool cr0, .bool sk0] 24)).call b1); have Y1 := Lib.hid ((y1.out.alloc (.cells #[.slice p0 s0.length c0, .bool cr0, .bool sk0] 24)).call b1); clear b1 R1)
    all_goals (go_ret; exact ⟨by first | rfl | simp, B1.out⟩)
  by_cases hlen0 : 500 < s0.length
  · have hl' : (500 : Int) < (s0.length : Int) := by omega
    go_enter Try.func3, Try.ntmps3
    go_wp2_with (go_at_call 9; refine (awake_any _).mono ?_; rintro e w1 ⟨rfl, b1⟩; have R1 := (IsRow.made w 24 #[.slice p0 s0.length c0, .bool cr0, .bool sk0]).call b1; have k0 : w1.cell? ⟨w.heap.size, 0, none⟩ = some (.slice p0 s0.length c0) := R1.cell 0; have k1 : w1.cell? ⟨w.heap.size, 1, none⟩ = some (.bool cr0) := R1.cell 1; have k2 : w1.cell? ⟨w.heap.size, 2, none⟩ = some (.bool sk0) := R1.cell 2; have B1 := Lib.hid (below_new (Below.refl _ _) b1); have H1 := Lib.hid R1; have Y0 := Lib.hid ((y0.out.alloc (.cells #[.slice p0 s0.length c0, .bool cr0, .bool sk0] 24)).call b1); have Y1 := Lib.hid ((y1.out.alloc (.cells #[.slice p0 s0.length c0, .bool cr0, .bool sk0] 24)).call b1); clear b1 R1)
    all_goals (go_ret; exact ⟨by first | rfl | simp, B1.out⟩)
  by_cases hlen4 : 500 < s4.length
  · have hl' : (500 : Int) < (s4.length : Int) := by omega
    go_enter Try.func3, Try.ntmps3
    go_wp2_with (go_at_call 9; refine (awake_any _).mono ?_; rintro e w1 ⟨rfl, b1⟩; have R1 := (IsRow.made w 24 #[.slice p0 s0.length c0, .bool cr0, .bool sk0]).call b1; have k0 : w1.cell? ⟨w.heap.size, 0, none⟩ = some (.slice p0 s0.length c0) := R1.cell 0; have k1 : w1.cell? ⟨w.heap.size, 1, none⟩ = some (.bool cr0) := R1.cell 1; have k2 : w1.cell? ⟨w.heap.size, 2, none⟩ = some (.bool sk0) := R1.cell 2; have B1 := Lib.hid (below_new (Below.refl _ _) b1); have H1 := Lib.hid R1; have Y0 := Lib.hid ((y0.out.alloc (.cells #[.slice p0 s0.length c0, .bool cr0, .bool sk0] 24)).call b1); have Y1 := Lib.hid ((y1.out.alloc (.cells #[.slice p0 s0.length c0, .bool cr0, .bool sk0] 24)).call b1); clear b1 R1)
    all_goals (go_ret; exact ⟨by first | rfl | simp, B1.out⟩)
  have hl1 : ¬ (500 : Int) < (s1.length : Int) := by omega
  have hl0 : ¬ (500 : Int) < (s0.length : Int) := by omega
  have hl4 : ¬ (500 : Int) < (s4.length : Int) := by omega
  have S1 := Lib.hid (fun W h h' => feed_any ⟨s0, cr0, sk0⟩ (.slice p0 s0.length c0) (.slice p1 s1.length c1) s1 n2 b3 (by simp only; omega) (by omega) W h h')
  have S2 := Lib.hid (fun W h h' => rfeed_any ⟨s0, cr0, sk0⟩ (.slice p0 s0.length c0) (.slice p1 s1.length c1) s1 n2 b3 (by simp only; omega) (by omega) W h h')
  unfold FeedPost at S1 S2
  have L := run_length n2 b3 ⟨s0, cr0, sk0⟩ s1
  simp only at L
  generalize run n2 b3 ⟨s0, cr0, sk0⟩ s1 = G at S1 S2 L
  obtain ⟨⟨gb, gcr, gsk⟩, gl⟩ := G
  simp only at S1 S2 L
  have hgl : gl.length ≤ 1000000 := by omega
  have P1 := Lib.hid (fun W => print_any s4 n2 (by omega) W)
  have P2 := Lib.hid (fun W => rprint_any s4 n2 (by omega) W)
  unfold PrintPost at P1 P2
  generalize (if prn s4 n2 = true then s4 ++ [13, 10] else []) = pl at P1 P2
  generalize prn s4 n2 = pv at P1 P2
  have T1 : Hid (∀ W u v, BytesIs W u gb → BytesIs W v gb → Calls Try.prog 12 #[framerV u gcr gsk, framerV v gcr gsk] W fun e w' => e = .returned (.bool true) ∧ Below W.heap.size W w') := Lib.hid (fun W u v hu hv => by
    have h := rsame_any ⟨gb, gcr, gsk⟩ ⟨gb, gcr, gsk⟩ u v W hu hv
    rw [decide_eq_true rfl] at h
    exact h)
  have T2 : Hid (∀ W u v, LinesIs W u gl → LinesIs W v gl → Calls Try.prog 13 #[u, v] W fun e w' => e = .returned (.bool true) ∧ Below W.heap.size W w') := Lib.hid (fun W u v hu hv => by
    have h := rlines_any gl gl u v hgl hgl W hu hv
    rw [decide_eq_true rfl] at h
    exact h)
  have T3 := Lib.hid (fun W u v h h' => rsame_any ⟨s0, cr0, sk0⟩ ⟨gb, gcr, gsk⟩ u v W h h')
  have T4 := Lib.hid (fun W u v h h' => same_any ⟨s0, cr0, sk0⟩ ⟨gb, gcr, gsk⟩ u v W h h')
  generalize decide ((⟨s0, cr0, sk0⟩ : Fr) = ⟨gb, gcr, gsk⟩) = da at T3 T4
  have e1 : (da == da) = true := by simp
  have e2 : (pv == pv) = true := by simp
  have e3 : (pl == pl) = true := by simp
  have e4 : (s0 == s0) = true := by simp
  clear L hlen1 hlen0 hlen4 hgl
  simp only [framerV] at S1 S2 T1 T3 T4
  go_enter Try.func3, Try.ntmps3
  go_wp2_with (first
    | (go_at_call 9; refine (awake_any _).mono ?_; rintro e w1 ⟨rfl, b1⟩; have R1 := (IsRow.made w 24 #[.slice p0 s0.length c0, .bool cr0, .bool sk0]).call b1; have k0 : w1.cell? ⟨w.heap.size, 0, none⟩ = some (.slice p0 s0.length c0) := R1.cell 0; have k1 : w1.cell? ⟨w.heap.size, 1, none⟩ = some (.bool cr0) := R1.cell 1; have k2 : w1.cell? ⟨w.heap.size, 2, none⟩ = some (.bool sk0) := R1.cell 2; have B1 := Lib.hid (below_new (Below.refl _ _) b1); have H1 := Lib.hid R1; have Y0 := Lib.hid ((y0.out.alloc (.cells #[.slice p0 s0.length c0, .bool cr0, .bool sk0] 24)).call b1); have Y1 := Lib.hid ((y1.out.alloc (.cells #[.slice p0 s0.length c0, .bool cr0, .bool sk0] 24)).call b1); have hq := str_of_bytes Y0.out; clear b1 R1)
    | (go_at_call 10; refine (S1.out _ Y0.out Y1.out).mono ?_; rintro e w2 ⟨x2, y2, rfl, hx2, hy2, b2⟩; obtain ⟨p2, c2, rfl⟩ := hx2.form; obtain ⟨q2, d2, rfl⟩ := hy2.form; have R := H1.out.call b2; have klt := R.lt; have l0 : w2.cell? ⟨w.heap.size, 0, none⟩ = some (.slice p0 s0.length c0) := R.cell 0; have l1 : w2.cell? ⟨w.heap.size, 1, none⟩ = some (.bool cr0) := R.cell 1; have l2 : w2.cell? ⟨w.heap.size, 2, none⟩ = some (.bool sk0) := R.cell 2; have H2 := Lib.hid (R.alloc (.cells #[.slice p2 gb.length c2, .bool gcr, .bool gsk] 24)); have Q2 := Lib.hid (IsRow.made w2 24 #[.slice p2 gb.length c2, .bool gcr, .bool gsk]); have B2 := Lib.hid (below_then B1.out b2); have X2 := Lib.hid (hx2.alloc (.cells #[.slice p2 gb.length c2, .bool gcr, .bool gsk] 24)); have L2 := Lib.hid (hy2.call (Below.refl w2.heap.size w2 |>.alloc (Nat.le_refl _) (.cells #[.slice p2 gb.length c2, .bool gcr, .bool gsk] 24))); have A0 := Lib.hid ((Y0.out.call b2).alloc (.cells #[.slice p2 gb.length c2, .bool gcr, .bool gsk] 24)); have A1 := Lib.hid ((Y1.out.call b2).alloc (.cells #[.slice p2 gb.length c2, .bool gcr, .bool gsk] 24)); clear b2 R hx2 hy2 k0 k1 k2 hq S1 B1 H1 Y0 Y1)
    | (go_at_call 11; refine (S2.out _ A0.out A1.out).mono ?_; rintro e w3 ⟨x3, y3, rfl, hx3, hy3, b3⟩; obtain ⟨p3, c3, rfl⟩ := hx3.form; obtain ⟨q3, d3, rfl⟩ := hy3.form; have R := Q2.out.call b3; have klt3 := R.lt; have m0 : w3.cell? ⟨w2.heap.size, 0, none⟩ = some (.slice p2 gb.length c2) := R.cell 0; have m1 : w3.cell? ⟨w2.heap.size, 1, none⟩ = some (.bool gcr) := R.cell 1; have m2 : w3.cell? ⟨w2.heap.size, 2, none⟩ = some (.bool gsk) := R.cell 2; have H3 := Lib.hid ((H2.out.call b3).alloc (.cells #[.slice p3 gb.length c3, .bool gcr, .bool gsk] 24)); have Q3 := Lib.hid (R.alloc (.cells #[.slice p3 gb.length c3, .bool gcr, .bool gsk] 24)); have B3 := Lib.hid (below_new B2.out b3); have X3 := Lib.hid ((X2.out.call b3).alloc (.cells #[.slice p3 gb.length c3, .bool gcr, .bool gsk] 24)); have Z3 := Lib.hid (hx3.alloc (.cells #[.slice p3 gb.length c3, .bool gcr, .bool gsk] 24)); have L3 := Lib.hid ((L2.out.call b3).call (Below.refl w3.heap.size w3 |>.alloc (Nat.le_refl _) (.cells #[.slice p3 gb.length c3, .bool gcr, .bool gsk] 24))); have M3 := Lib.hid (hy3.call (Below.refl w3.heap.size w3 |>.alloc (Nat.le_refl _) (.cells #[.slice p3 gb.length c3, .bool gcr, .bool gsk] 24))); have A3 := Lib.hid ((A0.out.call b3).alloc (.cells #[.slice p3 gb.length c3, .bool gcr, .bool gsk] 24)); clear b3 R hx3 hy3 l0 l1 l2 klt S2 B2 H2 Q2 X2 L2 A0 A1)
    | (go_at_call 12; refine (T1.out _ _ _ X3.out Z3.out).mono ?_; rintro e w4 ⟨rfl, b4⟩; have B4 := Lib.hid (below_new B3.out b4); have H4 := Lib.hid (H3.out.call b4); have Q4 := Lib.hid (Q3.out.call b4); have X4 := Lib.hid (X3.out.call b4); have L4 := Lib.hid (L3.out.call b4); have M4 := Lib.hid (M3.out.call b4); have A4 := Lib.hid (A3.out.call b4); clear b4 T1 B3 H3 Q3 X3 Z3 L3 M3 A3 m0 m1 m2 klt3)
    | (go_at_call 13; refine (T2.out _ _ _ L4.out M4.out).mono ?_; rintro e w5 ⟨rfl, b5⟩; have B5 := Lib.hid (below_then B4.out b5); have H5 := Lib.hid (H4.out.call b5); have Q5 := Lib.hid (Q4.out.call b5); have X5 := Lib.hid (X4.out.call b5); have A5 := Lib.hid (A4.out.call b5); clear b5 T2 B4 H4 Q4 X4 L4 M4 A4)
    | (go_at_call 14; refine (P1.out _).mono ?_; rintro e w6 ⟨x6, rfl, hx6, b6⟩; obtain ⟨p6, c6, rfl⟩ := hx6.form; have B6 := Lib.hid (below_then B5.out b6); have H6 := Lib.hid (H5.out.call b6); have Q6 := Lib.hid (Q5.out.call b6); have X6 := Lib.hid (X5.out.call b6); have A6 := Lib.hid (A5.out.call b6); have V6 := Lib.hid hx6; clear b6 P1 B5 H5 Q5 X5 A5 hx6)
    | (go_at_call 15; refine (P2.out _).mono ?_; rintro e w7 ⟨x7, rfl, hx7, b7⟩; obtain ⟨p7, c7, rfl⟩ := hx7.form; have B7 := Lib.hid (below_then B6.out b7); have R := H6.out.call b7; have i0 : w7.cell? ⟨w.heap.size, 0, none⟩ = some (.slice p0 s0.length c0) := R.cell 0; have i1 : w7.cell? ⟨w.heap.size, 1, none⟩ = some (.bool cr0) := R.cell 1; have i2 : w7.cell? ⟨w.heap.size, 2, none⟩ = some (.bool sk0) := R.cell 2; have R' := Q6.out.call b7; have j0 : w7.cell? ⟨w2.heap.size, 0, none⟩ = some (.slice p2 gb.length c2) := R'.cell 0; have j1 : w7.cell? ⟨w2.heap.size, 1, none⟩ = some (.bool gcr) := R'.cell 1; have j2 : w7.cell? ⟨w2.heap.size, 2, none⟩ = some (.bool gsk) := R'.cell 2; have H7 := Lib.hid R; have Q7 := Lib.hid R'; have X7 := Lib.hid (X6.out.call b7); have A7 := Lib.hid (A6.out.call b7); have V7 := Lib.hid (V6.out.call b7); have U7 := Lib.hid hx7; clear b7 R R' P2 B6 H6 Q6 X6 A6 V6 hx7)
    | (go_at_call 12; refine (T3.out _ _ _ A7.out X7.out).mono ?_; rintro e w8 ⟨rfl, b8⟩; have B8 := Lib.hid (below_then B7.out b8); have R := H7.out.call b8; have g0 : w8.cell? ⟨w.heap.size, 0, none⟩ = some (.slice p0 s0.length c0) := R.cell 0; have g1 : w8.cell? ⟨w.heap.size, 1, none⟩ = some (.bool cr0) := R.cell 1; have g2 : w8.cell? ⟨w.heap.size, 2, none⟩ = some (.bool sk0) := R.cell 2; have R' := Q7.out.call b8; have h0 : w8.cell? ⟨w2.heap.size, 0, none⟩ = some (.slice p2 gb.length c2) := R'.cell 0; have h1 : w8.cell? ⟨w2.heap.size, 1, none⟩ = some (.bool gcr) := R'.cell 1; have h2 : w8.cell? ⟨w2.heap.size, 2, none⟩ = some (.bool gsk) := R'.cell 2; have H8 := Lib.hid R; have X8 := Lib.hid (X7.out.call b8); have A8 := Lib.hid (A7.out.call b8); have v8 := str_of_bytes (V7.out.call b8); have u8 := str_of_bytes (U7.out.call b8); clear b8 R R' T3 B7 H7 Q7 X7 A7 V7 U7 i0 i1 i2 j0 j1 j2)
    | (go_at_call 16; refine (T4.out _ _ _ A8.out X8.out).mono ?_; rintro e w9 ⟨rfl, b9⟩; have B9 := Lib.hid (below_then B8.out b9); have R := H8.out.call b9; have z0 : w9.cell? ⟨w.heap.size, 0, none⟩ = some (.slice p0 s0.length c0) := R.cell 0; have z1 : w9.cell? ⟨w.heap.size, 1, none⟩ = some (.bool cr0) := R.cell 1; have z2 : w9.cell? ⟨w.heap.size, 2, none⟩ = some (.bool sk0) := R.cell 2; have a9 := str_of_bytes (A8.out.call b9); clear b9 R T4 B8 H8 X8 A8 g0 g1 g2 h0 h1 h2 v8 u8))
  all_goals (go_ret; exact ⟨by first | rfl | simp, B9.out⟩)

set_option maxRecDepth 100000 in
theorem lifted (os : Os) (started : os.Started) (H : Type) (enc : TypeId × Value → H) :
    ReturnsInHanded {} Try.checked os 3 .any (Rows.lineFeedsSpec.pre6 enc Try.prog Try.f3 Rows.lineFeedsRow.domain false) (Rows.lineFeedsSpec.post enc Try.prog Try.f3 false true false false) := by
  refine returnsInHanded_of_change_sized (C := Try.checked) ownKnobs started (by kernel_rfl) Try.func3
    (ChangeSpec.witness6 (enc := enc) (C := Try.checked) false ⟨#[], #[.agg #[.slice none 0 0, .bool false, .bool false], .slice none 0 0, .int .i64 0, .bool false, .string ⟨#[]⟩], []⟩ 8 (by kernel_rfl) (by kernel_rfl) (by kernel_rfl) (by kernel_rfl)) ?_
  intro W base args ds gs before hval0 hW _ hsz _
  have E : Env W := trivial
  have hval : ∀ (j : Nat) t v, Try.f3.params[j]? = some t → args[j]? = some v → Value.okWide Try.prog W .any base t v := hval0
  have hW' := hW
  obtain ⟨p, q, hA0, hV, rfl, _, _⟩ := hW
  have hA : DataW.TrodAll enc Try.prog W 0 (fun _ => true) true Try.f3.params.toList args.toList ds p := hA0
  rw [Try.params3] at hA hval hsz
  obtain ⟨v0, vs0, d0, ds0, p0, q0, hargs, rfl, rfl, r0, t0⟩ := trodAll_cons hA
  obtain ⟨v1, vs1, d1, ds1, p1, q1, rfl, rfl, rfl, r1, t1⟩ := trodAll_cons t0
  obtain ⟨v2, vs2, d2, ds2, p2, q2, rfl, rfl, rfl, r2, t2⟩ := trodAll_cons t1
  obtain ⟨v3, vs3, d3, ds3, p3, q3, rfl, rfl, rfl, r3, t3⟩ := trodAll_cons t2
  obtain ⟨v4, vs4, d4, ds4, p4, q4, rfl, rfl, rfl, r4, t4⟩ := trodAll_cons t3
  obtain ⟨rfl, rfl, rfl⟩ := trodAll_nil t4
  obtain rfl : args = #[v0, v1, v2, v3, v4] := by cases args; simp_all
  obtain ⟨rfl, rfl⟩ := trodVars_none hV
  obtain ⟨u0, cr0, sk0, s0, rfl, y0, k0⟩ := open_framer (hval 0 24 v0 rfl rfl) r0
  obtain ⟨s1, y1, k1⟩ := open_bytes (hval 1 22 v1 rfl rfl) r1
  obtain ⟨n2, rfl, rfl, rfl, w2⟩ := open_int Try.underlying3 (hval 2 3 v2 rfl rfl) r2
  obtain ⟨b3, rfl, rfl, rfl⟩ := open_bool Try.underlying4 (hval 3 4 v3 rfl rfl) r3
  obtain ⟨x4, rfl, rfl, rfl, w4⟩ := open_string Try.underlying9 (hval 4 9 v4 rfl rfl) r4
  obtain ⟨s4, rfl⟩ : ∃ l : List UInt8, x4 = ⟨l.toArray⟩ := ⟨x4.data.toList, by simp⟩
  clear hA0 hval0
  simp only [List.append_nil] at hW'
  refine (walk u0 cr0 sk0 s0 v1 s1 n2 (int_wf w2).1 (int_wf w2).2 b3 s4 (by have hs := sized_string hsz (j := 4) (t := 9) rfl rfl; have e := reachBytes_lt; simp at hs; unfold reachBytes at hs; omega) W y0 y1 E).mono fun e W' ⟨he, hb⟩ => ?_
  subst he
  obtain ⟨pa0, z0⟩ := k0 W' hb
  obtain ⟨pa1, z1⟩ := k1 W' hb
  exact ⟨_, rfl, told hW' (fun _ _ _ => trodAll_cons_mk (shut_bool Try.underlying4 _) trodAll_mk0) (trodAll_cons_mk (z0) (trodAll_cons_mk (z1) (trodAll_cons_mk (shut_int Try.underlying3 w2) (trodAll_cons_mk (shut_bool Try.underlying4 b3) (trodAll_cons_mk (shut_string Try.underlying9 w4) trodAll_mk0))))) (fun _ => rfl) hb⟩

theorem over : Rows.lineFeedsRow.holds Try.pinned (OpenSpec.ofChange Rows.lineFeedsSpec) :=
  OpenClaim.holds_of_wide 3 Try.f3 rfl rfl rfl rfl rfl rfl rfl ⟨rfl, rfl, rfl, rfl, rfl⟩ rfl rfl rfl rfl rfl (by kernel_rfl) Try.func3 (by kernel_rfl)
    (of_decide_eq_true (by kernel_rfl)) (by unfold Func.isWrapper; first | (rw [if_pos (by decide +kernel)]; kernel_rfl) | (rw [if_neg (by decide +kernel)]; exact ⟨rfl, rfl⟩))
    (fun os started H enc _ => lifted os started H enc)

theorem proved : Rows.LineFeedsSaid :=
  over
#print axioms proved
end Go.Proofs.Ytampgoicogfccaa.lineFeeds
