/- Proved: for what has come of a line, all bytes, every number, both ways and every cut the law LineParts of layer 6 answers true. Conditions: none beyond the row's own (the library's variables start as the program's text lays them: the card ties them). -/
import Derived.Test.YtampgoicogfccaaLineAwake
import Derived.Test.YtampgoicogfccaaLineSame
import Derived.Test.YtampgoicogfccaaLineBox
import Derived.Deep.RegionHeld

namespace Go.Proofs.Ytampgoicogfccaa.lineParts
open Go.Proofs.Ytampgoicogfccaa Go.Proofs.Ytampgoicogfccaa.Ln Go.Proofs.Ytampgoicogfccaa
open Go.ChangeShapes Go.WideShapes Go.ChangeAt Go.RowKit Go.Sort Go.ChangeMaps

set_option linter.unusedVariables false in
set_option maxHeartbeats 8000000 in
set_option maxRecDepth 100000 in
theorem walk (u0 : Value) (cr0 sk0 : Bool) (s0 : List UInt8) (u1 : Value) (s1 : List UInt8) (n2 : Int) (l2 : -9223372036854775808 ≤ n2) (h2 : n2 ≤ 9223372036854775807) (b3 : Bool) (n4 : Int) (l4 : -9223372036854775808 ≤ n4) (h4 : n4 ≤ 9223372036854775807) (w : World) (y0 : BytesIs w u0 s0) (y1 : BytesIs w u1 s1) (E : Env w) :
    Calls Try.prog 4 #[framerV u0 cr0 sk0, u1, .int .i64 n2, .bool b3, .int .i64 n4] w fun e w' => e = .returned (.bool true) ∧ Below w.heap.size w w' := by
  obtain ⟨p0, c0, rfl⟩ := y0.form
  obtain ⟨p1, c1, rfl⟩ := y1.form
  replace y0 := Lib.hid y0
  replace y1 := Lib.hid y1
  by_cases hlen1 : 500 < s1.length
  · have hl' : (500 : Int) < (s1.length : Int) := by omega
    go_enter Try.func4, Try.ntmps4
    go_wp2_with (go_at_call 9; refine (awake_any _).mono ?_; rintro e w1 ⟨rfl, b1⟩; have R1 := (IsRow.made w 24 #[.slice p0 s0.length c0, .bool cr0, .bool sk0]).call b1; have k0 : w1.cell? ⟨w.heap.size, 0, none⟩ = some (.slice p0 s0.length c0) := R1.cell 0; have k1 : w1.cell? ⟨w.heap.size, 1, none⟩ = some (.bool cr0) := R1.cell 1; have k2 : w1.cell? ⟨w.heap.size, 2, none⟩ = some (.bool sk0) := R1.cell 2; have B1 := Lib.hid (below_new (Below.refl _ _) b1); have H1 := Lib.hid R1; have Y0 := Lib.hid ((y0.out.alloc (.cells #[.slice p0 s0.length c0, .bool cr0, .bool sk0] 24)).call b1); have Y1 := Lib.hid ((y1.out.alloc (.cells #[.slice p0 s0.length c0, .bool cr0, .bool sk0] 24)).call b1); clear b1 R1)
    all_goals (go_ret; exact ⟨by first | rfl | simp, B1.out⟩)
  by_cases hlen0 : 500 < s0.length
  · have hl' : (500 : Int) < (s0.length : Int) := by omega
    go_enter Try.func4, Try.ntmps4
    go_wp2_with (go_at_call 9; refine (awake_any _).mono ?_; rintro e w1 ⟨rfl, b1⟩; have R1 := (IsRow.made w 24 #[.slice p0 s0.length c0, .bool cr0, .bool sk0]).call b1; have k0 : w1.cell? ⟨w.heap.size, 0, none⟩ = some (.slice p0 s0.length c0) := R1.cell 0; have k1 : w1.cell? ⟨w.heap.size, 1, none⟩ = some (.bool cr0) := R1.cell 1; have k2 : w1.cell? ⟨w.heap.size, 2, none⟩ = some (.bool sk0) := R1.cell 2; have B1 := Lib.hid (below_new (Below.refl _ _) b1); have H1 := Lib.hid R1; have Y0 := Lib.hid ((y0.out.alloc (.cells #[.slice p0 s0.length c0, .bool cr0, .bool sk0] 24)).call b1); have Y1 := Lib.hid ((y1.out.alloc (.cells #[.slice p0 s0.length c0, .bool cr0, .bool sk0] 24)).call b1); clear b1 R1)
    all_goals (go_ret; exact ⟨by first | rfl | simp, B1.out⟩)
  by_cases hneg : n4 < 0
  · have hl' : n4 < 0 := hneg
    go_enter Try.func4, Try.ntmps4
    go_wp2_with (go_at_call 9; refine (awake_any _).mono ?_; rintro e w1 ⟨rfl, b1⟩; have R1 := (IsRow.made w 24 #[.slice p0 s0.length c0, .bool cr0, .bool sk0]).call b1; have k0 : w1.cell? ⟨w.heap.size, 0, none⟩ = some (.slice p0 s0.length c0) := R1.cell 0; have k1 : w1.cell? ⟨w.heap.size, 1, none⟩ = some (.bool cr0) := R1.cell 1; have k2 : w1.cell? ⟨w.heap.size, 2, none⟩ = some (.bool sk0) := R1.cell 2; have B1 := Lib.hid (below_new (Below.refl _ _) b1); have H1 := Lib.hid R1; have Y0 := Lib.hid ((y0.out.alloc (.cells #[.slice p0 s0.length c0, .bool cr0, .bool sk0] 24)).call b1); have Y1 := Lib.hid ((y1.out.alloc (.cells #[.slice p0 s0.length c0, .bool cr0, .bool sk0] 24)).call b1); clear b1 R1)
    all_goals (go_ret; exact ⟨by first | rfl | simp, B1.out⟩)
  by_cases hover : (s1.length : Int) < n4
  · have hl' : (s1.length : Int) < n4 := hover
    go_enter Try.func4, Try.ntmps4
    go_wp2_with (go_at_call 9; refine (awake_any _).mono ?_; rintro e w1 ⟨rfl, b1⟩; have R1 := (IsRow.made w 24 #[.slice p0 s0.length c0, .bool cr0, .bool sk0]).call b1; have k0 : w1.cell? ⟨w.heap.size, 0, none⟩ = some (.slice p0 s0.length c0) := R1.cell 0; have k1 : w1.cell? ⟨w.heap.size, 1, none⟩ = some (.bool cr0) := R1.cell 1; have k2 : w1.cell? ⟨w.heap.size, 2, none⟩ = some (.bool sk0) := R1.cell 2; have B1 := Lib.hid (below_new (Below.refl _ _) b1); have H1 := Lib.hid R1; have Y0 := Lib.hid ((y0.out.alloc (.cells #[.slice p0 s0.length c0, .bool cr0, .bool sk0] 24)).call b1); have Y1 := Lib.hid ((y1.out.alloc (.cells #[.slice p0 s0.length c0, .bool cr0, .bool sk0] 24)).call b1); clear b1 R1)
    all_goals (go_ret; exact ⟨by first | rfl | simp, B1.out⟩)
  have hl1 : ¬ (500 : Int) < (s1.length : Int) := by omega
  have hl0 : ¬ (500 : Int) < (s0.length : Int) := by omega
  obtain ⟨k, rfl⟩ : ∃ k : Nat, n4 = (k : Int) := ⟨n4.toNat, by omega⟩
  obtain ⟨ua, hsa, hua⟩ := slice_h y1.out k (by omega)
  obtain ⟨ub, hsb, hub⟩ := slice_l y1.out k (by omega)
  have hla : (s1.take k).length ≤ 500 := by rw [List.length_take]; omega
  have hlb : (s1.drop k).length ≤ 500 := by rw [List.length_drop]; omega
  have hrun := run_append n2 b3 ⟨s0, cr0, sk0⟩ (s1.take k) (s1.drop k)
  rw [List.take_append_drop] at hrun
  obtain ⟨pa, ca, rfl⟩ := hua.form
  obtain ⟨pb, cb, rfl⟩ := hub.form
  generalize s1.take k = sa at *
  generalize s1.drop k = sb at *
  have S1 := Lib.hid (fun W h h' => feed_any ⟨s0, cr0, sk0⟩ (.slice p0 s0.length c0) (.slice p1 s1.length c1) s1 n2 b3 (by simp only; omega) (by omega) W h h')
  have S2 := Lib.hid (fun W h h' => feed_any ⟨s0, cr0, sk0⟩ (.slice p0 s0.length c0) (.slice pa sa.length ca) sa n2 b3 (by simp only; omega) (by omega) W h h')
  unfold FeedPost at S1 S2
  have L1 := run_length n2 b3 ⟨s0, cr0, sk0⟩ sa
  simp only at L1
  rw [hrun] at S1
  generalize run n2 b3 ⟨s0, cr0, sk0⟩ sa = GA at S1 S2 L1
  obtain ⟨⟨hb, hcr, hsk⟩, ml⟩ := GA
  simp only at S1 S2 L1
  have S3 := Lib.hid (fun W u h h' => feed_any ⟨hb, hcr, hsk⟩ u (.slice pb sb.length cb) sb n2 b3 (by simp only; omega) (by omega) W h h')
  unfold FeedPost at S3
  have L2 := run_length n2 b3 ⟨hb, hcr, hsk⟩ sb
  simp only at L2
  generalize run n2 b3 ⟨hb, hcr, hsk⟩ sb = GB at S1 S3 L2
  obtain ⟨⟨gb, gcr, gsk⟩, nl⟩ := GB
  simp only at S1 S3 L2
  generalize htl : ml ++ nl = tl at S1
  have hml : ml.length ≤ 100000 := by omega
  have hnl : nl.length ≤ 100000 := by omega
  have T2 : Hid (∀ W u v, LinesIs W u tl → LinesIs W v tl → Calls Try.prog 13 #[u, v] W fun e w' => e = .returned (.bool true) ∧ Below W.heap.size W w') := Lib.hid (fun W u v hu hv => by
    have h := rlines_any tl tl u v (by rw [← htl]; simp; omega) (by rw [← htl]; simp; omega) W hu hv
    rw [decide_eq_true rfl] at h
    exact h)
  have T4 : Hid (∀ W u v, BytesIs W u gb → BytesIs W v gb → Calls Try.prog 16 #[framerV u gcr gsk, framerV v gcr gsk] W fun e w' => e = .returned (.bool true) ∧ Below W.heap.size W w') := Lib.hid (fun W u v hu hv => by
    have h := same_any ⟨gb, gcr, gsk⟩ ⟨gb, gcr, gsk⟩ u v W hu hv
    rw [decide_eq_true rfl] at h
    exact h)
  have HUA := Lib.hid hua
  have HUB := Lib.hid hub
  have HTL := Lib.hid htl
  clear htl hrun L1 L2 hlen1 hlen0 hua hub hla hlb
  simp only [framerV] at S1 S2 S3 T4
  go_enter Try.func4, Try.ntmps4
  go_wp2_with (first
    | (go_at_call 9; refine (awake_any _).mono ?_; rintro e w1 ⟨rfl, b1⟩; have R1 := (IsRow.made w 24 #[.slice p0 s0.length c0, .bool cr0, .bool sk0]).call b1; have k0 : w1.cell? ⟨w.heap.size, 0, none⟩ = some (.slice p0 s0.length c0) := R1.cell 0; have k1 : w1.cell? ⟨w.heap.size, 1, none⟩ = some (.bool cr0) := R1.cell 1; have k2 : w1.cell? ⟨w.heap.size, 2, none⟩ = some (.bool sk0) := R1.cell 2; have B1 := Lib.hid (below_new (Below.refl _ _) b1); have H1 := Lib.hid R1; have Y0 := Lib.hid ((y0.out.alloc (.cells #[.slice p0 s0.length c0, .bool cr0, .bool sk0] 24)).call b1); have Y1 := Lib.hid ((y1.out.alloc (.cells #[.slice p0 s0.length c0, .bool cr0, .bool sk0] 24)).call b1); have UA := Lib.hid ((HUA.out.alloc (.cells #[.slice p0 s0.length c0, .bool cr0, .bool sk0] 24)).call b1); have UB := Lib.hid ((HUB.out.alloc (.cells #[.slice p0 s0.length c0, .bool cr0, .bool sk0] 24)).call b1); clear b1 R1)
    | (go_at_call 10; refine (S1.out _ Y0.out Y1.out).mono ?_; rintro e w2 ⟨x2, y2, rfl, hx2, hy2, b2⟩; obtain ⟨p2, c2, rfl⟩ := hx2.form; obtain ⟨q2, d2, rfl⟩ := hy2.form; have R := (H1.out.call b2).alloc (.cells #[.slice p2 gb.length c2, .bool gcr, .bool gsk] 24); have H2 := Lib.hid R; have Q2 := Lib.hid (IsRow.made w2 24 #[.slice p2 gb.length c2, .bool gcr, .bool gsk]); have B2 := Lib.hid ((below_then B1.out b2).alloc (below_then B1.out b2).size (.cells #[.slice p2 gb.length c2, .bool gcr, .bool gsk] 24)); have X2 := Lib.hid (hx2.alloc (.cells #[.slice p2 gb.length c2, .bool gcr, .bool gsk] 24)); have L2 := Lib.hid (hy2.call (Below.refl w2.heap.size w2 |>.alloc (Nat.le_refl _) (.cells #[.slice p2 gb.length c2, .bool gcr, .bool gsk] 24))); have A0 := Lib.hid ((Y0.out.call b2).alloc (.cells #[.slice p2 gb.length c2, .bool gcr, .bool gsk] 24)); have VA := Lib.hid ((UA.out.call b2).alloc (.cells #[.slice p2 gb.length c2, .bool gcr, .bool gsk] 24)); have VB := Lib.hid ((UB.out.call b2).alloc (.cells #[.slice p2 gb.length c2, .bool gcr, .bool gsk] 24)); clear b2 R hx2 hy2 k0 k1 k2 S1 B1 H1 Y0 Y1 UA UB))
  generalize hw2 : World.alloc w2 _ = v2 at *
  have k0 : v2.cell? ⟨w.heap.size, 0, none⟩ = some (.slice p0 s0.length c0) := H2.out.cell 0
  have k1 : v2.cell? ⟨w.heap.size, 1, none⟩ = some (.bool cr0) := H2.out.cell 1
  have k2 : v2.cell? ⟨w.heap.size, 2, none⟩ = some (.bool sk0) := H2.out.cell 2
  have klt := H2.out.lt
  have klt2 := Q2.out.lt
  go_region_held (fun w' => w'.cell? ⟨w.heap.size, 0, none⟩ = some (.slice p0 s0.length c0) ∧ w'.cell? ⟨w.heap.size, 1, none⟩ = some (.bool cr0) ∧ w'.cell? ⟨w.heap.size, 2, none⟩ = some (.bool sk0)) (first | go_keep | exact K3 | exact K4)
    ((go_at_call 10; refine (S2.out _ (A0.out.call (by first | exact (Below.refl _ _).drew | exact ((Below.refl _ _).alloc (Nat.le_refl _) _).drew)) (VA.out.call (by first | exact (Below.refl _ _).drew | exact ((Below.refl _ _).alloc (Nat.le_refl _) _).drew))).mono ?_; rintro e w3 ⟨x3, y3, rfl, hx3, hy3, b3⟩; obtain ⟨p3, c3, rfl⟩ := hx3.form; obtain ⟨q3, d3, rfl⟩ := hy3.form; have bd : Below v2.heap.size v2 w3 := (by first | exact below_then (Below.refl v2.heap.size v2).drew b3 | exact below_then ((Below.refl v2.heap.size v2).alloc (Nat.le_refl _) (.cells #[.slice none 0 0, .bool false, .bool false] 24)).drew b3); have R := H2.out.call bd; have K3 := And.intro (R.cell 0) (And.intro (R.cell 1) (R.cell 2)); have Q3 := Lib.hid (Q2.out.call bd); have hne3 : w2.heap.size ≠ w3.heap.size := (by have := (Q2.out.call bd).lt; omega); have hle3 : w.heap.size ≤ w3.heap.size := (by have := (below_then B2.out bd).size; omega); have B3 := Lib.hid (below_then B2.out bd); have X3 := Lib.hid (X2.out.call bd); have L3 := Lib.hid (L2.out.call bd); have Z3 := Lib.hid hx3; have M3 := Lib.hid hy3; have VB3 := Lib.hid (VB.out.call bd); (try (have RZ : IsRow w3 v2.heap.size 24 #[.slice none 0 0, .bool false, .bool false] := (IsRow.made v2 24 #[.slice none 0 0, .bool false, .bool false]).drew.call b3; have z0 : w3.cell? ⟨v2.heap.size, 0, none⟩ = some (.slice none 0 0) := RZ.cell 0; have z1 : w3.cell? ⟨v2.heap.size, 1, none⟩ = some (.bool false) := RZ.cell 1; have z2 : w3.cell? ⟨v2.heap.size, 2, none⟩ = some (.bool false) := RZ.cell 2; have zf0 : w3.frozen? ⟨v2.heap.size, 0, none⟩ = false := RZ.free 0; have zf1 : w3.frozen? ⟨v2.heap.size, 1, none⟩ = false := RZ.free 1; have zf2 : w3.frozen? ⟨v2.heap.size, 2, none⟩ = false := RZ.free 2; have HZ := Lib.hid RZ; have RS := ((R.other (a := ⟨v2.heap.size, 0, none⟩) (by show w.heap.size ≠ v2.heap.size; omega) (.slice p3 hb.length c3)).other (a := ⟨v2.heap.size, 1, none⟩) (by show w.heap.size ≠ v2.heap.size; omega) (.bool hcr)).other (a := ⟨v2.heap.size, 2, none⟩) (by show w.heap.size ≠ v2.heap.size; omega) (.bool hsk); have K4 := And.intro (RS.cell 0) (And.intro (RS.cell 1) (RS.cell 2)); clear RZ RS)); clear b3 bd R hx3 hy3))
  all_goals (first
    | (have HX := Lib.hid (Boxes.set p3 hb.length c3 hcr hsk HZ.out)
       have hne : w2.heap.size ≠ v2.heap.size := by omega
       have hle : w.heap.size ≤ v2.heap.size := by omega
       generalize World.setCell _ _ _ = v3 at HX ⊢
       generalize v2.heap.size = B at HX hne hle ⊢)
    | (have HX := Lib.hid (Boxes.new w3 (.slice p3 hb.length c3) hcr hsk)
       have hne := hne3
       have hle := hle3
       generalize World.alloc w3 _ = v3 at HX ⊢
       generalize w3.heap.size = B at HX hne hle ⊢))
  all_goals (
    have G3 := Lib.hid (HX.out.rows _ _ Q3.out hne)
    have B4 := Lib.hid (HX.out.below _ _ B3.out hle)
    have X4 := Lib.hid (HX.out.bytes _ _ X3.out)
    have L4 := Lib.hid (HX.out.lines _ _ L3.out)
    have Z4 := Lib.hid (HX.out.bytes _ _ Z3.out)
    have M4 := Lib.hid (HX.out.lines _ _ M3.out)
    have V4 := Lib.hid (HX.out.bytes _ _ VB3.out)
    have H4 := Lib.hid HX.out.row
    clear HX hne hle hne3 hle3 Q3 B3 X3 L3 Z3 M3 VB3 H2 Q2 B2 X2 L2 A0 VA VB S2 k0 k1 k2 K3 klt klt2
    have k0 : v3.cell? ⟨B, 0, none⟩ = some (.slice p3 hb.length c3) := H4.out.cell 0
    have k1 : v3.cell? ⟨B, 1, none⟩ = some (.bool hcr) := H4.out.cell 1
    have k2 : v3.cell? ⟨B, 2, none⟩ = some (.bool hsk) := H4.out.cell 2
    have klt := H4.out.lt
    have klt2 := G3.out.lt
    go_wp2_with fail
    go_region_held (fun w' => w'.cell? ⟨B, 0, none⟩ = some (.slice p3 hb.length c3) ∧ w'.cell? ⟨B, 1, none⟩ = some (.bool hcr) ∧ w'.cell? ⟨B, 2, none⟩ = some (.bool hsk)) (first | go_keep | exact K5 | exact K6)
      ((go_at_call 10; refine (S3.out _ _ (Z4.out.call (by first | exact (Below.refl _ _).drew | exact ((Below.refl _ _).alloc (Nat.le_refl _) _).drew)) (V4.out.call (by first | exact (Below.refl _ _).drew | exact ((Below.refl _ _).alloc (Nat.le_refl _) _).drew))).mono ?_; rintro e w5 ⟨x5, y5, rfl, hx5, hy5, b5⟩; obtain ⟨p5, c5, rfl⟩ := hx5.form; obtain ⟨q5, d5, rfl⟩ := hy5.form; have bd : Below v3.heap.size v3 w5 := (by first | exact below_then (Below.refl v3.heap.size v3).drew b5 | exact below_then ((Below.refl v3.heap.size v3).alloc (Nat.le_refl _) (.cells #[.slice none 0 0, .bool false, .bool false] 24)).drew b5); have R := H4.out.call bd; have K5 := And.intro (R.cell 0) (And.intro (R.cell 1) (R.cell 2)); have G5 := Lib.hid (G3.out.call bd); have hne5 : w2.heap.size ≠ w5.heap.size := (by have := (G3.out.call bd).lt; omega); have hle5 : w.heap.size ≤ w5.heap.size := (by have := (below_then B4.out bd).size; omega); have B5 := Lib.hid (below_then B4.out bd); have X5 := Lib.hid (X4.out.call bd); have L5 := Lib.hid (L4.out.call bd); have M5 := Lib.hid (M4.out.call bd); have Z5 := Lib.hid hx5; have N5 := Lib.hid hy5; (try (have RZ : IsRow w5 v3.heap.size 24 #[.slice none 0 0, .bool false, .bool false] := (IsRow.made v3 24 #[.slice none 0 0, .bool false, .bool false]).drew.call b5; have z0 : w5.cell? ⟨v3.heap.size, 0, none⟩ = some (.slice none 0 0) := RZ.cell 0; have z1 : w5.cell? ⟨v3.heap.size, 1, none⟩ = some (.bool false) := RZ.cell 1; have z2 : w5.cell? ⟨v3.heap.size, 2, none⟩ = some (.bool false) := RZ.cell 2; have zf0 : w5.frozen? ⟨v3.heap.size, 0, none⟩ = false := RZ.free 0; have zf1 : w5.frozen? ⟨v3.heap.size, 1, none⟩ = false := RZ.free 1; have zf2 : w5.frozen? ⟨v3.heap.size, 2, none⟩ = false := RZ.free 2; have HZ5 := Lib.hid RZ; have RS := ((R.other (a := ⟨v3.heap.size, 0, none⟩) (by show B ≠ v3.heap.size; omega) (.slice p5 gb.length c5)).other (a := ⟨v3.heap.size, 1, none⟩) (by show B ≠ v3.heap.size; omega) (.bool gcr)).other (a := ⟨v3.heap.size, 2, none⟩) (by show B ≠ v3.heap.size; omega) (.bool gsk); have K6 := And.intro (RS.cell 0) (And.intro (RS.cell 1) (RS.cell 2)); clear RZ RS)); clear b5 bd R hx5 hy5))
    all_goals (first
      | (have HX := Lib.hid (Boxes.set p5 gb.length c5 gcr gsk HZ5.out)
         have hne : w2.heap.size ≠ v3.heap.size := by omega
         have hle : w.heap.size ≤ v3.heap.size := by have := B4.out.size; omega
         generalize World.setCell _ _ _ = v5 at HX ⊢
         generalize v3.heap.size = C at HX hne hle ⊢)
      | (have HX := Lib.hid (Boxes.new w5 (.slice p5 gb.length c5) gcr gsk)
         have hne := hne5
         have hle := hle5
         generalize World.alloc w5 _ = v5 at HX ⊢
         generalize w5.heap.size = C at HX hne hle ⊢))
    all_goals (
      have G6 := Lib.hid (HX.out.rows _ _ G5.out hne)
      have B6 := Lib.hid (HX.out.below _ _ B5.out hle)
      have X6 := Lib.hid (HX.out.bytes _ _ X5.out)
      have L6 := Lib.hid (HX.out.lines _ _ L5.out)
      have M6 := Lib.hid (HX.out.lines _ _ M5.out)
      have Z6 := Lib.hid (HX.out.bytes _ _ Z5.out)
      have N6 := Lib.hid (HX.out.lines _ _ N5.out)
      have H6 := Lib.hid HX.out.row
      clear HX hne hle hne5 hle5 G5 B5 X5 L5 M5 Z5 N5 H4 G3 B4 X4 L4 Z4 M4 V4 S3 k0 k1 k2 K5 klt klt2
      go_wp2_with (at_builtin; refine wpList_append_lines rfl _ _ rfl v5.heap.size (.slice none 0 0) [] rfl (World.ownsRow_nil _ _ _ _) _ ml rfl M6.out ?c1 ?c2 ?_)
      case c1 => first | omega | (simp; omega)
      try (case c2 => exact Nat.le_refl _)
      intro o7 w7 hown hg
      have b7 : Below v5.heap.size v5 w7 := (Below.refl _ _).grown hg (Nat.le_refl _) (fun k hk => by cases hk)
      have hown7 : w7.ownsRow v5.heap.size 37 2 o7 ml.length (ml.flatMap lineCs) := hown
      have N7 := Lib.hid (N6.out.call b7)
      clear hown hg
      go_wp2_with (at_builtin; refine wpList_append_lines rfl _ _ rfl v5.heap.size _ ml rfl hown7 _ nl rfl N7.out ?d1 ?d2 ?_)
      case d1 => first | omega | (simp; omega)
      try (case d2 => exact b7.size)
      intro o8 w8 hown hg
      have b8 : Below v5.heap.size v5 w8 := b7.grown hg b7.size (lown_ge hown7)
      have O8 : Hid (LinesIs w8 o8 tl) := Lib.hid (by rw [← HTL.out]; exact lines_of_own (l := ml ++ nl) (by simpa using hown))
      have B8 := Lib.hid (below_then B6.out b8)
      have G8 := Lib.hid (G6.out.call b8)
      have H8 := Lib.hid (H6.out.call b8)
      have X8 := Lib.hid (X6.out.call b8)
      have Z8 := Lib.hid (Z6.out.call b8)
      have L8 := Lib.hid (L6.out.call b8)
      clear hown hg b7 b8 hown7 N7 N6 M6 L6 X6 Z6 G6 H6 B6
      go_wp2_with (first
        | (go_at_call 13; refine (T2.out _ _ _ L8.out O8.out).mono ?_; rintro e w9 ⟨rfl, b9⟩; have B9 := Lib.hid (below_then B8.out b9); have R := G8.out.call b9; have g0 : w9.cell? ⟨w2.heap.size, 0, none⟩ = some (.slice p2 gb.length c2) := R.cell 0; have g1 : w9.cell? ⟨w2.heap.size, 1, none⟩ = some (.bool gcr) := R.cell 1; have g2 : w9.cell? ⟨w2.heap.size, 2, none⟩ = some (.bool gsk) := R.cell 2; have R' := H8.out.call b9; have i0 : w9.cell? ⟨C, 0, none⟩ = some (.slice p5 gb.length c5) := R'.cell 0; have i1 : w9.cell? ⟨C, 1, none⟩ = some (.bool gcr) := R'.cell 1; have i2 : w9.cell? ⟨C, 2, none⟩ = some (.bool gsk) := R'.cell 2; have X9 := Lib.hid (X8.out.call b9); have Z9 := Lib.hid (Z8.out.call b9); clear b9 R R' B8 G8 H8 X8 Z8 L8 O8)
        | (go_at_call 16; refine (T4.out _ _ _ X9.out Z9.out).mono ?_; rintro e w10 ⟨rfl, b10⟩; have B10 := Lib.hid (below_then B9.out b10); clear b10 X9 Z9 B9))
      all_goals (go_ret; exact ⟨by first | rfl | simp, B10.out⟩)))

set_option maxRecDepth 100000 in
theorem lifted (os : Os) (started : os.Started) (H : Type) (enc : TypeId × Value → H) :
    ReturnsInHanded {} Try.checked os 4 .any (Rows.linePartsSpec.pre6 enc Try.prog Try.f4 Rows.linePartsRow.domain false) (Rows.linePartsSpec.post enc Try.prog Try.f4 false true false false) := by
  refine returnsInHanded_of_change (C := Try.checked) ownKnobs started (by kernel_rfl) Try.func4
    (ChangeSpec.witness6 (enc := enc) (C := Try.checked) false ⟨#[], #[.agg #[.slice none 0 0, .bool false, .bool false], .slice none 0 0, .int .i64 0, .bool false, .int .i64 0], []⟩ 8 (by kernel_rfl) (by kernel_rfl) (by kernel_rfl) (by kernel_rfl)) ?_
  intro W base args ds gs before hval0 hW _ _
  have E : Env W := trivial
  have hval : ∀ (j : Nat) t v, Try.f4.params[j]? = some t → args[j]? = some v → Value.okWide Try.prog W .any base t v := hval0
  have hW' := hW
  obtain ⟨p, q, hA0, hV, rfl, _, _⟩ := hW
  have hA : DataW.TrodAll enc Try.prog W 0 (fun _ => true) true Try.f4.params.toList args.toList ds p := hA0
  rw [Try.params4] at hA hval
  obtain ⟨v0, vs0, d0, ds0, p0, q0, hargs, rfl, rfl, r0, t0⟩ := trodAll_cons hA
  obtain ⟨v1, vs1, d1, ds1, p1, q1, rfl, rfl, rfl, r1, t1⟩ := trodAll_cons t0
  obtain ⟨v2, vs2, d2, ds2, p2, q2, rfl, rfl, rfl, r2, t2⟩ := trodAll_cons t1
  obtain ⟨v3, vs3, d3, ds3, p3, q3, rfl, rfl, rfl, r3, t3⟩ := trodAll_cons t2
  obtain ⟨v4, vs4, d4, ds4, p4, q4, rfl, rfl, rfl, r4, t4⟩ := trodAll_cons t3
  obtain ⟨rfl, rfl, rfl⟩ := trodAll_nil t4
  obtain rfl : args = #[v0, v1, v2, v3, v4] := by cases args; simp_all
  obtain ⟨rfl, rfl⟩ := trodVars_none hV
  obtain ⟨u0, cr0, sk0, s0, rfl, y0, k0⟩ := open_framer (hval 0 24 v0 rfl rfl) r0
  obtain ⟨s1, y1, k1⟩ := open_bytes (hval 1 22 v1 rfl rfl) r1
  obtain ⟨n2, rfl, rfl, rfl, w2⟩ := open_int Try.underlying3 (hval 2 3 v2 rfl rfl) r2
  obtain ⟨b3, rfl, rfl, rfl⟩ := open_bool Try.underlying4 (hval 3 4 v3 rfl rfl) r3
  obtain ⟨n4, rfl, rfl, rfl, w4⟩ := open_int Try.underlying3 (hval 4 3 v4 rfl rfl) r4
  clear hA0 hval0
  simp only [List.append_nil] at hW'
  refine (walk u0 cr0 sk0 s0 v1 s1 n2 (int_wf w2).1 (int_wf w2).2 b3 n4 (int_wf w4).1 (int_wf w4).2 W y0 y1 E).mono fun e W' ⟨he, hb⟩ => ?_
  subst he
  obtain ⟨pa0, z0⟩ := k0 W' hb
  obtain ⟨pa1, z1⟩ := k1 W' hb
  exact ⟨_, rfl, told hW' (fun _ _ _ => trodAll_cons_mk (shut_bool Try.underlying4 _) trodAll_mk0) (trodAll_cons_mk (z0) (trodAll_cons_mk (z1) (trodAll_cons_mk (shut_int Try.underlying3 w2) (trodAll_cons_mk (shut_bool Try.underlying4 b3) (trodAll_cons_mk (shut_int Try.underlying3 w4) trodAll_mk0))))) (fun _ => rfl) hb⟩

theorem over : Rows.linePartsRow.holds Try.pinned (OpenSpec.ofChange Rows.linePartsSpec) :=
  OpenClaim.holds_of_wide 4 Try.f4 rfl rfl rfl rfl rfl rfl rfl ⟨rfl, rfl, rfl, rfl, rfl⟩ rfl rfl rfl rfl rfl (by kernel_rfl) Try.func4 (by kernel_rfl)
    (of_decide_eq_true (by kernel_rfl)) (by unfold Func.isWrapper; first | (rw [if_pos (by decide +kernel)]; kernel_rfl) | (rw [if_neg (by decide +kernel)]; exact ⟨rfl, rfl⟩))
    (fun os started H enc _ => lifted os started H enc)

theorem proved : Rows.LinePartsSaid :=
  over
#print axioms proved
end Go.Proofs.Ytampgoicogfccaa.lineParts
