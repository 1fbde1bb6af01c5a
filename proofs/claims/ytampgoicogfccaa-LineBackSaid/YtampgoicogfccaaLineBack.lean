/- Proved: for every list of texts, every number, both ways the law LineBack of layer 6 answers true. Conditions: none beyond the row's own (the library's variables start as the program's text lays them: the card ties them). -/
import Derived.Test.YtampgoicogfccaaLineAwake
import Derived.Test.YtampgoicogfccaaLineSame
import Derived.Test.YtampgoicogfccaaLineHas
import Derived.Test.YtampgoicogfccaaStrs

namespace Go.Proofs.Ytampgoicogfccaa.lineBack
open Go.Proofs.Ytampgoicogfccaa Go.Proofs.Ytampgoicogfccaa.Ln Go.Proofs.Ytampgoicogfccaa
open Go.ChangeShapes Go.WideShapes Go.ChangeAt Go.RowKit Go.Sort Go.ChangeMaps

/-- texts that may be printed -/
def Ok (ss : List (List UInt8)) (most : Int) : Prop := ∀ s ∈ ss, (10 : UInt8) ∉ s ∧ (13 : UInt8) ∉ s ∧ (s.length : Int) ≤ most
abbrev lineL (ss : List (List UInt8)) : List (List UInt8 × Bool) := ss.map fun s => (s, false)
/-- under way: what is printed, the lines that are wanted -/
structure Pr (K : Nat) (x y : Value) (ss : List (List UInt8)) (w : World) : Prop where
  own : w.ownsRow K 5 1 x (printed ss).length ((printed ss).map byteV)
  lines : w.ownsRow K 37 2 y (lineL ss).length ((lineL ss).flatMap lineCs)
theorem strs_some {w : World} {p : Option Addr} {n c : Nat} {l : List (List UInt8)} (h : StrsIs w (.slice p n c) l) (hne : l ≠ []) : ∃ a, p = some a ∧ a.block < w.heap.size ∧ ∀ i (h : i < l.length), w.cell? (a.add i) = some (.string ⟨l[i].toArray⟩) := by
  rcases h with ⟨_, h⟩ | ⟨a, c', e, _, _, h3⟩
  · exact absurd h hne
  · injection e with e1 e2 e3
    subst e1
    refine ⟨a, rfl, ?_, h3⟩
    have := World.block_lt_of_cell? w _ (h3 0 (List.length_pos_iff.2 hne))
    rwa [add_block] at this

set_option linter.unusedVariables false in
set_option maxHeartbeats 8000000 in
set_option maxRecDepth 100000 in
theorem walk (u0 : Value) (s0 : List (List UInt8)) (n1 : Int) (l1 : -9223372036854775808 ≤ n1) (h1 : n1 ≤ 9223372036854775807) (b2 : Bool) (w : World) (y0 : StrsIs w u0 s0) (E : Env w) :
    Calls Try.prog 5 #[u0, .int .i64 n1, .bool b2] w fun e w' => e = .returned (.bool true) ∧ Below w.heap.size w w' := by
  have Y0 := Lib.hid y0
  obtain ⟨p0, c0, rfl⟩ := y0.form
  clear y0
  by_cases hlen : 10 < s0.length
  · have hl' : (10 : Int) < (s0.length : Int) := by omega
    go_enter Try.func5, Try.ntmps5
    go_wp2_with (go_at_call 9; refine (awake_any _).mono ?_; rintro e w1 ⟨rfl, b1⟩; have B1 := Lib.hid b1; have Y1 := Lib.hid (Y0.out.call b1); clear b1)
    go_ret
    exact ⟨by first | rfl | simp, B1.out⟩
  have hl' : ¬ (10 : Int) < (s0.length : Int) := by omega
  go_enter Try.func5, Try.ntmps5
  go_wp2_with (go_at_call 9; refine (awake_any _).mono ?_; rintro e w1 ⟨rfl, b1⟩; have B1 := Lib.hid b1; have Y1 := Lib.hid (Y0.out.call b1); clear b1)
  clear Y0
  go_loopw [8, 9, 10] (fun x8 x9 x10 wr => ∃ (k : Nat) (x y : Value) (ss : List (List UInt8)), x = x8 ∧ y = x9 ∧ x10 = .int .i64 (k : Int) ∧ k ≤ s0.length ∧ (printed ss).length ≤ 202 * k ∧ ss.length ≤ k ∧ Hid (Ok ss n1) ∧ Hid (Pr w1.heap.size x y ss wr) ∧ Hid (Below w1.heap.size w1 wr)) (fun _ _ i _ => s0.length - (intOf i).toNat)
  case atStart => exact ⟨0, _, _, [], rfl, rfl, rfl, Nat.zero_le _, Nat.zero_le _, Nat.zero_le _, Lib.hid (fun s h => by cases h), Lib.hid ⟨World.ownsRow_nil _ _ _ _, World.ownsRow_nil _ _ _ _⟩, Lib.hid (Below.refl _ _)⟩
  case round =>
    obtain ⟨k, x, y, ss, rfl, rfl, rfl, hk, hpl, hsl, HO, HP, HB⟩ := hrel
    by_cases hlt : k < s0.length
    · obtain ⟨a, rfl, hal, hcell⟩ := strs_some Y1.out (by intro e; have h0 : s0.length = 0 := List.length_eq_zero_iff.2 e; omega)
      have hc : wr.cell? (a.add k) = some (.string ⟨s0[k].toArray⟩) := by rw [HB.out.cell (by rw [add_block]; exact hal)]; exact hcell k hlt
      have HC := Lib.hid (hcell k hlt)
      clear hcell
      generalize s0[k] = t at *
      by_cases hbig : 200 < t.length
      · have hb' : (200 : Int) < (t.length : Int) := by omega
        go_wp2_with fail
        go_ret
        exact ⟨by first | rfl | simp, B1.out.trans (HB.out.mono B1.out.size)⟩
      · have hb' : ¬ (200 : Int) < (t.length : Int) := by omega
        have P := Lib.hid (print_any t n1 (by omega) wr)
        unfold PrintPost at P
        cases hp : prn t n1 with
        | false =>
          rw [hp] at P
          go_wp2_with (go_at_call 14; refine P.out.mono ?_; rintro e w2 ⟨x2, rfl, hx2, b2⟩; obtain ⟨p2, c2, rfl⟩ := hx2.form; have B2 := Lib.hid (HB.out.trans (b2.mono HB.out.size)); have P2 : Hid (Pr w1.heap.size x y ss w2) := Lib.hid ⟨own_call HP.out.own b2, own_call HP.out.lines b2⟩; clear b2 hx2)
          go_roundw
          case rel => exact ⟨k + 1, x, y, ss, rfl, rfl, by go_num, by omega, by omega, by omega, HO, P2, B2⟩
          case measure => simp [intOf]; omega
        | true =>
          rw [hp, if_pos rfl] at P
          have hok : ((t.length : Int) ≤ n1 ∧ (10 : UInt8) ∉ t ∧ (13 : UInt8) ∉ t) := of_decide_eq_true hp
          have HO2 : Hid (Ok (ss ++ [t]) n1) := Lib.hid (fun s h => by
            rcases List.mem_append.1 h with h | h
            · exact HO.out s h
            · obtain rfl : s = t := by simpa using h
              exact ⟨hok.2.1, hok.2.2, hok.1⟩)
          have hpa : printed (ss ++ [t]) = printed ss ++ (t ++ [13, 10]) := by rw [printed_append]; simp [printed]
          have HPA := Lib.hid hpa
          have HPL : Hid ((printed (ss ++ [t])).length ≤ 202 * (k + 1)) := Lib.hid (by rw [hpa]; simp only [List.length_append, List.length_cons, List.length_nil]; omega)
          clear hok hpa hp
          go_wp2_with (first
            | (go_at_call 14; refine P.out.mono ?_; rintro e w2 ⟨x2, rfl, hx2, b2⟩; obtain ⟨p2, c2, rfl⟩ := hx2.form; have B2 := Lib.hid (HB.out.trans (b2.mono HB.out.size)); have P2 : Hid (Pr w1.heap.size x y ss w2) := Lib.hid ⟨own_call HP.out.own b2, own_call HP.out.lines b2⟩; have X2 : Hid (BytesIs w2 (.slice p2 (t.length + 2) c2) (t ++ [13, 10])) := Lib.hid (by have h := hx2; rw [List.length_append] at h; exact h); clear b2 hx2 hc P)
            | (at_builtin; refine wpList_append_bytes rfl _ _ rfl w1.heap.size _ (printed ss) rfl P2.out.own _ (t ++ [13, 10]) rfl X2.out ?c1 ?c2 ?_))
          case c1 => first | omega | (simp; omega)
          try (case c2 => exact B2.out.size)
          intro v3 w3 hown hg
          have B3 := Lib.hid (B2.out.grown hg B2.out.size (own_ge P2.out.own))
          have O3 : Hid (w3.ownsRow w1.heap.size 5 1 v3 (printed (ss ++ [t])).length ((printed (ss ++ [t])).map byteV)) := Lib.hid (by rw [HPA.out]; simpa using hown)
          have L3 := Lib.hid (P2.out.lines.kept hg (own_own_ne P2.out.lines P2.out.own (fun e => u8_line e.symm)))
          have hc3 : w3.cell? (a.add k) = some (.string ⟨t.toArray⟩) := by rw [B3.out.cell (by rw [add_block]; exact hal)]; exact HC.out
          clear hown hg P2 X2 B2 HP HB
          go_wp2_with (at_builtin; refine wpList_append_lines rfl _ _ rfl w1.heap.size _ (lineL ss) rfl (L3.out.alloc _) _ [(t, false)] rfl (line_new _ (t, false)) ?d1 ?d2 ?_)
          case d1 => first | omega | (simp [lineL]; omega)
          try (case d2 => have := B3.out.size; first | omega | (simp; omega))
          intro v4 w4 hown hg
          have B4 := Lib.hid ((B3.out.alloc B3.out.size (.cells #[.string ⟨t.toArray⟩, .bool false] 37)).grown hg (by have := B3.out.size; simp; omega) (lown_ge L3.out))
          have e4 : lineL (ss ++ [t]) = lineL ss ++ [(t, false)] := by simp [lineL]
          have P4 : Hid (Pr w1.heap.size v3 v4 (ss ++ [t]) w4) := Lib.hid ⟨(O3.out.alloc _).kept hg (own_own_ne O3.out L3.out u8_line), by rw [e4]; simpa using hown⟩
          clear e4
          clear hown hg O3 L3 hc3 B3
          go_wp2_with fail
          go_roundw
          case rel => exact ⟨k + 1, v3, v4, ss ++ [t], rfl, rfl, by go_num, by omega, HPL.out, by simp; omega, HO2, P4, B4⟩
          case measure => simp [intOf]; omega
    · obtain rfl : k = s0.length := by omega
      have hrun : run n1 b2 none0 (printed ss) = (none0, lineL ss) := run_printed (most := n1) b2 ss HO.out
      have hbl : (printed ss).length ≤ 10000 := by omega
      have hts : (lineL ss).length ≤ 1000000 := by simp only [lineL, List.length_map]; omega
      have hx := HP.out.own
      have hz := HP.out.lines
      clear HP HO hpl hsl
      generalize printed ss = bs at hrun hbl hx
      generalize lineL ss = ts at hrun hts hz
      have S1 : Hid (∀ W (u : Value), BytesIs W u bs → Calls Try.prog 10 #[.agg #[.slice none 0 0, .bool false, .bool false], u, .int .i64 n1, .bool b2] W fun e w' =>
          ∃ x' y, e = .returned (.tuple #[.agg #[x', .bool false, .bool false], y]) ∧ BytesIs w' x' [] ∧ LinesIs w' y ts ∧ Below W.heap.size W w') := Lib.hid (fun W u h => by
        have := feed_any none0 (.slice none 0 0) u bs n1 b2 (by decide) hbl W (.nil W) h
        unfold FeedPost at this
        rw [hrun] at this
        exact this)
      obtain ⟨px, nx, rfl⟩ := own_form hx
      obtain ⟨py, ny, rfl⟩ := lown_form hz
      have X1 := Lib.hid (bytes_of_own hx)
      have Z1 := Lib.hid (lines_of_own hz)
      have BW := Lib.hid (B1.out.trans (HB.out.mono B1.out.size))
      have T2 : Hid (∀ W u v, LinesIs W u ts → LinesIs W v ts → Calls Try.prog 13 #[u, v] W fun e w' => e = .returned (.bool true) ∧ Below W.heap.size W w') := Lib.hid (fun W u v hu hv => by
        have h := rlines_any ts ts u v hts hts W hu hv
        rw [decide_eq_true rfl] at h
        exact h)
      have T4 : Hid (∀ W u v, BytesIs W u [] → BytesIs W v [] → Calls Try.prog 16 #[.agg #[u, .bool false, .bool false], .agg #[v, .bool false, .bool false]] W fun e w' => e = .returned (.bool true) ∧ Below W.heap.size W w') := Lib.hid (fun W u v hu hv => same_any ⟨[], false, false⟩ ⟨[], false, false⟩ u v W hu hv)
      clear hrun hx hz HB hts hbl
      go_wp2_with (first
        | (go_at_call 10; refine (S1.out _ _ X1.out).mono ?_; rintro e w5 ⟨x5, y5, rfl, hx5, hy5, b5⟩; obtain ⟨p5, c5, rfl⟩ := hx5.form; obtain ⟨q5, d5, rfl⟩ := hy5.form; have B5 := Lib.hid (below_then BW.out b5); have R5 := Lib.hid (IsRow.made w5 24 #[.slice p5 0 c5, .bool false, .bool false]); have X5 := Lib.hid (hx5.alloc (.cells #[.slice p5 0 c5, .bool false, .bool false] 24)); have L5 := Lib.hid (hy5.call (Below.refl w5.heap.size w5 |>.alloc (Nat.le_refl _) (.cells #[.slice p5 0 c5, .bool false, .bool false] 24))); have Z5 := Lib.hid ((Z1.out.call b5).call (Below.refl w5.heap.size w5 |>.alloc (Nat.le_refl _) (.cells #[.slice p5 0 c5, .bool false, .bool false] 24))); clear b5 S1 hx5 hy5 X1 Z1)
        | (go_at_call 13; refine (T2.out _ _ _ L5.out Z5.out).mono ?_; rintro e w6 ⟨rfl, b6⟩; have B6 := Lib.hid (below_new B5.out b6); have R := R5.out.call b6; have m0 : w6.cell? ⟨w5.heap.size, 0, none⟩ = some (.slice p5 0 c5) := R.cell 0; have m1 : w6.cell? ⟨w5.heap.size, 1, none⟩ = some (.bool false) := R.cell 1; have m2 : w6.cell? ⟨w5.heap.size, 2, none⟩ = some (.bool false) := R.cell 2; have X6 := Lib.hid (X5.out.call b6); clear b6 R T2 B5 L5 Z5 X5 R5)
        | (go_at_call 16; refine (T4.out _ _ _ X6.out (.nil _)).mono ?_; rintro e w7 ⟨rfl, b7⟩; have B7 := Lib.hid (below_then B6.out b7); clear b7 X6 B6))
      all_goals (go_ret; exact ⟨by first | rfl | simp, B7.out⟩)

set_option maxRecDepth 100000 in
theorem lifted (os : Os) (started : os.Started) (H : Type) (enc : TypeId × Value → H) :
    ReturnsInHanded {} Try.checked os 5 .any (Rows.lineBackSpec.pre6 enc Try.prog Try.f5 Rows.lineBackRow.domain false) (Rows.lineBackSpec.post enc Try.prog Try.f5 false true false false) := by
  refine returnsInHanded_of_change (C := Try.checked) ownKnobs started (by kernel_rfl) Try.func5
    (ChangeSpec.witness6 (enc := enc) (C := Try.checked) false ⟨#[], #[.slice none 0 0, .int .i64 0, .bool false], []⟩ 8 (by kernel_rfl) (by kernel_rfl) (by kernel_rfl) (by kernel_rfl)) ?_
  intro W base args ds gs before hval0 hW _ _
  have E : Env W := trivial
  have hval : ∀ (j : Nat) t v, Try.f5.params[j]? = some t → args[j]? = some v → Value.okWide Try.prog W .any base t v := hval0
  have hW' := hW
  obtain ⟨p, q, hA0, hV, rfl, _, _⟩ := hW
  have hA : DataW.TrodAll enc Try.prog W 0 (fun _ => true) true Try.f5.params.toList args.toList ds p := hA0
  rw [Try.params5] at hA hval
  obtain ⟨v0, vs0, d0, ds0, p0, q0, hargs, rfl, rfl, r0, t0⟩ := trodAll_cons hA
  obtain ⟨v1, vs1, d1, ds1, p1, q1, rfl, rfl, rfl, r1, t1⟩ := trodAll_cons t0
  obtain ⟨v2, vs2, d2, ds2, p2, q2, rfl, rfl, rfl, r2, t2⟩ := trodAll_cons t1
  obtain ⟨rfl, rfl, rfl⟩ := trodAll_nil t2
  obtain rfl : args = #[v0, v1, v2] := by cases args; simp_all
  obtain ⟨rfl, rfl⟩ := trodVars_none hV
  obtain ⟨s0, y0, k0⟩ := open_strs_arg (hval 0 35 v0 rfl rfl) r0
  obtain ⟨n1, rfl, rfl, rfl, w1⟩ := open_int Try.underlying3 (hval 1 3 v1 rfl rfl) r1
  obtain ⟨b2, rfl, rfl, rfl⟩ := open_bool Try.underlying4 (hval 2 4 v2 rfl rfl) r2
  clear hA0 hval0
  simp only [List.append_nil] at hW'
  refine (walk v0 s0 n1 (int_wf w1).1 (int_wf w1).2 b2 W y0 E).mono fun e W' ⟨he, hb⟩ => ?_
  subst he
  obtain ⟨pa0, z0⟩ := k0 W' hb
  exact ⟨_, rfl, told hW' (fun _ _ _ => trodAll_cons_mk (shut_bool Try.underlying4 _) trodAll_mk0) (trodAll_cons_mk (z0) (trodAll_cons_mk (shut_int Try.underlying3 w1) (trodAll_cons_mk (shut_bool Try.underlying4 b2) trodAll_mk0))) (fun _ => rfl) hb⟩

theorem over : Rows.lineBackRow.holds Try.pinned (OpenSpec.ofChange Rows.lineBackSpec) :=
  OpenClaim.holds_of_wide 5 Try.f5 rfl rfl rfl rfl rfl rfl rfl ⟨rfl, rfl, rfl, rfl, rfl⟩ rfl rfl rfl rfl rfl (by kernel_rfl) Try.func5 (by kernel_rfl)
    (of_decide_eq_true (by kernel_rfl)) (by unfold Func.isWrapper; first | (rw [if_pos (by decide +kernel)]; kernel_rfl) | (rw [if_neg (by decide +kernel)]; exact ⟨rfl, rfl⟩))
    (fun os started H enc _ => lifted os started H enc)

theorem proved : Rows.LineBackSaid :=
  over
#print axioms proved
end Go.Proofs.Ytampgoicogfccaa.lineBack
