/- Proved: for every path and two arguments (held against 300 bytes each): where two arguments lead, one behind the other, they lead as one, unless the latter begins by a stroke; an argument that does leads there from wherever. Conditions: none beyond the row's own (the library's variables start as the program's text lays them: the card ties them). -/
import Derived.Test.YtajdlaijdgfhhaaDoorPathAwake
import Derived.BigQuiet
import Derived.Deep.QuietTactic

namespace Go.Proofs.YtajdlaijdgfhhaaDoor.pathTwice
open Go.Proofs.YtajdlaijdgfhhaaDoor Go.Proofs.YtajdlaijdgfhhaaDoor.Pt Go.Proofs.YtajdlaijdgfhhaaDoor.Cm Go.Proofs.YtajdlaijdgfhhaaDoor.Quad
open Go.ChangeShapes Go.WideShapes Go.ChangeAt Go.RowKit Go.Sort Go.ChangeMaps

set_option linter.unusedVariables false in
set_option maxHeartbeats 2000000 in
set_option maxRecDepth 100000 in
theorem walk (s0 : List UInt8) (z0 : s0.length ≤ 9223372036854775807) (s1 : List UInt8) (z1 : s1.length ≤ 9223372036854775807) (s2 : List UInt8) (z2 : s2.length ≤ 9223372036854775807) (w : World)  (E : Env w) :
    Calls Tryd.prog 7 #[str s0, str s1, str s2] w fun e w' => e = .returned (.bool true) ∧ Below w.heap.size w w' := by
  have AWK := Lib.hid (fun W EW => awake_any W EW)
  have B0 := Lib.hid (Below.refl w.heap.size w)
  by_cases q0 : 300 < s0.length
  · have g0 : (300 : Int) < (s0.length : Int) := by omega
    go_enter Tryd.func7, Tryd.ntmps7
    go_wp2_with (first
        | (go_at_call 10; refine (AWK.out _ (E.below (B0.out))).mono ?_; rintro e w1 ⟨rfl, b1⟩; have B1 := Lib.hid (B0.out.trans (b1.mono B0.out.size)); clear AWK))
    all_goals (go_ret; exact ⟨by first | rfl | (simp; done) | (simp; omega), B1.out⟩)
  have g0 : ¬ (300 : Int) < (s0.length : Int) := by omega
  by_cases q1 : 300 < s1.length
  · have g1 : (300 : Int) < (s1.length : Int) := by omega
    go_enter Tryd.func7, Tryd.ntmps7
    go_wp2_with (first
        | (go_at_call 10; refine (AWK.out _ (E.below (B0.out))).mono ?_; rintro e w1 ⟨rfl, b1⟩; have B1 := Lib.hid (B0.out.trans (b1.mono B0.out.size)); clear AWK))
    all_goals (go_ret; exact ⟨by first | rfl | (simp; done) | (simp; omega), B1.out⟩)
  have g1 : ¬ (300 : Int) < (s1.length : Int) := by omega
  by_cases q2 : 300 < s2.length
  · have g2 : (300 : Int) < (s2.length : Int) := by omega
    go_enter Tryd.func7, Tryd.ntmps7
    go_wp2_with (first
        | (go_at_call 10; refine (AWK.out _ (E.below (B0.out))).mono ?_; rintro e w1 ⟨rfl, b1⟩; have B1 := Lib.hid (B0.out.trans (b1.mono B0.out.size)); clear AWK))
    all_goals (go_ret; exact ⟨by first | rfl | (simp; done) | (simp; omega), B1.out⟩)
  have g2 : ¬ (300 : Int) < (s2.length : Int) := by omega
  by_cases hz : (join s0 s1).2 = 0
  case neg =>
    obtain ⟨n, hn⟩ : ∃ n, n = (join s0 s1).2 := ⟨_, rfl⟩
    have hJ1 : join s0 s1 = ([], n) := Prod.ext (join_err hz) hn.symm
    have hJ2 : join [] s2 = ([], 1) := join_arg rfl
    have gn : (n != 0) = true := by rw [bne_iff_ne, hn]; exact hz
    have H1 := Lib.hid (fun W EW => join_at (s0) (s1) (by omega) (by omega) ([]) (n) hJ1 W EW)
    have H2 := Lib.hid (fun W EW => join_at ([]) (s2) (by decide) (by omega) ([]) (1) hJ2 W EW)
    clear hJ1 hJ2 hn hz
    go_enter Tryd.func7, Tryd.ntmps7
    go_wp2_with (first
        | (go_at_call 10; refine (AWK.out _ (E.below (B0.out))).mono ?_; rintro e w1 ⟨rfl, b1⟩; have B1 := Lib.hid (B0.out.trans (b1.mono B0.out.size)); clear AWK)
        | (go_at_call 12; refine (H1.out _ (E.below (B1.out))).mono ?_; rintro e w2 ⟨rfl, b2⟩; have B2 := Lib.hid (B1.out.trans (b2.mono B1.out.size)); clear H1)
        | (go_at_call 12; refine (H2.out _ (E.below (B2.out))).mono ?_; rintro e w3 ⟨rfl, b3⟩; have B3 := Lib.hid (B2.out.trans (b3.mono B2.out.size)); clear H2))
    all_goals (go_ret; exact ⟨by first | rfl | (simp; done) | (simp; omega), B3.out⟩)
  case pos =>
    obtain ⟨x, hx⟩ : ∃ x, x = (join s0 s1).1 := ⟨_, rfl⟩
    have hJ1 : join s0 s1 = (x, 0) := Prod.ext hx.symm hz
    have hxl : x.length ≤ 200 := by rw [hx]; exact join_lt _ _
    by_cases hz2 : (join x s2).2 = 0
    case neg =>
      obtain ⟨n, hn⟩ : ∃ n, n = (join x s2).2 := ⟨_, rfl⟩
      have hJ2 : join x s2 = ([], n) := Prod.ext (join_err hz2) hn.symm
      have gn : (n != 0) = true := by rw [bne_iff_ne, hn]; exact hz2
      have H1 := Lib.hid (fun W EW => join_at (s0) (s1) (by omega) (by omega) (x) (0) hJ1 W EW)
      have H2 := Lib.hid (fun W EW => join_at (x) (s2) (by omega) (by omega) ([]) (n) hJ2 W EW)
      clear hJ1 hJ2 hn hz hz2 hx
      go_enter Tryd.func7, Tryd.ntmps7
      go_wp2_with (first
          | (go_at_call 10; refine (AWK.out _ (E.below (B0.out))).mono ?_; rintro e w1 ⟨rfl, b1⟩; have B1 := Lib.hid (B0.out.trans (b1.mono B0.out.size)); clear AWK)
          | (go_at_call 12; refine (H1.out _ (E.below (B1.out))).mono ?_; rintro e w2 ⟨rfl, b2⟩; have B2 := Lib.hid (B1.out.trans (b2.mono B1.out.size)); clear H1)
          | (go_at_call 12; refine (H2.out _ (E.below (B2.out))).mono ?_; rintro e w3 ⟨rfl, b3⟩; have B3 := Lib.hid (B2.out.trans (b3.mono B2.out.size)); clear H2))
      all_goals (go_ret; exact ⟨by first | rfl | (simp; done) | (simp; omega), B3.out⟩)
    case pos =>
      obtain ⟨y, hy⟩ : ∃ y, y = (join x s2).1 := ⟨_, rfl⟩
      have hJ2 : join x s2 = (y, 0) := Prod.ext hy.symm hz2
      by_cases ge : s2.length = 0
      case pos =>
        have g0 : ¬ (0 : Int) < (s2.length : Int) := by omega
        have hsl : slash s2 = false := by rw [List.length_eq_zero_iff.1 ge]; rfl
        obtain ⟨q1, hq1⟩ : ∃ q, q = s1 ++ [(47 : UInt8)] := ⟨_, rfl⟩
        obtain ⟨q, hq⟩ : ∃ q, q = s1 ++ (47 : UInt8) :: s2 := ⟨_, rfl⟩
        have hx1 : ByteArray.mk s1.toArray ++ ByteArray.mk #[47] = ⟨q1.toArray⟩ := by rw [hq1]; apply ByteArray.ext; simp [ByteArray.data_append]
        have hx2 : ByteArray.mk q1.toArray ++ ByteArray.mk s2.toArray = ⟨q.toArray⟩ := by rw [hq1, hq]; apply ByteArray.ext; simp [ByteArray.data_append]
        have hql : q.length ≤ 601 := by rw [hq, List.length_append, List.length_cons]; omega
        have n0 : ¬ 9223372036854775807 < s1.length + 1 := by omega
        have n1 : ¬ 9223372036854775807 < q1.length + s2.length := by rw [hq1, List.length_append]; simp <;> omega
        cases he : (s1 == []) with
        | true =>
          have e1 : s1 = [] := beq_iff_eq.1 he
          have ex : x = s0 := by rw [hx, e1]; rw [e1] at hz; exact twice_none hz
          have hT : join s0 s2 = (y, 0) := by rw [← ex]; exact hJ2
          have H1 := Lib.hid (fun W EW => join_at (s0) (s1) (by omega) (by omega) (x) (0) hJ1 W EW)
          have H2 := Lib.hid (fun W EW => join_at (x) (s2) (by omega) (by omega) (y) (0) hJ2 W EW)
          have H3 := Lib.hid (fun W EW => join_at (s0) (s2) (by omega) (by omega) (y) (0) hT W EW)
          clear hJ1 hJ2 hT ex e1 hx hz hz2 hq hq1 hy
          go_enter Tryd.func7, Tryd.ntmps7
          go_wp2_with (first
              | (go_at_call 10; refine (AWK.out _ (E.below (B0.out))).mono ?_; rintro e w1 ⟨rfl, b1⟩; have B1 := Lib.hid (B0.out.trans (b1.mono B0.out.size)); clear AWK)
              | (go_at_call 12; refine (H1.out _ (E.below (B1.out))).mono ?_; rintro e w2 ⟨rfl, b2⟩; have B2 := Lib.hid (B1.out.trans (b2.mono B1.out.size)); clear H1)
              | (go_at_call 12; refine (H2.out _ (E.below (B2.out))).mono ?_; rintro e w3 ⟨rfl, b3⟩; have B3 := Lib.hid (B2.out.trans (b3.mono B2.out.size)); clear H2)
              | (go_at_call 12; refine (H3.out _ (E.below (B3.out))).mono ?_; rintro e w4 ⟨rfl, b4⟩; have B4 := Lib.hid (B3.out.trans (b4.mono B3.out.size)); clear H3))
          all_goals (go_ret; exact ⟨by first | rfl | (simp; done) | (simp; omega), B4.out⟩)
        | false =>
          have hT : join s0 q = (y, 0) := by
            rw [hq, twice_more (beq_eq_false_iff_ne.1 he) hsl hz (by rw [← hx]; exact hz2), ← hx]; exact hJ2
          have H1 := Lib.hid (fun W EW => join_at (s0) (s1) (by omega) (by omega) (x) (0) hJ1 W EW)
          have H2 := Lib.hid (fun W EW => join_at (x) (s2) (by omega) (by omega) (y) (0) hJ2 W EW)
          have H3 := Lib.hid (fun W EW => join_at (s0) (q) (by omega) (by omega) (y) (0) hT W EW)
          clear hJ1 hJ2 hT hx hz hz2 hq hq1 hy
          go_enter Tryd.func7, Tryd.ntmps7
          go_wp2_with (first
              | (go_at_call 10; refine (AWK.out _ (E.below (B0.out))).mono ?_; rintro e w1 ⟨rfl, b1⟩; have B1 := Lib.hid (B0.out.trans (b1.mono B0.out.size)); clear AWK)
              | (go_at_call 12; refine (H1.out _ (E.below (B1.out))).mono ?_; rintro e w2 ⟨rfl, b2⟩; have B2 := Lib.hid (B1.out.trans (b2.mono B1.out.size)); clear H1)
              | (go_at_call 12; refine (H2.out _ (E.below (B2.out))).mono ?_; rintro e w3 ⟨rfl, b3⟩; have B3 := Lib.hid (B2.out.trans (b3.mono B2.out.size)); clear H2)
              | (go_at_call 12; refine (H3.out _ (E.below (B3.out))).mono ?_; rintro e w4 ⟨rfl, b4⟩; have B4 := Lib.hid (B3.out.trans (b4.mono B3.out.size)); clear H3))
          all_goals (go_ret; exact ⟨by first | rfl | (simp; done) | (simp; omega), B4.out⟩)
      case neg =>
        have gp : 0 < s2.length := by omega
        have hsz : 0 < (ByteArray.mk s2.toArray).size := by simpa [ByteArray.size] using gp
        obtain ⟨ch, hcx⟩ : ∃ c : UInt8, (ByteArray.mk s2.toArray)[0]'hsz = c := ⟨_, rfl⟩
        have hc0 : s2[0]'gp = ch := hcx
        have g0 : (0 : Int) < (s2.length : Int) := by omega
        have hsh : slash s2 = (ch == 47) := by
          unfold slash
          rw [List.head?_eq_getElem?, List.getElem?_eq_getElem gp, hc0]; rfl
        cases hsl : slash s2 with
        | true =>
          have g4 : ((ch.toNat : Int) == 47) = true := by rw [hsl] at hsh; have h := (beq_iff_eq.1 hsh.symm); subst h; rfl
          have hT : join [47] s2 = (y, 0) := by rw [twice_slash hsl hz2]; exact hJ2
          have H1 := Lib.hid (fun W EW => join_at (s0) (s1) (by omega) (by omega) (x) (0) hJ1 W EW)
          have H2 := Lib.hid (fun W EW => join_at (x) (s2) (by omega) (by omega) (y) (0) hJ2 W EW)
          have H3 := Lib.hid (fun W EW => join_at ([47]) (s2) (by decide) (by omega) (y) (0) hT W EW)
          clear hJ1 hJ2 hT hx hz hz2 hy hsh hsl hc0 ge
          go_enter Tryd.func7, Tryd.ntmps7
          go_wp2_with (first
              | (go_at_call 10; refine (AWK.out _ (E.below (B0.out))).mono ?_; rintro e w1 ⟨rfl, b1⟩; have B1 := Lib.hid (B0.out.trans (b1.mono B0.out.size)); clear AWK)
              | (go_at_call 12; refine (H1.out _ (E.below (B1.out))).mono ?_; rintro e w2 ⟨rfl, b2⟩; have B2 := Lib.hid (B1.out.trans (b2.mono B1.out.size)); clear H1)
              | (go_at_call 12; refine (H2.out _ (E.below (B2.out))).mono ?_; rintro e w3 ⟨rfl, b3⟩; have B3 := Lib.hid (B2.out.trans (b3.mono B2.out.size)); clear H2)
              | (go_at_call 12; refine (H3.out _ (E.below (B3.out))).mono ?_; rintro e w4 ⟨rfl, b4⟩; have B4 := Lib.hid (B3.out.trans (b4.mono B3.out.size)); clear H3))
          all_goals (go_ret; exact ⟨by first | rfl | (simp; done) | (simp; omega), B4.out⟩)
        | false =>
          have g4 : ((ch.toNat : Int) == 47) = false := by
            rw [hsl] at hsh
            rw [beq_eq_false_iff_ne]
            intro e
            exact (beq_eq_false_iff_ne.1 hsh.symm) (UInt8.toNat.inj (by show ch.toNat = 47; omega))
          clear hsh hc0 ge
          obtain ⟨q1, hq1⟩ : ∃ q, q = s1 ++ [(47 : UInt8)] := ⟨_, rfl⟩
          obtain ⟨q, hq⟩ : ∃ q, q = s1 ++ (47 : UInt8) :: s2 := ⟨_, rfl⟩
          have hx1 : ByteArray.mk s1.toArray ++ ByteArray.mk #[47] = ⟨q1.toArray⟩ := by rw [hq1]; apply ByteArray.ext; simp [ByteArray.data_append]
          have hx2 : ByteArray.mk q1.toArray ++ ByteArray.mk s2.toArray = ⟨q.toArray⟩ := by rw [hq1, hq]; apply ByteArray.ext; simp [ByteArray.data_append]
          have hql : q.length ≤ 601 := by rw [hq, List.length_append, List.length_cons]; omega
          have n0 : ¬ 9223372036854775807 < s1.length + 1 := by omega
          have n1 : ¬ 9223372036854775807 < q1.length + s2.length := by rw [hq1, List.length_append]; simp <;> omega
          cases he : (s1 == []) with
          | true =>
            have e1 : s1 = [] := beq_iff_eq.1 he
            have ex : x = s0 := by rw [hx, e1]; rw [e1] at hz; exact twice_none hz
            have hT : join s0 s2 = (y, 0) := by rw [← ex]; exact hJ2
            have H1 := Lib.hid (fun W EW => join_at (s0) (s1) (by omega) (by omega) (x) (0) hJ1 W EW)
            have H2 := Lib.hid (fun W EW => join_at (x) (s2) (by omega) (by omega) (y) (0) hJ2 W EW)
            have H3 := Lib.hid (fun W EW => join_at (s0) (s2) (by omega) (by omega) (y) (0) hT W EW)
            clear hJ1 hJ2 hT ex e1 hx hz hz2 hq hq1 hy
            go_enter Tryd.func7, Tryd.ntmps7
            go_wp2_with (first
                | (go_at_call 10; refine (AWK.out _ (E.below (B0.out))).mono ?_; rintro e w1 ⟨rfl, b1⟩; have B1 := Lib.hid (B0.out.trans (b1.mono B0.out.size)); clear AWK)
                | (go_at_call 12; refine (H1.out _ (E.below (B1.out))).mono ?_; rintro e w2 ⟨rfl, b2⟩; have B2 := Lib.hid (B1.out.trans (b2.mono B1.out.size)); clear H1)
                | (go_at_call 12; refine (H2.out _ (E.below (B2.out))).mono ?_; rintro e w3 ⟨rfl, b3⟩; have B3 := Lib.hid (B2.out.trans (b3.mono B2.out.size)); clear H2)
                | (go_at_call 12; refine (H3.out _ (E.below (B3.out))).mono ?_; rintro e w4 ⟨rfl, b4⟩; have B4 := Lib.hid (B3.out.trans (b4.mono B3.out.size)); clear H3))
            all_goals (go_ret; exact ⟨by first | rfl | (simp; done) | (simp; omega), B4.out⟩)
          | false =>
            have hT : join s0 q = (y, 0) := by
              rw [hq, twice_more (beq_eq_false_iff_ne.1 he) hsl hz (by rw [← hx]; exact hz2), ← hx]; exact hJ2
            have H1 := Lib.hid (fun W EW => join_at (s0) (s1) (by omega) (by omega) (x) (0) hJ1 W EW)
            have H2 := Lib.hid (fun W EW => join_at (x) (s2) (by omega) (by omega) (y) (0) hJ2 W EW)
            have H3 := Lib.hid (fun W EW => join_at (s0) (q) (by omega) (by omega) (y) (0) hT W EW)
            clear hJ1 hJ2 hT hx hz hz2 hq hq1 hy
            go_enter Tryd.func7, Tryd.ntmps7
            go_wp2_with (first
                | (go_at_call 10; refine (AWK.out _ (E.below (B0.out))).mono ?_; rintro e w1 ⟨rfl, b1⟩; have B1 := Lib.hid (B0.out.trans (b1.mono B0.out.size)); clear AWK)
                | (go_at_call 12; refine (H1.out _ (E.below (B1.out))).mono ?_; rintro e w2 ⟨rfl, b2⟩; have B2 := Lib.hid (B1.out.trans (b2.mono B1.out.size)); clear H1)
                | (go_at_call 12; refine (H2.out _ (E.below (B2.out))).mono ?_; rintro e w3 ⟨rfl, b3⟩; have B3 := Lib.hid (B2.out.trans (b3.mono B2.out.size)); clear H2)
                | (go_at_call 12; refine (H3.out _ (E.below (B3.out))).mono ?_; rintro e w4 ⟨rfl, b4⟩; have B4 := Lib.hid (B3.out.trans (b4.mono B3.out.size)); clear H3))
            all_goals (go_ret; exact ⟨by first | rfl | (simp; done) | (simp; omega), B4.out⟩)

set_option maxRecDepth 100000 in
theorem lifted (os : Os) (started : os.Started) (H : Type) (enc : TypeId × Value → H) :
    ReturnsInHanded {} Tryd.checked os 7 .any (fun w args => (Rows.pathTwiceSpec.pre enc Tryd.prog Tryd.f7 [] false w args ∧ laidMetH Tryd.prog laidHere w) ∧ sizedMet enc Tryd.prog Tryd.f7 (OpenSpec.ofChange Rows.pathTwiceSpec) false w args)
      (Rows.pathTwiceSpec.post enc Tryd.prog Tryd.f7 false true false false) := by
  refine handed started (by kernel_rfl) Tryd.func7 #[.string ⟨#[]⟩, .string ⟨#[]⟩, .string ⟨#[]⟩] (by kernel_rfl) (by kernel_rfl) (by kernel_rfl) (World.shaped_of_ZipB (by kernel_rfl) (by kernel_rfl))
    (by unfold laidHere; rw [MakeChecks.laidMetH_plain _ _ _ (by kernel_rfl)]; exact laidMet_laidAll _ (by kernel_rfl) (by kernel_rfl)) ?_
  intro W base args ds gs before hval0 hW E
  have hval : ∀ (j : Nat) t v, Tryd.f7.params[j]? = some t → args[j]? = some v → Value.okWide Tryd.prog W .any base t v := hval0
  have hW' := hW
  obtain ⟨p, q, hA0, hV, rfl, _, _⟩ := hW
  have hA : DataW.TrodAll enc Tryd.prog W 0 (fun _ => true) true Tryd.f7.params.toList args.toList ds p := hA0
  rw [Tryd.params7] at hA hval
  obtain ⟨v0, vs0, d0, ds0, p0, q0, hargs, rfl, rfl, r0, t0⟩ := trodAll_cons hA
  obtain ⟨v1, vs1, d1, ds1, p1, q1, rfl, rfl, rfl, r1, t1⟩ := trodAll_cons t0
  obtain ⟨v2, vs2, d2, ds2, p2, q2, rfl, rfl, rfl, r2, t2⟩ := trodAll_cons t1
  obtain ⟨rfl, rfl, rfl⟩ := trodAll_nil t2
  obtain rfl : args = #[v0, v1, v2] := by cases args; simp_all
  obtain ⟨rfl, rfl⟩ := trodVars_none hV
  obtain ⟨x0, rfl, rfl, rfl, w0⟩ := open_string Tryd.underlying9 (hval 0 9 v0 rfl rfl) r0
  obtain ⟨s0, rfl⟩ : ∃ l : List UInt8, x0 = ⟨l.toArray⟩ := ⟨x0.data.toList, by simp⟩
  obtain ⟨x1, rfl, rfl, rfl, w1⟩ := open_string Tryd.underlying9 (hval 1 9 v1 rfl rfl) r1
  obtain ⟨s1, rfl⟩ : ∃ l : List UInt8, x1 = ⟨l.toArray⟩ := ⟨x1.data.toList, by simp⟩
  obtain ⟨x2, rfl, rfl, rfl, w2⟩ := open_string Tryd.underlying9 (hval 2 9 v2 rfl rfl) r2
  obtain ⟨s2, rfl⟩ : ∃ l : List UInt8, x2 = ⟨l.toArray⟩ := ⟨x2.data.toList, by simp⟩
  clear hA0 hval0
  simp only [List.append_nil] at hW'
  refine (walk s0 (by have := w0; rw [size_mk] at this; unfold maxLen at this; exact this) s1 (by have := w1; rw [size_mk] at this; unfold maxLen at this; exact this) s2 (by have := w2; rw [size_mk] at this; unfold maxLen at this; exact this) W  E).mono fun e W' ⟨he, hb⟩ => ?_
  subst he
  exact ⟨_, rfl, told hW' (fun _ _ _ => trodAll_cons_mk (shut_bool Tryd.underlying4 _) trodAll_mk0) (trodAll_cons_mk (shut_string Tryd.underlying9 w0) (trodAll_cons_mk (shut_string Tryd.underlying9 w1) (trodAll_cons_mk (shut_string Tryd.underlying9 w2) trodAll_mk0))) (fun _ => rfl) hb⟩

theorem over : Rows.PathTwiceSaid :=
  OpenClaim.holds_of_wide 7 Tryd.f7 rfl rfl rfl rfl rfl rfl rfl ⟨rfl, rfl, rfl, rfl, rfl⟩ rfl rfl rfl rfl rfl (by kernel_rfl) Tryd.func7 (by kernel_rfl)
    (of_decide_eq_true (by kernel_rfl)) (by unfold Func.isWrapper; first | (rw [if_pos (by decide +kernel)]; kernel_rfl) | (rw [if_neg (by decide +kernel)]; exact ⟨rfl, rfl⟩))
    (fun os started H enc _ => lifted os started H enc)

theorem proved : Rows.PathTwiceCardSaid :=
  Claim7.holds_tied_plain_at .later [] Rows.pathTwiceCard.laidKinds true Rows.pathTwiceCard.stood.harness Rows.pathTwiceCard.stood.looks
    over (fun _ h => by cases h) (by kernel_rfl) (fun _ h => by cases h) pathTwice_row_tie rfl ⟨rfl, rfl⟩ (by kernel_rfl) rfl
    (fun f fn hf hfn => by
      obtain rfl : f = 7 := Option.some.inj ((show Tryd.prog.funcNamed "wharfinger/wharfingerlaw10.PathTwice" = some 7 by kernel_rfl).symm.trans hf) |>.symm
      obtain rfl : fn = Tryd.f7 := (Option.some.inj (Tryd.func7.symm.trans hfn)).symm
      exact ⟨by kernel_rfl, fun j t ht => by
        rw [Tryd.params7] at ht
        have hm : t ∈ [9, 9, 9] := by simpa using Array.mem_of_getElem? ht
        have hall : ([9, 9, 9].all fun u => !Tryd.prog.wantsStandIn u) = true := by kernel_rfl
        exact (show Tryd.prog.wantsStandIn t = false by simpa using List.all_eq_true.1 hall t hm)⟩)
    (by kernel_rfl)
#print axioms proved
end Go.Proofs.YtajdlaijdgfhhaaDoor.pathTwice
