/- Proved: for every path and argument (held against 300 bytes each): an argument without a stroke ahead, and without two dots, leads below where it began; where it leads does not hang on strokes at its end. Conditions: none beyond the row's own (the library's variables start as the program's text lays them: the card ties them). -/
import Derived.Test.YtajdlaijdgfhhaaDoorPathAwake
import Derived.BigQuiet
import Derived.Deep.QuietTactic

namespace Go.Proofs.YtajdlaijdgfhhaaDoor.pathDown
open Go.Proofs.YtajdlaijdgfhhaaDoor Go.Proofs.YtajdlaijdgfhhaaDoor.Pt Go.Proofs.YtajdlaijdgfhhaaDoor.Cm Go.Proofs.YtajdlaijdgfhhaaDoor.Quad
open Go.ChangeShapes Go.WideShapes Go.ChangeAt Go.RowKit Go.Sort Go.ChangeMaps

set_option linter.unusedVariables false in
set_option maxHeartbeats 2000000 in
set_option maxRecDepth 100000 in
theorem walk (s0 : List UInt8) (z0 : s0.length ≤ 9223372036854775807) (s1 : List UInt8) (z1 : s1.length ≤ 9223372036854775807) (w : World)  (E : Env w) :
    Calls Tryd.prog 9 #[str s0, str s1] w fun e w' => e = .returned (.bool true) ∧ Below w.heap.size w w' := by
  have AWK := Lib.hid (fun W EW => awake_any W EW)
  have B0 := Lib.hid (Below.refl w.heap.size w)
  by_cases q0 : 300 < s0.length
  · have g0 : (300 : Int) < (s0.length : Int) := by omega
    go_enter Tryd.func9, Tryd.ntmps9
    go_wp2_with (first
        | (go_at_call 10; refine (AWK.out _ (E.below (B0.out))).mono ?_; rintro e w1 ⟨rfl, b1⟩; have B1 := Lib.hid (B0.out.trans (b1.mono B0.out.size)); clear AWK))
    all_goals (go_ret; exact ⟨by first | rfl | (simp; done) | (simp; omega), B1.out⟩)
  have g0 : ¬ (300 : Int) < (s0.length : Int) := by omega
  by_cases q1 : 300 < s1.length
  · have g1 : (300 : Int) < (s1.length : Int) := by omega
    go_enter Tryd.func9, Tryd.ntmps9
    go_wp2_with (first
        | (go_at_call 10; refine (AWK.out _ (E.below (B0.out))).mono ?_; rintro e w1 ⟨rfl, b1⟩; have B1 := Lib.hid (B0.out.trans (b1.mono B0.out.size)); clear AWK))
    all_goals (go_ret; exact ⟨by first | rfl | (simp; done) | (simp; omega), B1.out⟩)
  have g1 : ¬ (300 : Int) < (s1.length : Int) := by omega
  obtain ⟨q, hq⟩ : ∃ q, q = s1 ++ [(47 : UInt8)] := ⟨_, rfl⟩
  have hx1 : ByteArray.mk s1.toArray ++ ByteArray.mk #[47] = ⟨q.toArray⟩ := by rw [hq]; apply ByteArray.ext; simp [ByteArray.data_append]
  have hql : q.length ≤ 301 := by rw [hq, List.length_append]; simp <;> omega
  have n0 : ¬ 9223372036854775807 < s1.length + 1 := by omega
  obtain ⟨x, n, hJ⟩ : ∃ x n, join s0 s1 = (x, n) := ⟨_, _, rfl⟩
  have hxl : x.length ≤ 200 := by have := join_lt s0 s1; rw [hJ] at this; exact this
  have HD : Hid ((46 : UInt8) ∉ s1 → slash s1 = false → n = 0 → under s0 x = true) := Lib.hid (fun h1 h2 h3 => by
    have := down_under (cwd := s0) h1 h2 (by rw [hJ]; exact h3)
    rw [hJ] at this; exact this)
  have HSN : Hid (s1.length = 0 → slash s1 = false) := Lib.hid (fun h => by rw [List.length_eq_zero_iff.1 h]; rfl)
  have HS0 : Hid (∀ (h : 0 < s1.length), slash s1 = (s1[0]'h == 47)) := Lib.hid (fun h => by
    unfold slash
    rw [List.head?_eq_getElem?, List.getElem?_eq_getElem h]; rfl)
  cases he : (s1 == []) with
  | true =>
    obtain ⟨t, f, hT⟩ : ∃ t f, join s0 q = (t, f) := ⟨_, _, rfl⟩
    have H1 := Lib.hid (fun W EW => join_at (s0) (s1) (by omega) (by omega) (x) (n) hJ W EW)
    have H2 := Lib.hid (fun W EW => join_at (s0) (q) (by omega) (by omega) (t) (f) hT W EW)
    clear hJ hT hq hql
    go_enter Tryd.func9, Tryd.ntmps9
    go_wp2_with (first
        | (go_at_call 10; refine (AWK.out _ (E.below (B0.out))).mono ?_; rintro e w1 ⟨rfl, b1⟩; have B1 := Lib.hid (B0.out.trans (b1.mono B0.out.size)); clear AWK)
        | (go_at_call 12; refine (H1.out _ (E.below (B1.out))).mono ?_; rintro e w2 ⟨rfl, b2⟩; have B2 := Lib.hid (B1.out.trans (b2.mono B1.out.size)); clear H1)
        | (go_at_call 12; refine (H2.out _ (E.below (B2.out))).mono ?_; rintro e w3 ⟨rfl, b3⟩; have B3 := Lib.hid (B2.out.trans (b3.mono B2.out.size)); clear H2))
    go_loopw [10] (fun x10 wr => ∃ (k : Nat), x10 = .int .i64 (k : Int) ∧ k ≤ s1.length ∧ Hid ((46 : UInt8) ∉ s1.take k) ∧ Hid (0 < k → slash s1 = false) ∧ Hid (wr = w3)) (fun i _ => s1.length - (intOf i).toNat)
    case atStart => exact ⟨0, rfl, Nat.zero_le _, Lib.hid (by simp), Lib.hid (fun h => absurd h (by omega)), by first | exact Lib.hid rfl | exact Lib.hid trivial⟩
    case round =>
      obtain ⟨k, rfl, hk, HF, HZ, HW⟩ := hrel
      obtain rfl := HW.out
      by_cases hlt : k < s1.length
      · have hsz : k < (ByteArray.mk s1.toArray).size := by simpa [ByteArray.size] using hlt
        have hji : (k : Int) < (s1.length : Int) := by omega
        have HK : Hid (k + 1 ≤ s1.length) := Lib.hid hlt
        obtain ⟨ch, hcx⟩ : ∃ c : UInt8, (ByteArray.mk s1.toArray)[k]'hsz = c := ⟨_, rfl⟩
        have hc0 : s1[k]'hlt = ch := hcx
        have HC0 := Lib.hid hc0
        cases h4 : (ch == (46 : UInt8)) with
        | true =>
          have g4 : ((ch.toNat : Int) == 46) = true := by rw [beq_iff_eq] at h4; subst h4; rfl
          clear h4 hc0
          go_wp2_with fail
          go_ret
          exact ⟨rfl, B3.out⟩
        | false =>
          have g4 : ((ch.toNat : Int) == 46) = false := by rw [beq_eq_false_iff_ne]; intro e; rw [beq_eq_false_iff_ne] at h4; exact h4 (UInt8.toNat.inj (by show ch.toNat = 46; omega))
          have HFN : Hid ((46 : UInt8) ∉ s1.take (k + 1)) := Lib.hid (by
            rw [List.take_succ_eq_append_getElem hlt, hc0]
            simp only [List.mem_append, List.mem_singleton, not_or]
            rw [beq_eq_false_iff_ne] at h4
            exact ⟨HF.out, fun e => h4 e.symm⟩)
          clear h4 hc0
          by_cases h0 : k = 0
          · have g0 : ((k : Int) == 0) = true := by rw [beq_iff_eq]; omega
            cases h5 : (ch == (47 : UInt8)) with
            | true =>
              have g5 : ((ch.toNat : Int) == 47) = true := by rw [beq_iff_eq] at h5; subst h5; rfl
              clear h5 h0
              go_wp2_with fail
              go_ret
              exact ⟨rfl, B3.out⟩
            | false =>
              have g5 : ((ch.toNat : Int) == 47) = false := by rw [beq_eq_false_iff_ne]; intro e; rw [beq_eq_false_iff_ne] at h5; exact h5 (UInt8.toNat.inj (by show ch.toNat = 47; omega))
              have HZN : Hid (0 < k + 1 → slash s1 = false) := Lib.hid (fun _ => by subst h0; rw [HS0.out hlt, HC0.out]; exact h5)
              clear h5 h0
              go_wp2_with fail
              go_roundw
              case rel => exact ⟨k + 1, by go_num, HK.out, HFN, HZN, by first | exact Lib.hid rfl | exact Lib.hid trivial⟩
              case measure => have := HK.out; simp [intOf]; omega
          · have g0 : ((k : Int) == 0) = false := by rw [beq_eq_false_iff_ne]; omega
            have HZN : Hid (0 < k + 1 → slash s1 = false) := Lib.hid (fun _ => HZ.out (by omega))
            clear h0
            go_wp2_with fail
            go_roundw
            case rel => exact ⟨k + 1, by go_num, HK.out, HFN, HZN, by first | exact Lib.hid rfl | exact Lib.hid trivial⟩
            case measure => have := HK.out; simp [intOf]; omega
      · have hji : ¬ (k : Int) < (s1.length : Int) := by omega
        have hfree : (46 : UInt8) ∉ s1 := by have h := HF.out; rw [List.take_of_length_le (by omega)] at h; exact h
        have hsl : slash s1 = false := by
          by_cases h0 : s1.length = 0
          · exact HSN.out h0
          · exact HZ.out (by omega)
        by_cases hn : n = 0
        · have gn : (n != 0) = false := by rw [hn]; rfl
          have HU6 := Lib.hid (fun W EW => under_at s0 x (by omega) (by omega) true (HD.out hfree hsl hn) W EW)
          clear hfree hsl hn HF HZ
          go_wp2_with (first
              | (go_at_call 16; refine (HU6.out _ (E.below (B3.out))).mono ?_; rintro e w4 ⟨rfl, b4⟩; have B4 := Lib.hid (B3.out.trans (b4.mono B3.out.size)); clear HU6))
          all_goals (go_ret; exact ⟨by first | rfl | (simp; done) | (simp; omega), B4.out⟩)
        · have gn : (n != 0) = true := by rw [bne_iff_ne]; exact hn
          clear hfree hsl hn HF HZ
          go_wp2_with fail
          go_ret
          exact ⟨by first | rfl | (simp; done), B3.out⟩
  | false =>
    have hT : join s0 q = (x, n) := by rw [hq, down_slash (beq_eq_false_iff_ne.1 he)]; exact hJ
    have H1 := Lib.hid (fun W EW => join_at (s0) (s1) (by omega) (by omega) (x) (n) hJ W EW)
    have H2 := Lib.hid (fun W EW => join_at (s0) (q) (by omega) (by omega) (x) (n) hT W EW)
    clear hJ hT hq hql
    go_enter Tryd.func9, Tryd.ntmps9
    go_wp2_with (first
        | (go_at_call 10; refine (AWK.out _ (E.below (B0.out))).mono ?_; rintro e w1 ⟨rfl, b1⟩; have B1 := Lib.hid (B0.out.trans (b1.mono B0.out.size)); clear AWK)
        | (go_at_call 12; refine (H1.out _ (E.below (B1.out))).mono ?_; rintro e w2 ⟨rfl, b2⟩; have B2 := Lib.hid (B1.out.trans (b2.mono B1.out.size)); clear H1)
        | (go_at_call 12; refine (H2.out _ (E.below (B2.out))).mono ?_; rintro e w3 ⟨rfl, b3⟩; have B3 := Lib.hid (B2.out.trans (b3.mono B2.out.size)); clear H2))
    go_loopw [10] (fun x10 wr => ∃ (k : Nat), x10 = .int .i64 (k : Int) ∧ k ≤ s1.length ∧ Hid ((46 : UInt8) ∉ s1.take k) ∧ Hid (0 < k → slash s1 = false) ∧ Hid (wr = w3)) (fun i _ => s1.length - (intOf i).toNat)
    case atStart => exact ⟨0, rfl, Nat.zero_le _, Lib.hid (by simp), Lib.hid (fun h => absurd h (by omega)), by first | exact Lib.hid rfl | exact Lib.hid trivial⟩
    case round =>
      obtain ⟨k, rfl, hk, HF, HZ, HW⟩ := hrel
      obtain rfl := HW.out
      by_cases hlt : k < s1.length
      · have hsz : k < (ByteArray.mk s1.toArray).size := by simpa [ByteArray.size] using hlt
        have hji : (k : Int) < (s1.length : Int) := by omega
        have HK : Hid (k + 1 ≤ s1.length) := Lib.hid hlt
        obtain ⟨ch, hcx⟩ : ∃ c : UInt8, (ByteArray.mk s1.toArray)[k]'hsz = c := ⟨_, rfl⟩
        have hc0 : s1[k]'hlt = ch := hcx
        have HC0 := Lib.hid hc0
        cases h4 : (ch == (46 : UInt8)) with
        | true =>
          have g4 : ((ch.toNat : Int) == 46) = true := by rw [beq_iff_eq] at h4; subst h4; rfl
          clear h4 hc0
          go_wp2_with fail
          go_ret
          exact ⟨rfl, B3.out⟩
        | false =>
          have g4 : ((ch.toNat : Int) == 46) = false := by rw [beq_eq_false_iff_ne]; intro e; rw [beq_eq_false_iff_ne] at h4; exact h4 (UInt8.toNat.inj (by show ch.toNat = 46; omega))
          have HFN : Hid ((46 : UInt8) ∉ s1.take (k + 1)) := Lib.hid (by
            rw [List.take_succ_eq_append_getElem hlt, hc0]
            simp only [List.mem_append, List.mem_singleton, not_or]
            rw [beq_eq_false_iff_ne] at h4
            exact ⟨HF.out, fun e => h4 e.symm⟩)
          clear h4 hc0
          by_cases h0 : k = 0
          · have g0 : ((k : Int) == 0) = true := by rw [beq_iff_eq]; omega
            cases h5 : (ch == (47 : UInt8)) with
            | true =>
              have g5 : ((ch.toNat : Int) == 47) = true := by rw [beq_iff_eq] at h5; subst h5; rfl
              clear h5 h0
              go_wp2_with fail
              go_ret
              exact ⟨rfl, B3.out⟩
            | false =>
              have g5 : ((ch.toNat : Int) == 47) = false := by rw [beq_eq_false_iff_ne]; intro e; rw [beq_eq_false_iff_ne] at h5; exact h5 (UInt8.toNat.inj (by show ch.toNat = 47; omega))
              have HZN : Hid (0 < k + 1 → slash s1 = false) := Lib.hid (fun _ => by subst h0; rw [HS0.out hlt, HC0.out]; exact h5)
              clear h5 h0
              go_wp2_with fail
              go_roundw
              case rel => exact ⟨k + 1, by go_num, HK.out, HFN, HZN, by first | exact Lib.hid rfl | exact Lib.hid trivial⟩
              case measure => have := HK.out; simp [intOf]; omega
          · have g0 : ((k : Int) == 0) = false := by rw [beq_eq_false_iff_ne]; omega
            have HZN : Hid (0 < k + 1 → slash s1 = false) := Lib.hid (fun _ => HZ.out (by omega))
            clear h0
            go_wp2_with fail
            go_roundw
            case rel => exact ⟨k + 1, by go_num, HK.out, HFN, HZN, by first | exact Lib.hid rfl | exact Lib.hid trivial⟩
            case measure => have := HK.out; simp [intOf]; omega
      · have hji : ¬ (k : Int) < (s1.length : Int) := by omega
        have hfree : (46 : UInt8) ∉ s1 := by have h := HF.out; rw [List.take_of_length_le (by omega)] at h; exact h
        have hsl : slash s1 = false := by
          by_cases h0 : s1.length = 0
          · exact HSN.out h0
          · exact HZ.out (by omega)
        by_cases hn : n = 0
        · have gn : (n != 0) = false := by rw [hn]; rfl
          have HU6 := Lib.hid (fun W EW => under_at s0 x (by omega) (by omega) true (HD.out hfree hsl hn) W EW)
          clear hfree hsl hn HF HZ
          go_wp2_with (first
              | (go_at_call 16; refine (HU6.out _ (E.below (B3.out))).mono ?_; rintro e w4 ⟨rfl, b4⟩; have B4 := Lib.hid (B3.out.trans (b4.mono B3.out.size)); clear HU6))
          all_goals (go_ret; exact ⟨by first | rfl | (simp; done) | (simp; omega), B4.out⟩)
        · have gn : (n != 0) = true := by rw [bne_iff_ne]; exact hn
          clear hfree hsl hn HF HZ
          go_wp2_with fail
          go_ret
          exact ⟨by first | rfl | (simp; done), B3.out⟩

set_option maxRecDepth 100000 in
theorem lifted (os : Os) (started : os.Started) (H : Type) (enc : TypeId × Value → H) :
    ReturnsInHanded {} Tryd.checked os 9 .any (fun w args => (Rows.pathDownSpec.pre enc Tryd.prog Tryd.f9 [] false w args ∧ laidMetH Tryd.prog laidHere w) ∧ sizedMet enc Tryd.prog Tryd.f9 (OpenSpec.ofChange Rows.pathDownSpec) false w args)
      (Rows.pathDownSpec.post enc Tryd.prog Tryd.f9 false true false false) := by
  refine handed started (by kernel_rfl) Tryd.func9 #[.string ⟨#[]⟩, .string ⟨#[]⟩] (by kernel_rfl) (by kernel_rfl) (by kernel_rfl) (World.shaped_of_ZipB (by kernel_rfl) (by kernel_rfl))
    (by unfold laidHere; rw [MakeChecks.laidMetH_plain _ _ _ (by kernel_rfl)]; exact laidMet_laidAll _ (by kernel_rfl) (by kernel_rfl)) ?_
  intro W base args ds gs before hval0 hW E
  have hval : ∀ (j : Nat) t v, Tryd.f9.params[j]? = some t → args[j]? = some v → Value.okWide Tryd.prog W .any base t v := hval0
  have hW' := hW
  obtain ⟨p, q, hA0, hV, rfl, _, _⟩ := hW
  have hA : DataW.TrodAll enc Tryd.prog W 0 (fun _ => true) true Tryd.f9.params.toList args.toList ds p := hA0
  rw [Tryd.params9] at hA hval
  obtain ⟨v0, vs0, d0, ds0, p0, q0, hargs, rfl, rfl, r0, t0⟩ := trodAll_cons hA
  obtain ⟨v1, vs1, d1, ds1, p1, q1, rfl, rfl, rfl, r1, t1⟩ := trodAll_cons t0
  obtain ⟨rfl, rfl, rfl⟩ := trodAll_nil t1
  obtain rfl : args = #[v0, v1] := by cases args; simp_all
  obtain ⟨rfl, rfl⟩ := trodVars_none hV
  obtain ⟨x0, rfl, rfl, rfl, w0⟩ := open_string Tryd.underlying9 (hval 0 9 v0 rfl rfl) r0
  obtain ⟨s0, rfl⟩ : ∃ l : List UInt8, x0 = ⟨l.toArray⟩ := ⟨x0.data.toList, by simp⟩
  obtain ⟨x1, rfl, rfl, rfl, w1⟩ := open_string Tryd.underlying9 (hval 1 9 v1 rfl rfl) r1
  obtain ⟨s1, rfl⟩ : ∃ l : List UInt8, x1 = ⟨l.toArray⟩ := ⟨x1.data.toList, by simp⟩
  clear hA0 hval0
  simp only [List.append_nil] at hW'
  refine (walk s0 (by have := w0; rw [size_mk] at this; unfold maxLen at this; exact this) s1 (by have := w1; rw [size_mk] at this; unfold maxLen at this; exact this) W  E).mono fun e W' ⟨he, hb⟩ => ?_
  subst he
  exact ⟨_, rfl, told hW' (fun _ _ _ => trodAll_cons_mk (shut_bool Tryd.underlying4 _) trodAll_mk0) (trodAll_cons_mk (shut_string Tryd.underlying9 w0) (trodAll_cons_mk (shut_string Tryd.underlying9 w1) trodAll_mk0)) (fun _ => rfl) hb⟩

theorem over : Rows.PathDownSaid :=
  OpenClaim.holds_of_wide 9 Tryd.f9 rfl rfl rfl rfl rfl rfl rfl ⟨rfl, rfl, rfl, rfl, rfl⟩ rfl rfl rfl rfl rfl (by kernel_rfl) Tryd.func9 (by kernel_rfl)
    (of_decide_eq_true (by kernel_rfl)) (by unfold Func.isWrapper; first | (rw [if_pos (by decide +kernel)]; kernel_rfl) | (rw [if_neg (by decide +kernel)]; exact ⟨rfl, rfl⟩))
    (fun os started H enc _ => lifted os started H enc)

theorem proved : Rows.PathDownCardSaid :=
  Claim7.holds_tied_plain_at .later [] Rows.pathDownCard.laidKinds true Rows.pathDownCard.stood.harness Rows.pathDownCard.stood.looks
    over (fun _ h => by cases h) (by kernel_rfl) (fun _ h => by cases h) pathDown_row_tie rfl ⟨rfl, rfl⟩ (by kernel_rfl) rfl
    (fun f fn hf hfn => by
      obtain rfl : f = 9 := Option.some.inj ((show Tryd.prog.funcNamed "wharfinger/wharfingerlaw10.PathDown" = some 9 by kernel_rfl).symm.trans hf) |>.symm
      obtain rfl : fn = Tryd.f9 := (Option.some.inj (Tryd.func9.symm.trans hfn)).symm
      exact ⟨by kernel_rfl, fun j t ht => by
        rw [Tryd.params9] at ht
        have hm : t ∈ [9, 9] := by simpa using Array.mem_of_getElem? ht
        have hall : ([9, 9].all fun u => !Tryd.prog.wantsStandIn u) = true := by kernel_rfl
        exact (show Tryd.prog.wantsStandIn t = false by simpa using List.all_eq_true.1 hall t hm)⟩)
    (by kernel_rfl)
#print axioms proved
end Go.Proofs.YtajdlaijdgfhhaaDoor.pathDown
