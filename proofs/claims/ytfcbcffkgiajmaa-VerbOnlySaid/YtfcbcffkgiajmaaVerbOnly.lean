/- Proved: for every number and every byte the law VerbOnly of layer 7 answers true. Conditions: none beyond the row's own (the library's variables start as the program's text lays them: the card ties them). -/
import Derived.Test.YtfcbcffkgiajmaaVerbAwake
import Derived.BigQuiet
import Derived.Deep.QuietTactic
import Derived.Deep.RegionHeld

namespace Go.Proofs.Ytfcbcffkgiajmaa.verbOnly
open Go.Proofs.Ytfcbcffkgiajmaa Go.Proofs.Ytfcbcffkgiajmaa.Vb Go.Proofs.Ytfcbcffkgiajmaa
open Go.ChangeShapes Go.WideShapes Go.ChangeAt Go.RowKit Go.Sort Go.ChangeMaps

set_option linter.unusedVariables false in
set_option maxHeartbeats 8000000 in
set_option maxRecDepth 100000 in
theorem walk (n0 : Int) (l0 : -9223372036854775808 ≤ n0) (h0 : n0 ≤ 9223372036854775807) (n1 : Int) (l1 : 0 ≤ n1) (h1 : n1 ≤ 255) (w : World)  (E : Env w) :
    Calls Try.prog 6 #[.int .i64 n0, .int .u8 n1] w fun e w' => e = .returned (.bool true) ∧ Below w.heap.size w w' := by
  have HA := Lib.hid (fun W => all_any W)
  by_cases hneg : n0 < 0
  · go_enter Try.func6, Try.ntmps6
    go_wp2_with (first | (go_at_call 8; refine (awake_any _).mono ?_; rintro e w1 ⟨rfl, b1⟩; have B1 := Lib.hid b1; clear b1) | (go_at_call 11; refine (HA.out _).mono ?_; rintro e w2 ⟨p2, c2, rfl, h2, b2⟩; have B2 := Lib.hid (below_then B1.out b2); have V2 := Lib.hid h2; clear b2 h2))
    all_goals (go_ret; exact ⟨by first | rfl | simp, B2.out⟩)
  by_cases hover : 36 ≤ n0
  · go_enter Try.func6, Try.ntmps6
    go_wp2_with (first | (go_at_call 8; refine (awake_any _).mono ?_; rintro e w1 ⟨rfl, b1⟩; have B1 := Lib.hid b1; clear b1) | (go_at_call 11; refine (HA.out _).mono ?_; rintro e w2 ⟨p2, c2, rfl, h2, b2⟩; have B2 := Lib.hid (below_then B1.out b2); have V2 := Lib.hid h2; clear b2 h2))
    all_goals (go_ret; exact ⟨by first | rfl | simp, B2.out⟩)
  obtain ⟨cu, rfl⟩ : ∃ cu : UInt8, n1 = (cu.toNat : Int) := ⟨UInt8.ofNat n1.toNat, by rw [UInt8.toNat_ofNat_of_lt' (by show n1.toNat < 256; omega)]; omega⟩
  obtain ⟨k, rfl⟩ : ∃ k : Nat, n0 = (k : Int) := ⟨n0.toNat, by omega⟩
  have hk : k < verbs.length := by rw [verbs_len]; omega
  have hki : (k : Int) < 36 := by omega
  obtain ⟨vn, hv⟩ : ∃ vn, verbs[k].name = vn := ⟨_, rfl⟩
  have hlen : vn.length = 3 ∨ vn.length = 4 := by rw [← hv]; exact len_each verbs[k] (List.getElem_mem hk)
  have hupn : upper vn = vn := by rw [← hv]; exact up_each verbs[k] (List.getElem_mem hk)
  have HV := Lib.hid hv
  clear hv
  have HU := Lib.hid (fun W => upper_any (vn ++ [cu]) (by simp; omega) W)
  have hmu : upper (upper (vn ++ [cu])) = upper (vn ++ [cu]) := upper_upper _
  have hml : (upper (vn ++ [cu])).length ≤ 100 := by rw [upper_length]; simp; omega
  have hcat : (ByteArray.mk vn.toArray ++ ByteArray.mk #[cu]) = ⟨(vn ++ [cu]).toArray⟩ := cat_one vn cu
  generalize upper (vn ++ [cu]) = mo at HU hmu hml
  have HF := Lib.hid (fun W => find_any mo (by omega) W)
  have hn1 : (found mo).2 = true → (found mo).1.name = mo := fun h => found_name hmu h
  generalize found mo = F at HF hn1
  obtain ⟨⟨an, ak, aa, ap⟩, is⟩ := F
  simp only at HF hn1
  have hpre : upper (vn.take (vn.length - 1)) = vn.take (vn.length - 1) := by rw [upper_take, hupn]
  have hsl : ∀ W, (Instr.slice 9 (.string ⟨vn.toArray⟩) none (some (.int .i64 ((vn.length : Int) - 1))) none).run Try.prog W = .ok (.string ⟨(vn.take (vn.length - 1)).toArray⟩) W := fun W => by
    rw [run_slice_string_h W _ _ Try.underlying9 .i64 _ (by omega) (by show (vn.length : Int) - 1 ≤ ((vn.toArray.size : Nat) : Int); simp; omega)]
    congr 2
    apply ByteArray.ext
    rw [show ((vn.length : Int) - 1).toNat = vn.length - 1 from by omega]
    simp [ByteArray.data_extract, List.dropLast_eq_take]
  have hpl : (vn.take (vn.length - 1)).length ≤ 100 := by rw [List.length_take]; omega
  generalize vn.take (vn.length - 1) = pr at hsl hpre hpl
  have HG := Lib.hid (fun W => find_any pr (by omega) W)
  have hn2 : (found pr).2 = true → (found pr).1.name = pr := fun h => found_name hpre h
  generalize found pr = G at HG hn2
  obtain ⟨⟨bn, bk, ba, bp⟩, was⟩ := G
  simp only at HG hn2
  have HN1 := Lib.hid hn1
  have HN2 := Lib.hid hn2
  have g2 : (2 : Int) ≤ (vn.length : Int) - 1 := by omega
  have g3 : (vn.length : Int) - 1 ≤ 3 := by omega
  have HCAT := Lib.hid hcat
  clear hn1 hn2 hmu hml hpre hpl hupn hcat hneg hover
  go_enter Try.func6, Try.ntmps6
  go_wp2_with (first
    | (go_at_call 8; refine (awake_any _).mono ?_; rintro e w1 ⟨rfl, b1⟩; have B1 := Lib.hid b1; clear b1)
    | (go_at_call 11; refine (HA.out _).mono ?_; rintro e w2 ⟨p2, c2, rfl, h2, b2⟩; have B2 := Lib.hid (below_then B1.out b2); obtain ⟨b, o, rfl, hb, hcell⟩ := verbs_open h2; have q0 := (hcell k hk).1; rw [HV.out] at q0; clear b2 h2 hcell B1))
  have hcv := str_of_bytes (bytes_new w2.drew [cu] (by show 1 ≤ maxLen; decide))
  have hcv1 : (convert 31 9 (.slice (some ⟨w2.heap.size, 0, none⟩) 1 1)).run Try.prog (w2.drew.alloc (.cells #[.int .u8 (cu.toNat : Int)] 5)) = .ok (.string ⟨#[cu]⟩) (w2.drew.alloc (.cells #[.int .u8 (cu.toNat : Int)] 5)) := hcv
  have hcv2 : (convert 31 9 (.slice (some ⟨w2.heap.size, 0, none⟩) 1 1)).run Try.prog (w2.alloc (.cells #[.int .u8 (cu.toNat : Int)] 5)).drew = .ok (.string ⟨#[cu]⟩) (w2.alloc (.cells #[.int .u8 (cu.toNat : Int)] 5)).drew := hcv
  clear hcv
  have klt := hb
  go_region_held (fun w' => w'.cell? ⟨b, o + k * 4, none⟩ = some (.string ⟨vn.toArray⟩)) (first | go_keep | exact K3)
    ((go_at_call 13; rw [HCAT.out]; refine (HU.out _).mono ?_; rintro e w3 ⟨rfl, b3⟩; have bd : Below w2.heap.size w2 w3 := (by first | exact ((Below.refl w2.heap.size w2).alloc (Nat.le_refl _) (.cells #[.int .u8 (cu.toNat : Int)] 5)).drew.trans (b3.mono (by simp)) | exact ((Below.refl w2.heap.size w2).drew.alloc (Nat.le_refl _) (.cells #[.int .u8 (cu.toNat : Int)] 5)).trans (b3.mono (by simp))); have K3 : w3.cell? ⟨b, o + k * 4, none⟩ = some (.string ⟨vn.toArray⟩) := (by rw [bd.cell (p := ⟨b, _, none⟩) hb]; exact q0); have B3 := Lib.hid (B2.out.trans (bd.mono B2.out.size)); have klt3 : b < w3.heap.size := Nat.lt_of_lt_of_le hb bd.size; clear b3 bd))
  all_goals (
    clear HU HCAT hcv1 hcv2 q0
    go_wp2_with (first
      | (go_at_call 9; refine (HF.out _).mono ?_; rintro e w4 ⟨rfl, b4⟩; have K4 : w4.cell? ⟨b, o + k * 4, none⟩ = some (.string ⟨vn.toArray⟩) := (by rw [b4.cell (p := ⟨b, _, none⟩) klt3]; exact K3); have klt4 : b < w4.heap.size := Nat.lt_of_lt_of_le klt3 b4.size; have Q4 := Lib.hid (IsRow.made w4 24 #[.string ⟨an.toArray⟩, .int .i64 ak, .int .i64 aa, .bool ap]); have B4 := Lib.hid ((B3.out.trans (b4.mono B3.out.size)).alloc (B3.out.trans (b4.mono B3.out.size)).size (.cells #[.string ⟨an.toArray⟩, .int .i64 ak, .int .i64 aa, .bool ap] 24)); clear b4 K3 klt3 B3 HF)
      | (go_at_call 9; refine (HG.out _).mono ?_; rintro e w5 ⟨rfl, b5⟩; have K5 : w5.cell? ⟨b, o + k * 4, none⟩ = some (.string ⟨vn.toArray⟩) := (by rw [b5.cell (p := ⟨b, _, none⟩) (by simp; omega)]; rw [World.cell?_alloc_past _ _ _ klt4]; exact K4); have klt5 : b < w5.heap.size := (by have := b5.size; simp at this; omega); have R := Q4.out.call b5; have j0 : w5.cell? ⟨w4.heap.size, 0, none⟩ = some (.string ⟨an.toArray⟩) := R.cell 0; have jlt := R.lt; have B5 := Lib.hid ((B4.out.trans (b5.mono B4.out.size)).alloc (B4.out.trans (b5.mono B4.out.size)).size (.cells #[.string ⟨bn.toArray⟩, .int .i64 bk, .int .i64 ba, .bool bp] 24)); clear b5 K4 klt4 B4 HG R Q4))
    have m0 : (w5.alloc (.cells #[.string ⟨bn.toArray⟩, .int .i64 bk, .int .i64 ba, .bool bp] 24)).cell? ⟨w5.heap.size, 0, none⟩ = some (.string ⟨bn.toArray⟩) := (IsRow.made w5 _ _).cell 0
    have m1 : (w5.alloc (.cells #[.string ⟨bn.toArray⟩, .int .i64 bk, .int .i64 ba, .bool bp] 24)).cell? ⟨w4.heap.size, 0, none⟩ = some (.string ⟨an.toArray⟩) := by rw [World.cell?_alloc_past _ _ _ jlt]; exact j0
    have m2 : (w5.alloc (.cells #[.string ⟨bn.toArray⟩, .int .i64 bk, .int .i64 ba, .bool bp] 24)).cell? ⟨b, o + k * 4, none⟩ = some (.string ⟨vn.toArray⟩) := by rw [World.cell?_alloc_past _ _ _ klt5]; exact K5
    have d2 : decide ((2 : Int) ≤ (vn.length : Int) - 1) = true := decide_eq_true g2
    have d3 : decide ((vn.length : Int) - 1 ≤ 3) = true := decide_eq_true g3
    generalize w5.alloc _ = w6 at B5 m0 m1 m2 ⊢
    clear j0 jlt K5 klt5
    cases is with
    | true =>
      obtain rfl : an = mo := HN1.out rfl
      have e1 : (an == an) = true := by simp
      cases was with
      | true =>
        obtain rfl : bn = pr := HN2.out rfl
        have e2 : (bn == bn) = true := by simp
        go_quiet (fail)
        go_wp2_with fail
        go_ret
        exact ⟨by first | rfl | simp, B5.out.trans ⟨rfl, rfl, rfl, Nat.le_refl _, fun _ _ => rfl⟩⟩
      | false =>
        go_quiet (fail)
        go_wp2_with fail
        go_ret
        exact ⟨by first | rfl | simp, B5.out.trans ⟨rfl, rfl, rfl, Nat.le_refl _, fun _ _ => rfl⟩⟩
    | false =>
      cases was with
      | true =>
        obtain rfl : bn = pr := HN2.out rfl
        have e2 : (bn == bn) = true := by simp
        go_quiet (fail)
        go_wp2_with fail
        go_ret
        exact ⟨by first | rfl | simp, B5.out.trans ⟨rfl, rfl, rfl, Nat.le_refl _, fun _ _ => rfl⟩⟩
      | false =>
        go_quiet (fail)
        go_wp2_with fail
        go_ret
        exact ⟨by first | rfl | simp, B5.out.trans ⟨rfl, rfl, rfl, Nat.le_refl _, fun _ _ => rfl⟩⟩)

set_option maxRecDepth 100000 in
theorem lifted (os : Os) (started : os.Started) (H : Type) (enc : TypeId × Value → H) :
    ReturnsInHanded {} Try.checked os 6 .any (Rows.verbOnlySpec.pre6 enc Try.prog Try.f6 Rows.verbOnlyRow.domain false) (Rows.verbOnlySpec.post enc Try.prog Try.f6 false true false false) := by
  refine returnsInHanded_of_change (C := Try.checked) ownKnobs started (by kernel_rfl) Try.func6
    (ChangeSpec.witness6 (enc := enc) (C := Try.checked) false ⟨#[], #[.int .i64 0, .int .u8 0], []⟩ 8 (by kernel_rfl) (by kernel_rfl) (by kernel_rfl) (by kernel_rfl)) ?_
  intro W base args ds gs before hval0 hW _ _
  have E : Env W := trivial
  have hval : ∀ (j : Nat) t v, Try.f6.params[j]? = some t → args[j]? = some v → Value.okWide Try.prog W .any base t v := hval0
  have hW' := hW
  obtain ⟨p, q, hA0, hV, rfl, _, _⟩ := hW
  have hA : DataW.TrodAll enc Try.prog W 0 (fun _ => true) true Try.f6.params.toList args.toList ds p := hA0
  rw [Try.params6] at hA hval
  obtain ⟨v0, vs0, d0, ds0, p0, q0, hargs, rfl, rfl, r0, t0⟩ := trodAll_cons hA
  obtain ⟨v1, vs1, d1, ds1, p1, q1, rfl, rfl, rfl, r1, t1⟩ := trodAll_cons t0
  obtain ⟨rfl, rfl, rfl⟩ := trodAll_nil t1
  obtain rfl : args = #[v0, v1] := by cases args; simp_all
  obtain ⟨rfl, rfl⟩ := trodVars_none hV
  obtain ⟨n0, rfl, rfl, rfl, w0⟩ := open_int Try.underlying3 (hval 0 3 v0 rfl rfl) r0
  obtain ⟨n1, rfl, rfl, rfl, w1⟩ := open_int Try.underlying5 (hval 1 5 v1 rfl rfl) r1
  clear hA0 hval0
  simp only [List.append_nil] at hW'
  refine (walk n0 (int_wf w0).1 (int_wf w0).2 n1 (byte_wf w1).1 (byte_wf w1).2 W  E).mono fun e W' ⟨he, hb⟩ => ?_
  subst he
  exact ⟨_, rfl, told hW' (fun _ _ _ => trodAll_cons_mk (shut_bool Try.underlying4 _) trodAll_mk0) (trodAll_cons_mk (shut_int Try.underlying3 w0) (trodAll_cons_mk (shut_int Try.underlying5 w1) trodAll_mk0)) (fun _ => rfl) hb⟩

theorem over : Rows.verbOnlyRow.holds Try.pinned (OpenSpec.ofChange Rows.verbOnlySpec) :=
  OpenClaim.holds_of_wide 6 Try.f6 rfl rfl rfl rfl rfl rfl rfl ⟨rfl, rfl, rfl, rfl, rfl⟩ rfl rfl rfl rfl rfl (by kernel_rfl) Try.func6 (by kernel_rfl)
    (of_decide_eq_true (by kernel_rfl)) (by unfold Func.isWrapper; first | (rw [if_pos (by decide +kernel)]; kernel_rfl) | (rw [if_neg (by decide +kernel)]; exact ⟨rfl, rfl⟩))
    (fun os started H enc _ => lifted os started H enc)

theorem proved : Rows.VerbOnlySaid :=
  over
#print axioms proved
end Go.Proofs.Ytfcbcffkgiajmaa.verbOnly
