/- The document's answer of layer 13: whether a tenant may be, but for its ports (gen-conf-ref.py). -/
import Derived.Test.YtmodmfkcigibpaaDoorConfRef
import Derived.Test.YtmodmfkcigibpaaDoorAclRefMay
import Derived.Test.YtmodmfkcigibpaaDoorRouteRef
namespace Go.Proofs.YtmodmfkcigibpaaDoor.Co
open Go.Proofs.YtmodmfkcigibpaaDoor Go.Proofs.YtmodmfkcigibpaaDoor.Ac Go.Proofs.YtmodmfkcigibpaaDoor.Ro
open Go Go.ChangeShapes Go.WideShapes Go.ChangeAt Go.RowKit
set_option maxRecDepth 100000
set_option linter.unusedSimpArgs false
set_option linter.unusedVariables false

theorem rsat_any (n : Int) (w : World) : Calls Tryd.prog 37 #[.int .i64 n] w fun e w' => e = .returned (.bool (inB n 0 1099511627776)) ∧ Below w.heap.size w w' := by
  have HM : Hid (inB n 0 1099511627776 = (decide (0 ≤ n) && decide (n ≤ 1099511627776))) := Lib.hid rfl
  generalize inB n 0 1099511627776 = m at HM ⊢
  by_cases h1 : 0 ≤ n
  · by_cases h2 : n ≤ 1099511627776
    · have HV : Hid (m = true) := Lib.hid (by rw [HM.out, decide_eq_true h1, decide_eq_true h2]; rfl)
      go_enter Tryd.func37, Tryd.ntmps37
      go_wp2_with fail
      go_ret
      exact ⟨by rw [HV.out] <;> rfl, Below.refl _ _⟩
    · have HV : Hid (m = false) := Lib.hid (by rw [HM.out, decide_eq_true h1, decide_eq_false h2]; rfl)
      go_enter Tryd.func37, Tryd.ntmps37
      go_wp2_with fail
      go_ret
      exact ⟨by rw [HV.out] <;> rfl, Below.refl _ _⟩
  · have HV : Hid (m = false) := Lib.hid (by rw [HM.out, decide_eq_false h1]; rfl)
    go_enter Tryd.func37, Tryd.ntmps37
    go_wp2_with fail
    go_ret
    exact ⟨by rw [HV.out] <;> rfl, Below.refl _ _⟩
theorem rin_b (n lo hi : Int) (m : Bool) (h : inB n lo hi = m) (w : World) : Calls Tryd.prog 20 #[.int .i64 n, .int .i64 lo, .int .i64 hi] w fun e w' => e = .returned (.bool m) ∧ Below w.heap.size w w' := by
  subst h
  exact (rin_any n lo hi w).mono fun _ _ ⟨he, hw⟩ => ⟨he, by subst hw; exact Below.refl _ _⟩

set_option maxHeartbeats 16000000 in
theorem rtenant_any (a b c d : Int) (tv : Value) (pre life idle : Int) (lf : Bool) (l : List Tn) (hf : Few l) (i : Nat) (hi : i < l.length) (w : World) (H : TensIs w tv l) :
    Calls Tryd.prog 21 #[confV a b c d tv pre life idle lf, .int .i64 (i : Int)] w fun e w' => e = .returned (.bool (tenOk (l.take i) l[i])) ∧ Below w.heap.size w w' := by
  have hmax := H.max
  obtain ⟨p, n, cc, rfl, hn⟩ := H.form
  have HN := Lib.hid hn
  have hin : i < n := by rw [hn]; exact hi
  have hin' : (i : Int) < (n : Int) := by omega
  rw [← hn] at hmax
  obtain ⟨bb, o, rfl, hbl, hcell⟩ := H.some (by omega)
  have T0 := Lib.hid (hcell i hi)
  have HC := Lib.hid hcell
  have hru := H.1 l[i] (List.getElem_mem _)
  obtain ⟨rp, rn, rc, hrv, hrn⟩ := hru.form
  rw [hrv] at hru
  clear hn H hcell hrn
  have f1 := hf.name l[i] (List.getElem_mem _)
  have f2 := hf.host l[i] (List.getElem_mem _)
  have f3 := hf.texts l[i] (List.getElem_mem _)
  have HP : Hid (tenOk (l.take i) l[i] = (!hosted (l.take i) l[i].host && oneB l[i])) := Lib.hid rfl
  generalize tenOk (l.take i) l[i] = m at HP ⊢
  have HI := Lib.hid hi
  clear hf
  generalize hT : l[i] = t at *
  have HX : Hid (∀ k, k < i → (h : k < l.length) → (l[k].host == t.host) = true → m = false) := Lib.hid (fun k hki h hm => by rw [HP.out]; unfold hosted; rw [any_hit (f := fun u => u.host == t.host) h hki hm]; rfl)
  have HO1 : Hid (oneB t = (userB t.name && (nameB t.host && (mayL t.rs && (inB t.quota 0 1099511627776 && (inB t.each 0 1099511627776 && (inB t.sess 1 8 && (inB t.holes 1 8 && inB t.port 1 65535)))))))) := Lib.hid rfl
  have HE : Hid ((l.take i).any (fun u => u.host == t.host) = false → m = oneB t) := Lib.hid (fun h => by rw [HP.out]; unfold hosted; rw [h]; rfl)
  clear HP
  have HU := Lib.hid (fun W => ruser_any t.name (by omega) W)
  have HNm := Lib.hid (fun W => rname_any t.host (by omega) W)
  have HRu := Lib.hid (fun W HR => rmayl_any (.slice rp rn rc) t.rs (fun r hr => by have := f3 r hr; omega) W HR)
  have HQ := Lib.hid (fun W => rsat_any t.quota W)
  have HEa := Lib.hid (fun W => rsat_any t.each W)
  have Hru := Lib.hid hru
  obtain ⟨s1, hs1⟩ : ∃ x, inB t.sess 1 8 = x := ⟨_, rfl⟩
  obtain ⟨s2, hs2⟩ : ∃ x, inB t.holes 1 8 = x := ⟨_, rfl⟩
  obtain ⟨s3, hs3⟩ : ∃ x, inB t.port 1 65535 = x := ⟨_, rfl⟩
  have HS1 := Lib.hid (fun W => rin_b t.sess 1 8 s1 hs1 W)
  have HS2 := Lib.hid (fun W => rin_b t.holes 1 8 s2 hs2 W)
  have HS3 := Lib.hid (fun W => rin_b t.port 1 65535 s3 hs3 W)
  rw [hs1, hs2, hs3] at HO1
  clear hs1 hs2 hs3 f1 f2 f3 hru
  generalize userB t.name = q1 at *
  generalize nameB t.host = q2 at *
  generalize mayL t.rs = q3 at *
  generalize inB t.quota 0 1099511627776 = q4 at *
  generalize inB t.each 0 1099511627776 = q5 at *
  have c0 := T0.out.c0; have c1 := T0.out.c1; have c2 := T0.out.c2; have c3 := T0.out.c3; have c4 := T0.out.c4; have c5 := T0.out.c5; have c6 := T0.out.c6; have c7 := T0.out.c7; have c8 := T0.out.c8; have c9 := T0.out.c9; have c10 := T0.out.c10; have c11 := T0.out.c11; have c12 := T0.out.c12; have c13 := T0.out.c13
  rw [hrv] at c9
  clear hrv hT T0
  have HE2 : Hid ((l.take i).any (fun u => u.host == t.host) = false → m = (q1 && (q2 && (q3 && (q4 && (q5 && (s1 && (s2 && s3)))))))) := Lib.hid (fun h => by rw [HE.out h, HO1.out])
  clear HE HO1
  obtain ⟨tn, th, ta, tb, tc, td, tp, lo, hh, tr, trs, ts, tho, tq, te⟩ := t
  simp only at *
  have C0 := Lib.hid ((IsRow.made w 26 #[.int .u8 a, .int .u8 b, .int .u8 c, .int .u8 d, .slice (some ⟨bb, o, none⟩) n cc, .int .i64 pre, .int .i64 life, .int .i64 idle, .bool lf]).alloc (.cells #[.string ⟨tn.toArray⟩, .string ⟨th.toArray⟩, .int .u8 ta, .int .u8 tb, .int .u8 tc, .int .u8 td, .int .i64 tp, .int .i64 lo, .int .i64 hh, .slice rp rn rc, .int .i64 ts, .int .i64 tho, .int .i64 tq, .int .i64 te] 40))
  have R0 := Lib.hid (IsRow.made (w.alloc (.cells #[.int .u8 a, .int .u8 b, .int .u8 c, .int .u8 d, .slice (some ⟨bb, o, none⟩) n cc, .int .i64 pre, .int .i64 life, .int .i64 idle, .bool lf] 26)) 40 #[.string ⟨tn.toArray⟩, .string ⟨th.toArray⟩, .int .u8 ta, .int .u8 tb, .int .u8 tc, .int .u8 td, .int .i64 tp, .int .i64 lo, .int .i64 hh, .slice rp rn rc, .int .i64 ts, .int .i64 tho, .int .i64 tq, .int .i64 te])
  rw [show (w.alloc (.cells #[.int .u8 a, .int .u8 b, .int .u8 c, .int .u8 d, .slice (some ⟨bb, o, none⟩) n cc, .int .i64 pre, .int .i64 life, .int .i64 idle, .bool lf] 26)).heap.size = w.heap.size + 1 from by simp] at R0
  have B9 := Lib.hid (((Below.refl w.heap.size w).alloc (Nat.le_refl _) (.cells #[.int .u8 a, .int .u8 b, .int .u8 c, .int .u8 d, .slice (some ⟨bb, o, none⟩) n cc, .int .i64 pre, .int .i64 life, .int .i64 idle, .bool lf] 26)).alloc (by simp) (.cells #[.string ⟨tn.toArray⟩, .string ⟨th.toArray⟩, .int .u8 ta, .int .u8 tb, .int .u8 tc, .int .u8 td, .int .i64 tp, .int .i64 lo, .int .i64 hh, .slice rp rn rc, .int .i64 ts, .int .i64 tho, .int .i64 tq, .int .i64 te] 40))
  go_enter Tryd.func21, Tryd.ntmps21
  go_wp2_with (first
    | (go_at_call 34; refine (HU.out _).mono ?_; rintro e w1 ⟨rfl, b1⟩; have B1 := Lib.hid (B9.out.trans (b1.mono B9.out.size)); have C1 := Lib.hid (C0.out.call b1); have R1 := Lib.hid (R0.out.call b1); have k4 := C1.out.cell 4; have kl := C1.out.lt; have kr := R1.out.lt; have t1 := R1.out.cell 1; have t6 := R1.out.cell 6; have t9 := R1.out.cell 9; have t10 := R1.out.cell 10; have t11 := R1.out.cell 11; have t12 := R1.out.cell 12; have t13 := R1.out.cell 13; clear b1 C0 R0; clear HU)
    | (go_at_call 35; refine (HNm.out _).mono ?_; rintro e w2 ⟨rfl, b2⟩; have B2 := Lib.hid (B1.out.trans (b2.mono B1.out.size)); have C2 := Lib.hid (C1.out.call b2); have R2 := Lib.hid (R1.out.call b2); clear k4 kl kr t1 t6 t9 t10 t11 t12 t13; have k4 := C2.out.cell 4; have kl := C2.out.lt; have kr := R2.out.lt; have t1 := R2.out.cell 1; have t6 := R2.out.cell 6; have t9 := R2.out.cell 9; have t10 := R2.out.cell 10; have t11 := R2.out.cell 11; have t12 := R2.out.cell 12; have t13 := R2.out.cell 13; clear b2 C1 R1; clear HNm)
    | (go_at_call 36; refine (HRu.out _ (Hru.out.call B2.out)).mono ?_; rintro e w3 ⟨rfl, b3⟩; have B3 := Lib.hid (B2.out.trans (b3.mono B2.out.size)); have C3 := Lib.hid (C2.out.call b3); have R3 := Lib.hid (R2.out.call b3); clear k4 kl kr t1 t6 t9 t10 t11 t12 t13; have k4 := C3.out.cell 4; have kl := C3.out.lt; have kr := R3.out.lt; have t1 := R3.out.cell 1; have t6 := R3.out.cell 6; have t9 := R3.out.cell 9; have t10 := R3.out.cell 10; have t11 := R3.out.cell 11; have t12 := R3.out.cell 12; have t13 := R3.out.cell 13; clear b3 C2 R2; clear HRu)
    | (go_at_call 37; refine (HQ.out _).mono ?_; rintro e w4 ⟨rfl, b4⟩; have B4 := Lib.hid (B3.out.trans (b4.mono B3.out.size)); have C4 := Lib.hid (C3.out.call b4); have R4 := Lib.hid (R3.out.call b4); clear k4 kl kr t1 t6 t9 t10 t11 t12 t13; have k4 := C4.out.cell 4; have kl := C4.out.lt; have kr := R4.out.lt; have t1 := R4.out.cell 1; have t6 := R4.out.cell 6; have t9 := R4.out.cell 9; have t10 := R4.out.cell 10; have t11 := R4.out.cell 11; have t12 := R4.out.cell 12; have t13 := R4.out.cell 13; clear b4 C3 R3; clear HQ)
    | (go_at_call 37; refine (HEa.out _).mono ?_; rintro e w5 ⟨rfl, b5⟩; have B5 := Lib.hid (B4.out.trans (b5.mono B4.out.size)); have C5 := Lib.hid (C4.out.call b5); have R5 := Lib.hid (R4.out.call b5); clear k4 kl kr t1 t6 t9 t10 t11 t12 t13; have k4 := C5.out.cell 4; have kl := C5.out.lt; have kr := R5.out.lt; have t1 := R5.out.cell 1; have t6 := R5.out.cell 6; have t9 := R5.out.cell 9; have t10 := R5.out.cell 10; have t11 := R5.out.cell 11; have t12 := R5.out.cell 12; have t13 := R5.out.cell 13; clear b5 C4 R4; clear HEa))
  clear k4 kl kr t1 t6 t9 t10 t11 t12 t13 c0 c1 c2 c3 c4 c5 c6 c7 c8 c9 c10 c11 c12 c13
  go_loopw [11] (fun x11 wr => ∃ k : Nat, x11 = .int .i64 (k : Int) ∧ k ≤ i ∧ Hid ((l.take k).any (fun u => u.host == th) = false) ∧ Hid (IsRow wr w.heap.size 26 #[.int .u8 a, .int .u8 b, .int .u8 c, .int .u8 d, .slice (some ⟨bb, o, none⟩) n cc, .int .i64 pre, .int .i64 life, .int .i64 idle, .bool lf]) ∧ Hid (IsRow wr (w.heap.size + 1) 40 #[.string ⟨tn.toArray⟩, .string ⟨th.toArray⟩, .int .u8 ta, .int .u8 tb, .int .u8 tc, .int .u8 td, .int .i64 tp, .int .i64 lo, .int .i64 hh, .slice rp rn rc, .int .i64 ts, .int .i64 tho, .int .i64 tq, .int .i64 te]) ∧ Hid (Below w.heap.size w wr)) (fun x _ => i - (intOf x).toNat)
  case atStart => exact ⟨0, rfl, Nat.zero_le _, Lib.hid (by simp), C5, R5, B5⟩
  case round =>
    obtain ⟨k, rfl, hk, HO, C0, R0, B9⟩ := hrel
    by_cases hlt : k < i
    · have hji : (k : Int) < (i : Int) := by omega
      have hkn : (k : Int) < (n : Int) := by omega
      have HK : Hid (k + 1 ≤ i) := Lib.hid hlt
      have hkl : k < l.length := by have := HI.out; omega
      have TK := (HC.out k hkl).call B9.out
      have e1 := TK.c1
      have k4 := C0.out.cell 4
      have t1 := R0.out.cell 1
      have kl := C0.out.lt
      have kr := R0.out.lt
      have hbl2 := TK.lt
      clear TK
      have HXK := Lib.hid (HX.out k hlt hkl)
      have HNK : Hid ((l[k].host == th) = false → (l.take (k + 1)).any (fun u => u.host == th) = false) := Lib.hid (fun h => by rw [any_next hkl, HO.out, h]; rfl)
      generalize l[k] = u at *
      obtain ⟨uh, huh⟩ : ∃ x, u.host = x := ⟨_, rfl⟩
      rw [huh] at e1 HXK HNK
      clear huh
      cases q : (uh == th) with
      | true =>
        have HV := Lib.hid (HXK.out q)
        clear HXK HNK HX HE2
        go_wp2_with fail
        go_quiet (fail)
        go_wp2_with fail
        go_ret
        exact ⟨by rw [HV.out] <;> rfl, B9.out.trans ⟨rfl, rfl, rfl, Nat.le_refl _, fun _ _ => rfl⟩⟩
      | false =>
        have HV := Lib.hid (HNK.out q)
        clear HXK HNK
        go_wp2_with fail
        go_quiet (fail)
        go_wp2_with fail
        go_roundw
        case rel => exact ⟨k + 1, by go_num, HK.out, HV, Lib.hid C0.out.drew, Lib.hid R0.out.drew, Lib.hid (B9.out.trans ⟨rfl, rfl, rfl, Nat.le_refl _, fun _ _ => rfl⟩)⟩
        case measure => have := HK.out; simp [intOf]; omega
    · have hji : ¬ (k : Int) < (i : Int) := by omega
      obtain rfl : k = i := by omega
      have HM := Lib.hid (HE2.out HO.out)
      clear HX HE2 HC HI
      have k4 := C0.out.cell 4
      have kl := C0.out.lt
      have kr := R0.out.lt
      have t1 := R0.out.cell 1
      have t6 := R0.out.cell 6
      have t9 := R0.out.cell 9
      have t10 := R0.out.cell 10
      have t11 := R0.out.cell 11
      have t12 := R0.out.cell 12
      have t13 := R0.out.cell 13
      cases q1 with
      | false =>
        have HV : Hid (m = false) := Lib.hid (by rw [HM.out] <;> rfl)
        go_wp2_with (first
          | (go_at_call 20; refine (HS1.out _).mono ?_; rintro e w1 ⟨rfl, b1⟩; have B1 := Lib.hid (B9.out.trans (b1.mono B9.out.size)); clear k4 kl kr t1 t6 t9 t10 t11 t12 t13; have C1 := Lib.hid (C0.out.call b1); have R1 := Lib.hid (R0.out.call b1); have k4 := C1.out.cell 4; have kl := C1.out.lt; have kr := R1.out.lt; have t1 := R1.out.cell 1; have t6 := R1.out.cell 6; have t9 := R1.out.cell 9; have t10 := R1.out.cell 10; have t11 := R1.out.cell 11; have t12 := R1.out.cell 12; have t13 := R1.out.cell 13; clear b1 C0 R0; clear HS1)
          | (go_at_call 20; refine (HS2.out _).mono ?_; rintro e w2 ⟨rfl, b2⟩; have B2 := Lib.hid (B1.out.trans (b2.mono B1.out.size)); have C2 := Lib.hid (C1.out.call b2); have R2 := Lib.hid (R1.out.call b2); clear k4 kl kr t1 t6 t9 t10 t11 t12 t13; have k4 := C2.out.cell 4; have kl := C2.out.lt; have kr := R2.out.lt; have t1 := R2.out.cell 1; have t6 := R2.out.cell 6; have t9 := R2.out.cell 9; have t10 := R2.out.cell 10; have t11 := R2.out.cell 11; have t12 := R2.out.cell 12; have t13 := R2.out.cell 13; clear b2 C1 R1; clear HS2)
          | (go_at_call 20; refine (HS3.out _).mono ?_; rintro e w3 ⟨rfl, b3⟩; have B3 := Lib.hid (B2.out.trans (b3.mono B2.out.size)); have C3 := Lib.hid (C2.out.call b3); have R3 := Lib.hid (R2.out.call b3); clear k4 kl kr t1 t6 t9 t10 t11 t12 t13; have k4 := C3.out.cell 4; have kl := C3.out.lt; have kr := R3.out.lt; have t1 := R3.out.cell 1; have t6 := R3.out.cell 6; have t9 := R3.out.cell 9; have t10 := R3.out.cell 10; have t11 := R3.out.cell 11; have t12 := R3.out.cell 12; have t13 := R3.out.cell 13; clear b3 C2 R2; clear HS3))
        go_ret
        exact ⟨by rw [HV.out] <;> rfl, B3.out⟩
      | true =>
        cases q2 with
        | false =>
          have HV : Hid (m = false) := Lib.hid (by rw [HM.out] <;> rfl)
          go_wp2_with (first
            | (go_at_call 20; refine (HS1.out _).mono ?_; rintro e w1 ⟨rfl, b1⟩; have B1 := Lib.hid (B9.out.trans (b1.mono B9.out.size)); clear k4 kl kr t1 t6 t9 t10 t11 t12 t13; have C1 := Lib.hid (C0.out.call b1); have R1 := Lib.hid (R0.out.call b1); have k4 := C1.out.cell 4; have kl := C1.out.lt; have kr := R1.out.lt; have t1 := R1.out.cell 1; have t6 := R1.out.cell 6; have t9 := R1.out.cell 9; have t10 := R1.out.cell 10; have t11 := R1.out.cell 11; have t12 := R1.out.cell 12; have t13 := R1.out.cell 13; clear b1 C0 R0; clear HS1)
            | (go_at_call 20; refine (HS2.out _).mono ?_; rintro e w2 ⟨rfl, b2⟩; have B2 := Lib.hid (B1.out.trans (b2.mono B1.out.size)); have C2 := Lib.hid (C1.out.call b2); have R2 := Lib.hid (R1.out.call b2); clear k4 kl kr t1 t6 t9 t10 t11 t12 t13; have k4 := C2.out.cell 4; have kl := C2.out.lt; have kr := R2.out.lt; have t1 := R2.out.cell 1; have t6 := R2.out.cell 6; have t9 := R2.out.cell 9; have t10 := R2.out.cell 10; have t11 := R2.out.cell 11; have t12 := R2.out.cell 12; have t13 := R2.out.cell 13; clear b2 C1 R1; clear HS2)
            | (go_at_call 20; refine (HS3.out _).mono ?_; rintro e w3 ⟨rfl, b3⟩; have B3 := Lib.hid (B2.out.trans (b3.mono B2.out.size)); have C3 := Lib.hid (C2.out.call b3); have R3 := Lib.hid (R2.out.call b3); clear k4 kl kr t1 t6 t9 t10 t11 t12 t13; have k4 := C3.out.cell 4; have kl := C3.out.lt; have kr := R3.out.lt; have t1 := R3.out.cell 1; have t6 := R3.out.cell 6; have t9 := R3.out.cell 9; have t10 := R3.out.cell 10; have t11 := R3.out.cell 11; have t12 := R3.out.cell 12; have t13 := R3.out.cell 13; clear b3 C2 R2; clear HS3))
          go_ret
          exact ⟨by rw [HV.out] <;> rfl, B3.out⟩
        | true =>
          cases q3 with
          | false =>
            have HV : Hid (m = false) := Lib.hid (by rw [HM.out] <;> rfl)
            go_wp2_with (first
              | (go_at_call 20; refine (HS1.out _).mono ?_; rintro e w1 ⟨rfl, b1⟩; have B1 := Lib.hid (B9.out.trans (b1.mono B9.out.size)); clear k4 kl kr t1 t6 t9 t10 t11 t12 t13; have C1 := Lib.hid (C0.out.call b1); have R1 := Lib.hid (R0.out.call b1); have k4 := C1.out.cell 4; have kl := C1.out.lt; have kr := R1.out.lt; have t1 := R1.out.cell 1; have t6 := R1.out.cell 6; have t9 := R1.out.cell 9; have t10 := R1.out.cell 10; have t11 := R1.out.cell 11; have t12 := R1.out.cell 12; have t13 := R1.out.cell 13; clear b1 C0 R0; clear HS1)
              | (go_at_call 20; refine (HS2.out _).mono ?_; rintro e w2 ⟨rfl, b2⟩; have B2 := Lib.hid (B1.out.trans (b2.mono B1.out.size)); have C2 := Lib.hid (C1.out.call b2); have R2 := Lib.hid (R1.out.call b2); clear k4 kl kr t1 t6 t9 t10 t11 t12 t13; have k4 := C2.out.cell 4; have kl := C2.out.lt; have kr := R2.out.lt; have t1 := R2.out.cell 1; have t6 := R2.out.cell 6; have t9 := R2.out.cell 9; have t10 := R2.out.cell 10; have t11 := R2.out.cell 11; have t12 := R2.out.cell 12; have t13 := R2.out.cell 13; clear b2 C1 R1; clear HS2)
              | (go_at_call 20; refine (HS3.out _).mono ?_; rintro e w3 ⟨rfl, b3⟩; have B3 := Lib.hid (B2.out.trans (b3.mono B2.out.size)); have C3 := Lib.hid (C2.out.call b3); have R3 := Lib.hid (R2.out.call b3); clear k4 kl kr t1 t6 t9 t10 t11 t12 t13; have k4 := C3.out.cell 4; have kl := C3.out.lt; have kr := R3.out.lt; have t1 := R3.out.cell 1; have t6 := R3.out.cell 6; have t9 := R3.out.cell 9; have t10 := R3.out.cell 10; have t11 := R3.out.cell 11; have t12 := R3.out.cell 12; have t13 := R3.out.cell 13; clear b3 C2 R2; clear HS3))
            go_ret
            exact ⟨by rw [HV.out] <;> rfl, B3.out⟩
          | true =>
            cases q4 with
            | false =>
              have HV : Hid (m = false) := Lib.hid (by rw [HM.out] <;> rfl)
              go_wp2_with (first
                | (go_at_call 20; refine (HS1.out _).mono ?_; rintro e w1 ⟨rfl, b1⟩; have B1 := Lib.hid (B9.out.trans (b1.mono B9.out.size)); clear k4 kl kr t1 t6 t9 t10 t11 t12 t13; have C1 := Lib.hid (C0.out.call b1); have R1 := Lib.hid (R0.out.call b1); have k4 := C1.out.cell 4; have kl := C1.out.lt; have kr := R1.out.lt; have t1 := R1.out.cell 1; have t6 := R1.out.cell 6; have t9 := R1.out.cell 9; have t10 := R1.out.cell 10; have t11 := R1.out.cell 11; have t12 := R1.out.cell 12; have t13 := R1.out.cell 13; clear b1 C0 R0; clear HS1)
                | (go_at_call 20; refine (HS2.out _).mono ?_; rintro e w2 ⟨rfl, b2⟩; have B2 := Lib.hid (B1.out.trans (b2.mono B1.out.size)); have C2 := Lib.hid (C1.out.call b2); have R2 := Lib.hid (R1.out.call b2); clear k4 kl kr t1 t6 t9 t10 t11 t12 t13; have k4 := C2.out.cell 4; have kl := C2.out.lt; have kr := R2.out.lt; have t1 := R2.out.cell 1; have t6 := R2.out.cell 6; have t9 := R2.out.cell 9; have t10 := R2.out.cell 10; have t11 := R2.out.cell 11; have t12 := R2.out.cell 12; have t13 := R2.out.cell 13; clear b2 C1 R1; clear HS2)
                | (go_at_call 20; refine (HS3.out _).mono ?_; rintro e w3 ⟨rfl, b3⟩; have B3 := Lib.hid (B2.out.trans (b3.mono B2.out.size)); have C3 := Lib.hid (C2.out.call b3); have R3 := Lib.hid (R2.out.call b3); clear k4 kl kr t1 t6 t9 t10 t11 t12 t13; have k4 := C3.out.cell 4; have kl := C3.out.lt; have kr := R3.out.lt; have t1 := R3.out.cell 1; have t6 := R3.out.cell 6; have t9 := R3.out.cell 9; have t10 := R3.out.cell 10; have t11 := R3.out.cell 11; have t12 := R3.out.cell 12; have t13 := R3.out.cell 13; clear b3 C2 R2; clear HS3))
              go_ret
              exact ⟨by rw [HV.out] <;> rfl, B3.out⟩
            | true =>
              cases q5 with
              | false =>
                have HV : Hid (m = false) := Lib.hid (by rw [HM.out] <;> rfl)
                go_wp2_with (first
                  | (go_at_call 20; refine (HS1.out _).mono ?_; rintro e w1 ⟨rfl, b1⟩; have B1 := Lib.hid (B9.out.trans (b1.mono B9.out.size)); clear k4 kl kr t1 t6 t9 t10 t11 t12 t13; have C1 := Lib.hid (C0.out.call b1); have R1 := Lib.hid (R0.out.call b1); have k4 := C1.out.cell 4; have kl := C1.out.lt; have kr := R1.out.lt; have t1 := R1.out.cell 1; have t6 := R1.out.cell 6; have t9 := R1.out.cell 9; have t10 := R1.out.cell 10; have t11 := R1.out.cell 11; have t12 := R1.out.cell 12; have t13 := R1.out.cell 13; clear b1 C0 R0; clear HS1)
                  | (go_at_call 20; refine (HS2.out _).mono ?_; rintro e w2 ⟨rfl, b2⟩; have B2 := Lib.hid (B1.out.trans (b2.mono B1.out.size)); have C2 := Lib.hid (C1.out.call b2); have R2 := Lib.hid (R1.out.call b2); clear k4 kl kr t1 t6 t9 t10 t11 t12 t13; have k4 := C2.out.cell 4; have kl := C2.out.lt; have kr := R2.out.lt; have t1 := R2.out.cell 1; have t6 := R2.out.cell 6; have t9 := R2.out.cell 9; have t10 := R2.out.cell 10; have t11 := R2.out.cell 11; have t12 := R2.out.cell 12; have t13 := R2.out.cell 13; clear b2 C1 R1; clear HS2)
                  | (go_at_call 20; refine (HS3.out _).mono ?_; rintro e w3 ⟨rfl, b3⟩; have B3 := Lib.hid (B2.out.trans (b3.mono B2.out.size)); have C3 := Lib.hid (C2.out.call b3); have R3 := Lib.hid (R2.out.call b3); clear k4 kl kr t1 t6 t9 t10 t11 t12 t13; have k4 := C3.out.cell 4; have kl := C3.out.lt; have kr := R3.out.lt; have t1 := R3.out.cell 1; have t6 := R3.out.cell 6; have t9 := R3.out.cell 9; have t10 := R3.out.cell 10; have t11 := R3.out.cell 11; have t12 := R3.out.cell 12; have t13 := R3.out.cell 13; clear b3 C2 R2; clear HS3))
                go_ret
                exact ⟨by rw [HV.out] <;> rfl, B3.out⟩
              | true =>
                cases s1 with
                | false =>
                  have HV : Hid (m = false) := Lib.hid (by rw [HM.out] <;> rfl)
                  go_wp2_with (first
                    | (go_at_call 20; refine (HS1.out _).mono ?_; rintro e w1 ⟨rfl, b1⟩; have B1 := Lib.hid (B9.out.trans (b1.mono B9.out.size)); clear k4 kl kr t1 t6 t9 t10 t11 t12 t13; have C1 := Lib.hid (C0.out.call b1); have R1 := Lib.hid (R0.out.call b1); have k4 := C1.out.cell 4; have kl := C1.out.lt; have kr := R1.out.lt; have t1 := R1.out.cell 1; have t6 := R1.out.cell 6; have t9 := R1.out.cell 9; have t10 := R1.out.cell 10; have t11 := R1.out.cell 11; have t12 := R1.out.cell 12; have t13 := R1.out.cell 13; clear b1 C0 R0; clear HS1)
                    | (go_at_call 20; refine (HS2.out _).mono ?_; rintro e w2 ⟨rfl, b2⟩; have B2 := Lib.hid (B1.out.trans (b2.mono B1.out.size)); have C2 := Lib.hid (C1.out.call b2); have R2 := Lib.hid (R1.out.call b2); clear k4 kl kr t1 t6 t9 t10 t11 t12 t13; have k4 := C2.out.cell 4; have kl := C2.out.lt; have kr := R2.out.lt; have t1 := R2.out.cell 1; have t6 := R2.out.cell 6; have t9 := R2.out.cell 9; have t10 := R2.out.cell 10; have t11 := R2.out.cell 11; have t12 := R2.out.cell 12; have t13 := R2.out.cell 13; clear b2 C1 R1; clear HS2)
                    | (go_at_call 20; refine (HS3.out _).mono ?_; rintro e w3 ⟨rfl, b3⟩; have B3 := Lib.hid (B2.out.trans (b3.mono B2.out.size)); have C3 := Lib.hid (C2.out.call b3); have R3 := Lib.hid (R2.out.call b3); clear k4 kl kr t1 t6 t9 t10 t11 t12 t13; have k4 := C3.out.cell 4; have kl := C3.out.lt; have kr := R3.out.lt; have t1 := R3.out.cell 1; have t6 := R3.out.cell 6; have t9 := R3.out.cell 9; have t10 := R3.out.cell 10; have t11 := R3.out.cell 11; have t12 := R3.out.cell 12; have t13 := R3.out.cell 13; clear b3 C2 R2; clear HS3))
                  go_ret
                  exact ⟨by rw [HV.out] <;> rfl, B3.out⟩
                | true =>
                  cases s2 with
                  | false =>
                    have HV : Hid (m = false) := Lib.hid (by rw [HM.out] <;> rfl)
                    go_wp2_with (first
                      | (go_at_call 20; refine (HS1.out _).mono ?_; rintro e w1 ⟨rfl, b1⟩; have B1 := Lib.hid (B9.out.trans (b1.mono B9.out.size)); clear k4 kl kr t1 t6 t9 t10 t11 t12 t13; have C1 := Lib.hid (C0.out.call b1); have R1 := Lib.hid (R0.out.call b1); have k4 := C1.out.cell 4; have kl := C1.out.lt; have kr := R1.out.lt; have t1 := R1.out.cell 1; have t6 := R1.out.cell 6; have t9 := R1.out.cell 9; have t10 := R1.out.cell 10; have t11 := R1.out.cell 11; have t12 := R1.out.cell 12; have t13 := R1.out.cell 13; clear b1 C0 R0; clear HS1)
                      | (go_at_call 20; refine (HS2.out _).mono ?_; rintro e w2 ⟨rfl, b2⟩; have B2 := Lib.hid (B1.out.trans (b2.mono B1.out.size)); have C2 := Lib.hid (C1.out.call b2); have R2 := Lib.hid (R1.out.call b2); clear k4 kl kr t1 t6 t9 t10 t11 t12 t13; have k4 := C2.out.cell 4; have kl := C2.out.lt; have kr := R2.out.lt; have t1 := R2.out.cell 1; have t6 := R2.out.cell 6; have t9 := R2.out.cell 9; have t10 := R2.out.cell 10; have t11 := R2.out.cell 11; have t12 := R2.out.cell 12; have t13 := R2.out.cell 13; clear b2 C1 R1; clear HS2)
                      | (go_at_call 20; refine (HS3.out _).mono ?_; rintro e w3 ⟨rfl, b3⟩; have B3 := Lib.hid (B2.out.trans (b3.mono B2.out.size)); have C3 := Lib.hid (C2.out.call b3); have R3 := Lib.hid (R2.out.call b3); clear k4 kl kr t1 t6 t9 t10 t11 t12 t13; have k4 := C3.out.cell 4; have kl := C3.out.lt; have kr := R3.out.lt; have t1 := R3.out.cell 1; have t6 := R3.out.cell 6; have t9 := R3.out.cell 9; have t10 := R3.out.cell 10; have t11 := R3.out.cell 11; have t12 := R3.out.cell 12; have t13 := R3.out.cell 13; clear b3 C2 R2; clear HS3))
                    go_ret
                    exact ⟨by rw [HV.out] <;> rfl, B3.out⟩
                  | true =>
                    cases s3 with
                    | false =>
                      have HV : Hid (m = false) := Lib.hid (by rw [HM.out] <;> rfl)
                      go_wp2_with (first
                        | (go_at_call 20; refine (HS1.out _).mono ?_; rintro e w1 ⟨rfl, b1⟩; have B1 := Lib.hid (B9.out.trans (b1.mono B9.out.size)); clear k4 kl kr t1 t6 t9 t10 t11 t12 t13; have C1 := Lib.hid (C0.out.call b1); have R1 := Lib.hid (R0.out.call b1); have k4 := C1.out.cell 4; have kl := C1.out.lt; have kr := R1.out.lt; have t1 := R1.out.cell 1; have t6 := R1.out.cell 6; have t9 := R1.out.cell 9; have t10 := R1.out.cell 10; have t11 := R1.out.cell 11; have t12 := R1.out.cell 12; have t13 := R1.out.cell 13; clear b1 C0 R0; clear HS1)
                        | (go_at_call 20; refine (HS2.out _).mono ?_; rintro e w2 ⟨rfl, b2⟩; have B2 := Lib.hid (B1.out.trans (b2.mono B1.out.size)); have C2 := Lib.hid (C1.out.call b2); have R2 := Lib.hid (R1.out.call b2); clear k4 kl kr t1 t6 t9 t10 t11 t12 t13; have k4 := C2.out.cell 4; have kl := C2.out.lt; have kr := R2.out.lt; have t1 := R2.out.cell 1; have t6 := R2.out.cell 6; have t9 := R2.out.cell 9; have t10 := R2.out.cell 10; have t11 := R2.out.cell 11; have t12 := R2.out.cell 12; have t13 := R2.out.cell 13; clear b2 C1 R1; clear HS2)
                        | (go_at_call 20; refine (HS3.out _).mono ?_; rintro e w3 ⟨rfl, b3⟩; have B3 := Lib.hid (B2.out.trans (b3.mono B2.out.size)); have C3 := Lib.hid (C2.out.call b3); have R3 := Lib.hid (R2.out.call b3); clear k4 kl kr t1 t6 t9 t10 t11 t12 t13; have k4 := C3.out.cell 4; have kl := C3.out.lt; have kr := R3.out.lt; have t1 := R3.out.cell 1; have t6 := R3.out.cell 6; have t9 := R3.out.cell 9; have t10 := R3.out.cell 10; have t11 := R3.out.cell 11; have t12 := R3.out.cell 12; have t13 := R3.out.cell 13; clear b3 C2 R2; clear HS3))
                      go_ret
                      exact ⟨by rw [HV.out] <;> rfl, B3.out⟩
                    | true =>
                      have HV : Hid (m = true) := Lib.hid (by rw [HM.out] <;> rfl)
                      go_wp2_with (first
                        | (go_at_call 20; refine (HS1.out _).mono ?_; rintro e w1 ⟨rfl, b1⟩; have B1 := Lib.hid (B9.out.trans (b1.mono B9.out.size)); clear k4 kl kr t1 t6 t9 t10 t11 t12 t13; have C1 := Lib.hid (C0.out.call b1); have R1 := Lib.hid (R0.out.call b1); have k4 := C1.out.cell 4; have kl := C1.out.lt; have kr := R1.out.lt; have t1 := R1.out.cell 1; have t6 := R1.out.cell 6; have t9 := R1.out.cell 9; have t10 := R1.out.cell 10; have t11 := R1.out.cell 11; have t12 := R1.out.cell 12; have t13 := R1.out.cell 13; clear b1 C0 R0; clear HS1)
                        | (go_at_call 20; refine (HS2.out _).mono ?_; rintro e w2 ⟨rfl, b2⟩; have B2 := Lib.hid (B1.out.trans (b2.mono B1.out.size)); have C2 := Lib.hid (C1.out.call b2); have R2 := Lib.hid (R1.out.call b2); clear k4 kl kr t1 t6 t9 t10 t11 t12 t13; have k4 := C2.out.cell 4; have kl := C2.out.lt; have kr := R2.out.lt; have t1 := R2.out.cell 1; have t6 := R2.out.cell 6; have t9 := R2.out.cell 9; have t10 := R2.out.cell 10; have t11 := R2.out.cell 11; have t12 := R2.out.cell 12; have t13 := R2.out.cell 13; clear b2 C1 R1; clear HS2)
                        | (go_at_call 20; refine (HS3.out _).mono ?_; rintro e w3 ⟨rfl, b3⟩; have B3 := Lib.hid (B2.out.trans (b3.mono B2.out.size)); have C3 := Lib.hid (C2.out.call b3); have R3 := Lib.hid (R2.out.call b3); clear k4 kl kr t1 t6 t9 t10 t11 t12 t13; have k4 := C3.out.cell 4; have kl := C3.out.lt; have kr := R3.out.lt; have t1 := R3.out.cell 1; have t6 := R3.out.cell 6; have t9 := R3.out.cell 9; have t10 := R3.out.cell 10; have t11 := R3.out.cell 11; have t12 := R3.out.cell 12; have t13 := R3.out.cell 13; clear b3 C2 R2; clear HS3))
                      go_ret
                      exact ⟨by rw [HV.out] <;> rfl, B3.out⟩
#print axioms rtenant_any
end Go.Proofs.YtmodmfkcigibpaaDoor.Co
