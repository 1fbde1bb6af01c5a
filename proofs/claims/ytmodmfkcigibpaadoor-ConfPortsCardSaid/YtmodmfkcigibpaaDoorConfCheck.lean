/- The contract of conf.Check: the error that a conf's reason is (gen-conf-code.py). -/
import Derived.Test.YtmodmfkcigibpaaDoorConfTen
import Derived.Test.YtmodmfkcigibpaaDoorConfIs
namespace Go.Proofs.YtmodmfkcigibpaaDoor.Co
open Go.Proofs.YtmodmfkcigibpaaDoor Go.Proofs.YtmodmfkcigibpaaDoor.Ac Go.Proofs.YtmodmfkcigibpaaDoor.Ro
open Go Go.ChangeShapes Go.WideShapes Go.ChangeAt Go.RowKit
set_option maxRecDepth 100000
set_option linter.unusedSimpArgs false
set_option linter.unusedVariables false

/-- the error of a reason -/
def errOf (aC aT aP : Addr) (z : Int × Int) : Value :=
  if z.2 = 1 then faultV z.1 aC else if z.2 = 2 then faultV z.1 aT else if z.2 = 3 then faultV z.1 aP else .nilIface
theorem errOf_conf (aC aT aP : Addr) (x : Int) : errOf aC aT aP (x, 1) = faultV x aC := rfl
theorem errOf_ten (aC aT aP : Addr) (x : Int) : errOf aC aT aP (x, 2) = faultV x aT := rfl
theorem errOf_ports (aC aT aP : Addr) (x : Int) : errOf aC aT aP (x, 3) = faultV x aP := rfl
theorem errOf_nil (aC aT aP : Addr) (x : Int) : errOf aC aT aP (x, 0) = .nilIface := rfl

set_option maxHeartbeats 16000000 in
theorem check_any (a b c d : Int) (tv : Value) (pre life idle : Int) (lf : Bool) (l : List Tn) (hf : Few l) (aC aT aP : Addr) (w : World) (E : Env w) (R : Errs aC aT aP w) (H : TensIs w tv l) :
    Calls Tryd.prog 15 #[confV a b c d tv pre life idle lf] w fun e w' => e = .returned (errOf aC aT aP (why pre life idle l)) ∧ Below w.heap.size w w' := by
  have HTr := Lib.hid H
  have hmax := H.max
  obtain ⟨p, n, cc, rfl, hn⟩ := H.form
  have HN := Lib.hid hn
  rw [← hn] at hmax
  clear hn H
  have HE := Lib.hid E
  have RE := Lib.hid R
  have HF := Lib.hid hf
  have HW : Hid (why pre life idle l = if headB pre life idle && inB (l.length : Int) 1 4 then whyL l else (-1, 1)) := Lib.hid rfl
  have HAt : Hid (∀ k, k < l.length → badAt l k ≠ 0 → (∀ j, j < k → badAt l j = 0) → whyL l = ((k : Int), badAt l k)) := Lib.hid (fun k h1 h2 h3 => why_at h1 h2 h3)
  have HEnd : Hid ((∀ j, j < l.length → badAt l j = 0) → whyL l = (-1, 0)) := Lib.hid (fun h => why_end h)
  have HWh := Lib.hid (fun W HR => whole_any a b c d (.slice p n cc) pre life idle lf l W HR)
  have gC := R.conf
  generalize hz : errOf aC aT aP (why pre life idle l) = V
  have HZ := Lib.hid hz
  clear hz R E hf
  generalize (headB pre life idle && inB (l.length : Int) 1 4) = q at HW HWh
  have BQ := Lib.hid ((Below.refl w.heap.size w).alloc (Nat.le_refl _) (.cells #[.int .u8 a, .int .u8 b, .int .u8 c, .int .u8 d, .slice p n cc, .int .i64 pre, .int .i64 life, .int .i64 idle, .bool lf] 26))
  have CQ := Lib.hid (IsRow.made w 26 #[.int .u8 a, .int .u8 b, .int .u8 c, .int .u8 d, .slice p n cc, .int .i64 pre, .int .i64 life, .int .i64 idle, .bool lf])
  cases q with
  | false =>
    have HV : Hid (V = faultV (-1) aC) := Lib.hid (by rw [← HZ.out, HW.out]; rfl)
    clear HAt HEnd HZ HW
    go_enter Tryd.func15, Tryd.ntmps15
    go_wp2_with (go_at_call 23; refine (HWh.out _ (HTr.out.call BQ.out)).mono ?_; rintro e w1 ⟨rfl, b1⟩; have B1 := Lib.hid (below_then BQ.out b1); have gC1 := (RE.out.below B1.out).conf; clear HWh b1)
    go_ret
    exact ⟨by rw [HV.out] <;> rfl, B1.out⟩
  | true =>
    have HAt2 := Lib.hid (fun (k : Nat) h1 h2 h3 => (show V = errOf aC aT aP ((k : Int), badAt l k) from by rw [← HZ.out, HW.out, if_pos rfl, HAt.out k h1 h2 h3]))
    have HEnd2 := Lib.hid (fun h => (show V = .nilIface from by rw [← HZ.out, HW.out, if_pos rfl, HEnd.out h]; rfl))
    clear HAt HEnd HZ HW
    go_enter Tryd.func15, Tryd.ntmps15
    go_wp2_with (go_at_call 23; refine (HWh.out _ (HTr.out.call BQ.out)).mono ?_; rintro e w1 ⟨rfl, b1⟩; have BS := Lib.hid (below_then BQ.out b1); have CS := Lib.hid (CQ.out.call b1); have k4 := CS.out.cell 4; have kl := CS.out.lt; clear HWh b1 gC)
    clear k4 kl
    go_loopw [15] (fun x15 wr => ∃ k : Nat, x15 = .int .i64 (k : Int) ∧ k ≤ n ∧ Hid (∀ j, j < k → badAt l j = 0) ∧ Hid (IsRow wr w.heap.size 26 #[.int .u8 a, .int .u8 b, .int .u8 c, .int .u8 d, .slice p n cc, .int .i64 pre, .int .i64 life, .int .i64 idle, .bool lf]) ∧ Hid (Below w.heap.size w wr)) (fun x _ => n - (intOf x).toNat)
    case atStart => exact ⟨0, rfl, Nat.zero_le _, Lib.hid (fun j hj => absurd hj (Nat.not_lt_zero j)), CS, BS⟩
    case round =>
      obtain ⟨k, rfl, hk, HO, CR, BR⟩ := hrel
      by_cases hlt : k < n
      · have hji : (k : Int) < (n : Int) := by omega
        have HK : Hid (k + 1 ≤ n) := Lib.hid hlt
        have hkl : k < l.length := by have := HN.out; omega
        have HTW := HTr.out.call BR.out
        obtain ⟨bb, o, rfl, hbl, hcell⟩ := HTW.some (by omega)
        have TK := hcell k hkl
        have hru := HTr.out.1 l[k] (List.getElem_mem _)
        obtain ⟨rp, rn, rc, hrv, -⟩ := hru.form
        obtain ⟨pa, na, ca, hna, SA, hah⟩ := tens_h HTr.out k (by omega)
        have HAh := Lib.hid hah
        have ft1 := HF.out.name l[k] (List.getElem_mem _)
        have ft2 := HF.out.host l[k] (List.getElem_mem _)
        have ft3 := HF.out.texts l[k] (List.getElem_mem _)
        have HT1 := Lib.hid (fun W EW HR => ten_any (l[k]'hkl) ft1 ft2 ft3 W EW HR)
        have HT2 := Lib.hid (fun W HR HR2 => new_any (l[k]'hkl) (.slice pa na ca) (l.take k) W HR HR2)
        have HT3 := Lib.hid (fun W HR => mports_any (l[k]'hkl) W HR)
        have HT4 := Lib.hid (fun W HR HR2 => pnew_any (l[k]'hkl) (.slice pa na ca) (l.take k) W HR HR2)
        have HB2 : Hid ((!hosted (l.take k) l[k].host && oneB l[k]) = false → V = faultV (k : Int) aT) := Lib.hid (fun h => by
          have e : badAt l k = 2 := by rw [badAt_some hkl]; unfold bad; rw [show tenOk (l.take k) l[k] = false from h]; rfl
          have := HAt2.out k hkl (by rw [e]; decide) HO.out
          rw [this, e, errOf_ten])
        have HB3 : Hid ((!hosted (l.take k) l[k].host && oneB l[k]) = true → (rangeB l[k] && !(l.take k).any (meet l[k])) = false → V = faultV (k : Int) aP) := Lib.hid (fun h h' => by
          have e : badAt l k = 3 := by rw [badAt_some hkl]; unfold bad; rw [show tenOk (l.take k) l[k] = true from h, show portsOk (l.take k) l[k] = false from h']; rfl
          have := HAt2.out k hkl (by rw [e]; decide) HO.out
          rw [this, e, errOf_ports])
        have HB0 : Hid ((!hosted (l.take k) l[k].host && oneB l[k]) = true → (rangeB l[k] && !(l.take k).any (meet l[k])) = true → ∀ j, j < k + 1 → badAt l j = 0) := Lib.hid (fun h h' j hj => by
          by_cases e : j = k
          · subst e; rw [badAt_some hkl]; unfold bad; rw [show tenOk (l.take j) l[j] = true from h, show portsOk (l.take j) l[j] = true from h']; rfl
          · exact HO.out j (by omega))
        clear hcell HTW hna hah ft1 ft2 ft3
        generalize oneB l[k] = x1 at HT1 HB2 HB3 HB0
        generalize (!hosted (l.take k) l[k].host) = x2 at HT2 HB2 HB3 HB0
        generalize rangeB l[k] = x3 at HT3 HB3 HB0
        generalize (!(l.take k).any (meet l[k])) = x4 at HT4 HB3 HB0
        have HO2 := Lib.hid HO.out
        generalize l[k] = t at *
        have e0 := TK.c0; have e1 := TK.c1; have e2 := TK.c2; have e3 := TK.c3; have e4 := TK.c4; have e5 := TK.c5; have e6 := TK.c6; have e7 := TK.c7; have e8 := TK.c8; have e9 := TK.c9; have e10 := TK.c10; have e11 := TK.c11; have e12 := TK.c12; have e13 := TK.c13
        have Hru := Lib.hid hru
        clear hru TK
        obtain ⟨tn, th, ta, tb, tc, td, tp, lo, hh, tr, trs, ts, tho, tq, te⟩ := t
        simp only at *
        subst hrv
        have k4 := CR.out.cell 4
        have kl := CR.out.lt
        have B0 := Lib.hid (BR.out.alloc BR.out.size (.cells #[.string ⟨tn.toArray⟩, .string ⟨th.toArray⟩, .int .u8 ta, .int .u8 tb, .int .u8 tc, .int .u8 td, .int .i64 tp, .int .i64 lo, .int .i64 hh, .slice rp rn rc, .int .i64 ts, .int .i64 tho, .int .i64 tq, .int .i64 te] 40))
        have C0 := Lib.hid (CR.out.alloc (.cells #[.string ⟨tn.toArray⟩, .string ⟨th.toArray⟩, .int .u8 ta, .int .u8 tb, .int .u8 tc, .int .u8 td, .int .i64 tp, .int .i64 lo, .int .i64 hh, .slice rp rn rc, .int .i64 ts, .int .i64 tho, .int .i64 tq, .int .i64 te] 40))
        have T0 := Lib.hid (IsRow.made wr 40 #[.string ⟨tn.toArray⟩, .string ⟨th.toArray⟩, .int .u8 ta, .int .u8 tb, .int .u8 tc, .int .u8 td, .int .i64 tp, .int .i64 lo, .int .i64 hh, .slice rp rn rc, .int .i64 ts, .int .i64 tho, .int .i64 tq, .int .i64 te])
        cases x1 with
        | false =>
          have HV := Lib.hid (HB2.out (by simp))
          clear HB2 HB3 HB0 HAt2 HEnd2
          go_wp2_with (first
            | (go_at_call 24; refine (HT1.out _ (HE.out.below B0.out) (Hru.out.call B0.out)).mono ?_; rintro e w1 ⟨rfl, b1⟩; have B1 := Lib.hid (below_then B0.out b1); have C1 := Lib.hid (C0.out.call b1); have T1 := Lib.hid (T0.out.call b1); have t0 := T1.out.cell 0; have t1 := T1.out.cell 1; have t2 := T1.out.cell 2; have t3 := T1.out.cell 3; have t4 := T1.out.cell 4; have t5 := T1.out.cell 5; have t6 := T1.out.cell 6; have t7 := T1.out.cell 7; have t8 := T1.out.cell 8; have t9 := T1.out.cell 9; have t10 := T1.out.cell 10; have t11 := T1.out.cell 11; have t12 := T1.out.cell 12; have t13 := T1.out.cell 13; have tl := T1.out.lt; have gT := (RE.out.below B1.out).ten; have gP := (RE.out.below B1.out).ports; clear HT1 b1))
          go_ret
          exact ⟨by rw [HV.out] <;> rfl, B1.out⟩
        | true =>
          cases x2 with
          | false =>
            have HV := Lib.hid (HB2.out (by simp))
            clear HB2 HB3 HB0 HAt2 HEnd2
            go_wp2_with (first
              | (go_at_call 24; refine (HT1.out _ (HE.out.below B0.out) (Hru.out.call B0.out)).mono ?_; rintro e w1 ⟨rfl, b1⟩; have B1 := Lib.hid (below_then B0.out b1); have C1 := Lib.hid (C0.out.call b1); have T1 := Lib.hid (T0.out.call b1); have t0 := T1.out.cell 0; have t1 := T1.out.cell 1; have t2 := T1.out.cell 2; have t3 := T1.out.cell 3; have t4 := T1.out.cell 4; have t5 := T1.out.cell 5; have t6 := T1.out.cell 6; have t7 := T1.out.cell 7; have t8 := T1.out.cell 8; have t9 := T1.out.cell 9; have t10 := T1.out.cell 10; have t11 := T1.out.cell 11; have t12 := T1.out.cell 12; have t13 := T1.out.cell 13; have tl := T1.out.lt; have gT := (RE.out.below B1.out).ten; have gP := (RE.out.below B1.out).ports; clear HT1 b1)
              | (go_at_call 25; refine (HT2.out _ (Hru.out.call B1.out) (HAh.out.call B1.out)).mono ?_; rintro e w2 ⟨rfl, b2⟩; have B2 := Lib.hid (below_then B1.out b2); have C2 := Lib.hid (C1.out.call b2); have T2 := Lib.hid (T1.out.call b2); clear t0 t1 t2 t3 t4 t5 t6 t7 t8 t9 t10 t11 t12 t13 tl gT gP; have t0 := T2.out.cell 0; have t1 := T2.out.cell 1; have t2 := T2.out.cell 2; have t3 := T2.out.cell 3; have t4 := T2.out.cell 4; have t5 := T2.out.cell 5; have t6 := T2.out.cell 6; have t7 := T2.out.cell 7; have t8 := T2.out.cell 8; have t9 := T2.out.cell 9; have t10 := T2.out.cell 10; have t11 := T2.out.cell 11; have t12 := T2.out.cell 12; have t13 := T2.out.cell 13; have tl := T2.out.lt; have gT := (RE.out.below B2.out).ten; have gP := (RE.out.below B2.out).ports; clear HT2 b2))
            go_ret
            exact ⟨by rw [HV.out] <;> rfl, B2.out⟩
          | true =>
            cases x3 with
            | false =>
              have HV := Lib.hid (HB3.out (by simp) (by simp))
              clear HB2 HB3 HB0 HAt2 HEnd2
              go_wp2_with (first
                | (go_at_call 24; refine (HT1.out _ (HE.out.below B0.out) (Hru.out.call B0.out)).mono ?_; rintro e w1 ⟨rfl, b1⟩; have B1 := Lib.hid (below_then B0.out b1); have C1 := Lib.hid (C0.out.call b1); have T1 := Lib.hid (T0.out.call b1); have t0 := T1.out.cell 0; have t1 := T1.out.cell 1; have t2 := T1.out.cell 2; have t3 := T1.out.cell 3; have t4 := T1.out.cell 4; have t5 := T1.out.cell 5; have t6 := T1.out.cell 6; have t7 := T1.out.cell 7; have t8 := T1.out.cell 8; have t9 := T1.out.cell 9; have t10 := T1.out.cell 10; have t11 := T1.out.cell 11; have t12 := T1.out.cell 12; have t13 := T1.out.cell 13; have tl := T1.out.lt; have gT := (RE.out.below B1.out).ten; have gP := (RE.out.below B1.out).ports; clear HT1 b1)
                | (go_at_call 25; refine (HT2.out _ (Hru.out.call B1.out) (HAh.out.call B1.out)).mono ?_; rintro e w2 ⟨rfl, b2⟩; have B2 := Lib.hid (below_then B1.out b2); have C2 := Lib.hid (C1.out.call b2); have T2 := Lib.hid (T1.out.call b2); clear t0 t1 t2 t3 t4 t5 t6 t7 t8 t9 t10 t11 t12 t13 tl gT gP; have t0 := T2.out.cell 0; have t1 := T2.out.cell 1; have t2 := T2.out.cell 2; have t3 := T2.out.cell 3; have t4 := T2.out.cell 4; have t5 := T2.out.cell 5; have t6 := T2.out.cell 6; have t7 := T2.out.cell 7; have t8 := T2.out.cell 8; have t9 := T2.out.cell 9; have t10 := T2.out.cell 10; have t11 := T2.out.cell 11; have t12 := T2.out.cell 12; have t13 := T2.out.cell 13; have tl := T2.out.lt; have gT := (RE.out.below B2.out).ten; have gP := (RE.out.below B2.out).ports; clear HT2 b2)
                | (go_at_call 26; refine (HT3.out _ (Hru.out.call B2.out)).mono ?_; rintro e w3 ⟨rfl, b3⟩; have B3 := Lib.hid (below_then B2.out b3); have C3 := Lib.hid (C2.out.call b3); have T3 := Lib.hid (T2.out.call b3); clear t0 t1 t2 t3 t4 t5 t6 t7 t8 t9 t10 t11 t12 t13 tl gT gP; have t0 := T3.out.cell 0; have t1 := T3.out.cell 1; have t2 := T3.out.cell 2; have t3 := T3.out.cell 3; have t4 := T3.out.cell 4; have t5 := T3.out.cell 5; have t6 := T3.out.cell 6; have t7 := T3.out.cell 7; have t8 := T3.out.cell 8; have t9 := T3.out.cell 9; have t10 := T3.out.cell 10; have t11 := T3.out.cell 11; have t12 := T3.out.cell 12; have t13 := T3.out.cell 13; have tl := T3.out.lt; have gT := (RE.out.below B3.out).ten; have gP := (RE.out.below B3.out).ports; clear HT3 b3))
              go_ret
              exact ⟨by rw [HV.out] <;> rfl, B3.out⟩
            | true =>
              cases x4 with
              | false =>
                have HV := Lib.hid (HB3.out (by simp) (by simp))
                clear HB2 HB3 HB0 HAt2 HEnd2
                go_wp2_with (first
                  | (go_at_call 24; refine (HT1.out _ (HE.out.below B0.out) (Hru.out.call B0.out)).mono ?_; rintro e w1 ⟨rfl, b1⟩; have B1 := Lib.hid (below_then B0.out b1); have C1 := Lib.hid (C0.out.call b1); have T1 := Lib.hid (T0.out.call b1); have t0 := T1.out.cell 0; have t1 := T1.out.cell 1; have t2 := T1.out.cell 2; have t3 := T1.out.cell 3; have t4 := T1.out.cell 4; have t5 := T1.out.cell 5; have t6 := T1.out.cell 6; have t7 := T1.out.cell 7; have t8 := T1.out.cell 8; have t9 := T1.out.cell 9; have t10 := T1.out.cell 10; have t11 := T1.out.cell 11; have t12 := T1.out.cell 12; have t13 := T1.out.cell 13; have tl := T1.out.lt; have gT := (RE.out.below B1.out).ten; have gP := (RE.out.below B1.out).ports; clear HT1 b1)
                  | (go_at_call 25; refine (HT2.out _ (Hru.out.call B1.out) (HAh.out.call B1.out)).mono ?_; rintro e w2 ⟨rfl, b2⟩; have B2 := Lib.hid (below_then B1.out b2); have C2 := Lib.hid (C1.out.call b2); have T2 := Lib.hid (T1.out.call b2); clear t0 t1 t2 t3 t4 t5 t6 t7 t8 t9 t10 t11 t12 t13 tl gT gP; have t0 := T2.out.cell 0; have t1 := T2.out.cell 1; have t2 := T2.out.cell 2; have t3 := T2.out.cell 3; have t4 := T2.out.cell 4; have t5 := T2.out.cell 5; have t6 := T2.out.cell 6; have t7 := T2.out.cell 7; have t8 := T2.out.cell 8; have t9 := T2.out.cell 9; have t10 := T2.out.cell 10; have t11 := T2.out.cell 11; have t12 := T2.out.cell 12; have t13 := T2.out.cell 13; have tl := T2.out.lt; have gT := (RE.out.below B2.out).ten; have gP := (RE.out.below B2.out).ports; clear HT2 b2)
                  | (go_at_call 26; refine (HT3.out _ (Hru.out.call B2.out)).mono ?_; rintro e w3 ⟨rfl, b3⟩; have B3 := Lib.hid (below_then B2.out b3); have C3 := Lib.hid (C2.out.call b3); have T3 := Lib.hid (T2.out.call b3); clear t0 t1 t2 t3 t4 t5 t6 t7 t8 t9 t10 t11 t12 t13 tl gT gP; have t0 := T3.out.cell 0; have t1 := T3.out.cell 1; have t2 := T3.out.cell 2; have t3 := T3.out.cell 3; have t4 := T3.out.cell 4; have t5 := T3.out.cell 5; have t6 := T3.out.cell 6; have t7 := T3.out.cell 7; have t8 := T3.out.cell 8; have t9 := T3.out.cell 9; have t10 := T3.out.cell 10; have t11 := T3.out.cell 11; have t12 := T3.out.cell 12; have t13 := T3.out.cell 13; have tl := T3.out.lt; have gT := (RE.out.below B3.out).ten; have gP := (RE.out.below B3.out).ports; clear HT3 b3)
                  | (go_at_call 27; refine (HT4.out _ (Hru.out.call B3.out) (HAh.out.call B3.out)).mono ?_; rintro e w4 ⟨rfl, b4⟩; have B4 := Lib.hid (below_then B3.out b4); have C4 := Lib.hid (C3.out.call b4); have T4 := Lib.hid (T3.out.call b4); clear t0 t1 t2 t3 t4 t5 t6 t7 t8 t9 t10 t11 t12 t13 tl gT gP; have t0 := T4.out.cell 0; have t1 := T4.out.cell 1; have t2 := T4.out.cell 2; have t3 := T4.out.cell 3; have t4 := T4.out.cell 4; have t5 := T4.out.cell 5; have t6 := T4.out.cell 6; have t7 := T4.out.cell 7; have t8 := T4.out.cell 8; have t9 := T4.out.cell 9; have t10 := T4.out.cell 10; have t11 := T4.out.cell 11; have t12 := T4.out.cell 12; have t13 := T4.out.cell 13; have tl := T4.out.lt; have gT := (RE.out.below B4.out).ten; have gP := (RE.out.below B4.out).ports; clear HT4 b4))
                go_ret
                exact ⟨by rw [HV.out] <;> rfl, B4.out⟩
              | true =>
                have HV := Lib.hid (HB0.out (by simp) (by simp))
                clear HB2 HB3 HB0
                go_wp2_with (first
                  | (go_at_call 24; refine (HT1.out _ (HE.out.below B0.out) (Hru.out.call B0.out)).mono ?_; rintro e w1 ⟨rfl, b1⟩; have B1 := Lib.hid (below_then B0.out b1); have C1 := Lib.hid (C0.out.call b1); have T1 := Lib.hid (T0.out.call b1); have t0 := T1.out.cell 0; have t1 := T1.out.cell 1; have t2 := T1.out.cell 2; have t3 := T1.out.cell 3; have t4 := T1.out.cell 4; have t5 := T1.out.cell 5; have t6 := T1.out.cell 6; have t7 := T1.out.cell 7; have t8 := T1.out.cell 8; have t9 := T1.out.cell 9; have t10 := T1.out.cell 10; have t11 := T1.out.cell 11; have t12 := T1.out.cell 12; have t13 := T1.out.cell 13; have tl := T1.out.lt; have gT := (RE.out.below B1.out).ten; have gP := (RE.out.below B1.out).ports; clear HT1 b1)
                  | (go_at_call 25; refine (HT2.out _ (Hru.out.call B1.out) (HAh.out.call B1.out)).mono ?_; rintro e w2 ⟨rfl, b2⟩; have B2 := Lib.hid (below_then B1.out b2); have C2 := Lib.hid (C1.out.call b2); have T2 := Lib.hid (T1.out.call b2); clear t0 t1 t2 t3 t4 t5 t6 t7 t8 t9 t10 t11 t12 t13 tl gT gP; have t0 := T2.out.cell 0; have t1 := T2.out.cell 1; have t2 := T2.out.cell 2; have t3 := T2.out.cell 3; have t4 := T2.out.cell 4; have t5 := T2.out.cell 5; have t6 := T2.out.cell 6; have t7 := T2.out.cell 7; have t8 := T2.out.cell 8; have t9 := T2.out.cell 9; have t10 := T2.out.cell 10; have t11 := T2.out.cell 11; have t12 := T2.out.cell 12; have t13 := T2.out.cell 13; have tl := T2.out.lt; have gT := (RE.out.below B2.out).ten; have gP := (RE.out.below B2.out).ports; clear HT2 b2)
                  | (go_at_call 26; refine (HT3.out _ (Hru.out.call B2.out)).mono ?_; rintro e w3 ⟨rfl, b3⟩; have B3 := Lib.hid (below_then B2.out b3); have C3 := Lib.hid (C2.out.call b3); have T3 := Lib.hid (T2.out.call b3); clear t0 t1 t2 t3 t4 t5 t6 t7 t8 t9 t10 t11 t12 t13 tl gT gP; have t0 := T3.out.cell 0; have t1 := T3.out.cell 1; have t2 := T3.out.cell 2; have t3 := T3.out.cell 3; have t4 := T3.out.cell 4; have t5 := T3.out.cell 5; have t6 := T3.out.cell 6; have t7 := T3.out.cell 7; have t8 := T3.out.cell 8; have t9 := T3.out.cell 9; have t10 := T3.out.cell 10; have t11 := T3.out.cell 11; have t12 := T3.out.cell 12; have t13 := T3.out.cell 13; have tl := T3.out.lt; have gT := (RE.out.below B3.out).ten; have gP := (RE.out.below B3.out).ports; clear HT3 b3)
                  | (go_at_call 27; refine (HT4.out _ (Hru.out.call B3.out) (HAh.out.call B3.out)).mono ?_; rintro e w4 ⟨rfl, b4⟩; have B4 := Lib.hid (below_then B3.out b4); have C4 := Lib.hid (C3.out.call b4); have T4 := Lib.hid (T3.out.call b4); clear t0 t1 t2 t3 t4 t5 t6 t7 t8 t9 t10 t11 t12 t13 tl gT gP; have t0 := T4.out.cell 0; have t1 := T4.out.cell 1; have t2 := T4.out.cell 2; have t3 := T4.out.cell 3; have t4 := T4.out.cell 4; have t5 := T4.out.cell 5; have t6 := T4.out.cell 6; have t7 := T4.out.cell 7; have t8 := T4.out.cell 8; have t9 := T4.out.cell 9; have t10 := T4.out.cell 10; have t11 := T4.out.cell 11; have t12 := T4.out.cell 12; have t13 := T4.out.cell 13; have tl := T4.out.lt; have gT := (RE.out.below B4.out).ten; have gP := (RE.out.below B4.out).ports; clear HT4 b4))
                go_roundw
                case rel => exact ⟨k + 1, by go_num, HK.out, HV, C4, B4⟩
                case measure => have := HK.out; simp [intOf]; omega
      · have hji : ¬ (k : Int) < (n : Int) := by omega
        have HV := Lib.hid (HEnd2.out (fun j hj => HO.out j (by have := HN.out; omega)))
        clear HAt2 HEnd2
        go_wp2_with fail
        go_ret
        exact ⟨by rw [HV.out] <;> rfl, BR.out⟩

#print axioms check_any
end Go.Proofs.YtmodmfkcigibpaaDoor.Co
