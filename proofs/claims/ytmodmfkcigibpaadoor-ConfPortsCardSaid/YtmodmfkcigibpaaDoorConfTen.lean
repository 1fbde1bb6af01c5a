/- The contracts of package conf's functions at one tenant: isUpTo, mayWhole, mayTenant, isHostNew, mayPorts, arePortsNew (gen-conf-code.py). -/
import Derived.Test.YtmodmfkcigibpaaDoorConfRef
import Derived.Test.YtmodmfkcigibpaaDoorAclCode
import Derived.Test.YtmodmfkcigibpaaDoorRouteCode
import Derived.Test.YtmodmfkcigibpaaDoorSatMayC
import Derived.Test.YtmodmfkcigibpaaDoorEnvBare
import Derived.BigQuiet
import Derived.Deep.QuietTactic
namespace Go.Proofs.YtmodmfkcigibpaaDoor.Co
open Go.Proofs.YtmodmfkcigibpaaDoor Go.Proofs.YtmodmfkcigibpaaDoor.Ac Go.Proofs.YtmodmfkcigibpaaDoor.Ro
open Go Go.ChangeShapes Go.WideShapes Go.ChangeAt Go.RowKit
set_option maxRecDepth 100000
set_option linter.unusedSimpArgs false
set_option linter.unusedVariables false

theorem upto_same (n most : Int) (w : World) : Calls Tryd.prog 38 #[.int .i64 n, .int .i64 most] w fun e w' => e = .returned (.bool (inB n 1 most)) ∧ w' = w := by
  have HM : Hid (inB n 1 most = (decide (1 ≤ n) && decide (n ≤ most))) := Lib.hid rfl
  generalize inB n 1 most = m at HM ⊢
  by_cases h1 : 1 ≤ n
  · by_cases h2 : n ≤ most
    · have HV : Hid (m = true) := Lib.hid (by rw [HM.out, decide_eq_true h1, decide_eq_true h2]; rfl)
      go_enter Tryd.func38, Tryd.ntmps38
      go_wp2_with fail
      go_ret
      exact ⟨by rw [HV.out] <;> rfl, by first | rfl | trivial⟩
    · have HV : Hid (m = false) := Lib.hid (by rw [HM.out, decide_eq_true h1, decide_eq_false h2]; rfl)
      go_enter Tryd.func38, Tryd.ntmps38
      go_wp2_with fail
      go_ret
      exact ⟨by rw [HV.out] <;> rfl, by first | rfl | trivial⟩
  · have HV : Hid (m = false) := Lib.hid (by rw [HM.out, decide_eq_false h1]; rfl)
    go_enter Tryd.func38, Tryd.ntmps38
    go_wp2_with fail
    go_ret
    exact ⟨by rw [HV.out] <;> rfl, by first | rfl | trivial⟩

theorem sat_in (n : Int) (w : World) : Calls Tryd.prog 41 #[.int .i64 n] w fun e w' => e = .returned (.bool (inB n 0 1099511627776)) ∧ w' = w :=
  (Qt.sat_may n w).mono fun _ _ h => ⟨h.1, h.2.symm⟩

set_option maxHeartbeats 8000000 in
theorem whole_any (a b c d : Int) (tv : Value) (pre life idle : Int) (lf : Bool) (l : List Tn) (w : World) (H : TensIs w tv l) :
    Calls Tryd.prog 23 #[confV a b c d tv pre life idle lf] w fun e w' => e = .returned (.bool (headB pre life idle && inB (l.length : Int) 1 4)) ∧ Below w.heap.size w w' := by
  obtain ⟨p, n, cc, rfl, hn⟩ := H.form
  have HM : Hid ((headB pre life idle && inB (l.length : Int) 1 4) = ((inB pre 1 8 && (inB life 1 1099511627776 && inB idle 1 1099511627776)) && inB (n : Int) 1 4)) := Lib.hid (by rw [hn]; rfl)
  have H1 := Lib.hid (fun W => upto_same pre 8 W)
  have H2 := Lib.hid (fun W => upto_same life 1099511627776 W)
  have H3 := Lib.hid (fun W => upto_same idle 1099511627776 W)
  have H4 := Lib.hid (fun W => upto_same (n : Int) 4 W)
  have B0 := Lib.hid ((Below.refl w.heap.size w).alloc (Nat.le_refl _) (.cells #[.int .u8 a, .int .u8 b, .int .u8 c, .int .u8 d, .slice p n cc, .int .i64 pre, .int .i64 life, .int .i64 idle, .bool lf] 26))
  clear hn H
  generalize (headB pre life idle && inB (l.length : Int) 1 4) = m at HM ⊢
  generalize inB pre 1 8 = q1 at HM H1
  generalize inB life 1 1099511627776 = q2 at HM H2
  generalize inB idle 1 1099511627776 = q3 at HM H3
  generalize inB (n : Int) 1 4 = q4 at HM H4
  cases q1 with
  | false =>
    have HV : Hid (m = false) := Lib.hid (by rw [HM.out]; simp)
    go_enter Tryd.func23, Tryd.ntmps23
    go_wp2_with (first
      | (go_at_call 38; refine (H1.out _).mono ?_; rintro e w1 ⟨rfl, h⟩; obtain rfl := h.symm; clear H1)
      | (go_at_call 38; refine (H2.out _).mono ?_; rintro e w1 ⟨rfl, h⟩; obtain rfl := h.symm; clear H2)
      | (go_at_call 38; refine (H3.out _).mono ?_; rintro e w1 ⟨rfl, h⟩; obtain rfl := h.symm; clear H3)
      | (go_at_call 38; refine (H4.out _).mono ?_; rintro e w1 ⟨rfl, h⟩; obtain rfl := h.symm; clear H4))
    go_ret
    exact ⟨by rw [HV.out] <;> rfl, B0.out⟩
  | true =>
    cases q2 with
    | false =>
      have HV : Hid (m = false) := Lib.hid (by rw [HM.out]; simp)
      go_enter Tryd.func23, Tryd.ntmps23
      go_wp2_with (first
        | (go_at_call 38; refine (H1.out _).mono ?_; rintro e w1 ⟨rfl, h⟩; obtain rfl := h.symm; clear H1)
        | (go_at_call 38; refine (H2.out _).mono ?_; rintro e w1 ⟨rfl, h⟩; obtain rfl := h.symm; clear H2)
        | (go_at_call 38; refine (H3.out _).mono ?_; rintro e w1 ⟨rfl, h⟩; obtain rfl := h.symm; clear H3)
        | (go_at_call 38; refine (H4.out _).mono ?_; rintro e w1 ⟨rfl, h⟩; obtain rfl := h.symm; clear H4))
      go_ret
      exact ⟨by rw [HV.out] <;> rfl, B0.out⟩
    | true =>
      cases q3 with
      | false =>
        have HV : Hid (m = false) := Lib.hid (by rw [HM.out]; simp)
        go_enter Tryd.func23, Tryd.ntmps23
        go_wp2_with (first
          | (go_at_call 38; refine (H1.out _).mono ?_; rintro e w1 ⟨rfl, h⟩; obtain rfl := h.symm; clear H1)
          | (go_at_call 38; refine (H2.out _).mono ?_; rintro e w1 ⟨rfl, h⟩; obtain rfl := h.symm; clear H2)
          | (go_at_call 38; refine (H3.out _).mono ?_; rintro e w1 ⟨rfl, h⟩; obtain rfl := h.symm; clear H3)
          | (go_at_call 38; refine (H4.out _).mono ?_; rintro e w1 ⟨rfl, h⟩; obtain rfl := h.symm; clear H4))
        go_ret
        exact ⟨by rw [HV.out] <;> rfl, B0.out⟩
      | true =>
        cases q4 with
        | false =>
          have HV : Hid (m = false) := Lib.hid (by rw [HM.out]; simp)
          go_enter Tryd.func23, Tryd.ntmps23
          go_wp2_with (first
            | (go_at_call 38; refine (H1.out _).mono ?_; rintro e w1 ⟨rfl, h⟩; obtain rfl := h.symm; clear H1)
            | (go_at_call 38; refine (H2.out _).mono ?_; rintro e w1 ⟨rfl, h⟩; obtain rfl := h.symm; clear H2)
            | (go_at_call 38; refine (H3.out _).mono ?_; rintro e w1 ⟨rfl, h⟩; obtain rfl := h.symm; clear H3)
            | (go_at_call 38; refine (H4.out _).mono ?_; rintro e w1 ⟨rfl, h⟩; obtain rfl := h.symm; clear H4))
          go_ret
          exact ⟨by rw [HV.out] <;> rfl, B0.out⟩
        | true =>
          have HV : Hid (m = true) := Lib.hid (by rw [HM.out] <;> rfl)
          go_enter Tryd.func23, Tryd.ntmps23
          go_wp2_with (first
            | (go_at_call 38; refine (H1.out _).mono ?_; rintro e w1 ⟨rfl, h⟩; obtain rfl := h.symm; clear H1)
            | (go_at_call 38; refine (H2.out _).mono ?_; rintro e w1 ⟨rfl, h⟩; obtain rfl := h.symm; clear H2)
            | (go_at_call 38; refine (H3.out _).mono ?_; rintro e w1 ⟨rfl, h⟩; obtain rfl := h.symm; clear H3)
            | (go_at_call 38; refine (H4.out _).mono ?_; rintro e w1 ⟨rfl, h⟩; obtain rfl := h.symm; clear H4))
          go_ret
          exact ⟨by rw [HV.out] <;> rfl, B0.out⟩

set_option maxHeartbeats 16000000 in
theorem ten_any (t : Tn) (f1 : t.name.length ≤ 300) (f2 : t.host.length ≤ 300) (f3 : ∀ r ∈ t.rs, r.v.length ≤ 300 ∧ r.p.length ≤ 300) (w : World) (E : Env w) (hr : RulesIs w t.rv t.rs) :
    Calls Tryd.prog 24 #[tenV t] w fun e w' => e = .returned (.bool (oneB t)) ∧ Below w.heap.size w w' := by
  obtain ⟨rp, rn, rc, hrv, hrn⟩ := hr.form
  clear hrn
  have HM : Hid (oneB t = (userB t.name && (nameB t.host && (mayL t.rs && (inB t.quota 0 1099511627776 && (inB t.each 0 1099511627776 && (inB t.sess 1 8 && (inB t.holes 1 8 && inB t.port 1 65535)))))))) := Lib.hid rfl
  have HU := Lib.hid (fun W => user_same t.name (by omega) W)
  have HNm := Lib.hid (fun W => name_same t.host (by omega) W)
  rw [hrv] at hr
  have HRu := Lib.hid (fun W EW HR => acl_may (.slice rp rn rc) t.rs (fun r hr => by have := f3 r hr; omega) W EW HR)
  have HQ := Lib.hid (fun W => sat_in t.quota W)
  have HEa := Lib.hid (fun W => sat_in t.each W)
  have Hru := Lib.hid hr
  have HE := Lib.hid E
  have HS1 := Lib.hid (fun W => upto_same t.sess 8 W)
  have HS2 := Lib.hid (fun W => upto_same t.holes 8 W)
  have HS3 := Lib.hid (fun W => upto_same t.port 65535 W)
  generalize oneB t = m at HM ⊢
  clear f1 f2 f3 hr E
  obtain ⟨tn, th, ta, tb, tc, td, tp, lo, hh, tr, trs, ts, tho, tq, te⟩ := t
  simp only at *
  subst hrv
  have B0 := Lib.hid ((Below.refl w.heap.size w).alloc (Nat.le_refl _) (.cells #[.string ⟨tn.toArray⟩, .string ⟨th.toArray⟩, .int .u8 ta, .int .u8 tb, .int .u8 tc, .int .u8 td, .int .i64 tp, .int .i64 lo, .int .i64 hh, .slice rp rn rc, .int .i64 ts, .int .i64 tho, .int .i64 tq, .int .i64 te] 40))
  generalize userB tn = q1 at HM HU
  generalize nameB th = q2 at HM HNm
  generalize mayL trs = q3 at HM HRu
  generalize inB tq 0 1099511627776 = q4 at HM HQ
  generalize inB te 0 1099511627776 = q5 at HM HEa
  generalize inB ts 1 8 = s1 at HM HS1
  generalize inB tho 1 8 = s2 at HM HS2
  generalize inB tp 1 65535 = s3 at HM HS3
  cases q1 with
  | false =>
    have HV : Hid (m = false) := Lib.hid (by rw [HM.out]; simp)
    go_enter Tryd.func24, Tryd.ntmps24
    go_wp2_with (first
      | (go_at_call 39; refine (HU.out _).mono ?_; rintro e w1 ⟨rfl, h⟩; obtain rfl := h.symm; clear HU)
      | (go_at_call 40; refine (HNm.out _).mono ?_; rintro e w1 ⟨rfl, h⟩; obtain rfl := h.symm; clear HNm)
      | (go_at_call 38; refine (HS1.out _).mono ?_; rintro e w1 ⟨rfl, h⟩; obtain rfl := h.symm; clear HS1)
      | (go_at_call 38; refine (HS2.out _).mono ?_; rintro e w1 ⟨rfl, h⟩; obtain rfl := h.symm; clear HS2)
      | (go_at_call 41; refine (HQ.out _).mono ?_; rintro e w1 ⟨rfl, h⟩; obtain rfl := h.symm; clear HQ)
      | (go_at_call 41; refine (HEa.out _).mono ?_; rintro e w1 ⟨rfl, h⟩; obtain rfl := h.symm; clear HEa)
      | (go_at_call 38; refine (HS3.out _).mono ?_; rintro e w1 ⟨rfl, h⟩; obtain rfl := h.symm; clear HS3)
      | (go_at_call 42; refine (HRu.out _ (HE.out.below B0.out) (Hru.out.call B0.out)).mono ?_; rintro e w2 ⟨rfl, b2⟩; have B2 := Lib.hid (below_then B0.out b2); clear HRu b2))
    go_ret
    exact ⟨by rw [HV.out] <;> rfl, B0.out⟩
  | true =>
    cases q2 with
    | false =>
      have HV : Hid (m = false) := Lib.hid (by rw [HM.out]; simp)
      go_enter Tryd.func24, Tryd.ntmps24
      go_wp2_with (first
        | (go_at_call 39; refine (HU.out _).mono ?_; rintro e w1 ⟨rfl, h⟩; obtain rfl := h.symm; clear HU)
        | (go_at_call 40; refine (HNm.out _).mono ?_; rintro e w1 ⟨rfl, h⟩; obtain rfl := h.symm; clear HNm)
        | (go_at_call 38; refine (HS1.out _).mono ?_; rintro e w1 ⟨rfl, h⟩; obtain rfl := h.symm; clear HS1)
        | (go_at_call 38; refine (HS2.out _).mono ?_; rintro e w1 ⟨rfl, h⟩; obtain rfl := h.symm; clear HS2)
        | (go_at_call 41; refine (HQ.out _).mono ?_; rintro e w1 ⟨rfl, h⟩; obtain rfl := h.symm; clear HQ)
        | (go_at_call 41; refine (HEa.out _).mono ?_; rintro e w1 ⟨rfl, h⟩; obtain rfl := h.symm; clear HEa)
        | (go_at_call 38; refine (HS3.out _).mono ?_; rintro e w1 ⟨rfl, h⟩; obtain rfl := h.symm; clear HS3)
        | (go_at_call 42; refine (HRu.out _ (HE.out.below B0.out) (Hru.out.call B0.out)).mono ?_; rintro e w2 ⟨rfl, b2⟩; have B2 := Lib.hid (below_then B0.out b2); clear HRu b2))
      go_ret
      exact ⟨by rw [HV.out] <;> rfl, B0.out⟩
    | true =>
      cases s1 with
      | false =>
        have HV : Hid (m = false) := Lib.hid (by rw [HM.out]; simp)
        go_enter Tryd.func24, Tryd.ntmps24
        go_wp2_with (first
          | (go_at_call 39; refine (HU.out _).mono ?_; rintro e w1 ⟨rfl, h⟩; obtain rfl := h.symm; clear HU)
          | (go_at_call 40; refine (HNm.out _).mono ?_; rintro e w1 ⟨rfl, h⟩; obtain rfl := h.symm; clear HNm)
          | (go_at_call 38; refine (HS1.out _).mono ?_; rintro e w1 ⟨rfl, h⟩; obtain rfl := h.symm; clear HS1)
          | (go_at_call 38; refine (HS2.out _).mono ?_; rintro e w1 ⟨rfl, h⟩; obtain rfl := h.symm; clear HS2)
          | (go_at_call 41; refine (HQ.out _).mono ?_; rintro e w1 ⟨rfl, h⟩; obtain rfl := h.symm; clear HQ)
          | (go_at_call 41; refine (HEa.out _).mono ?_; rintro e w1 ⟨rfl, h⟩; obtain rfl := h.symm; clear HEa)
          | (go_at_call 38; refine (HS3.out _).mono ?_; rintro e w1 ⟨rfl, h⟩; obtain rfl := h.symm; clear HS3)
          | (go_at_call 42; refine (HRu.out _ (HE.out.below B0.out) (Hru.out.call B0.out)).mono ?_; rintro e w2 ⟨rfl, b2⟩; have B2 := Lib.hid (below_then B0.out b2); clear HRu b2))
        go_ret
        exact ⟨by rw [HV.out] <;> rfl, B0.out⟩
      | true =>
        cases s2 with
        | false =>
          have HV : Hid (m = false) := Lib.hid (by rw [HM.out]; simp)
          go_enter Tryd.func24, Tryd.ntmps24
          go_wp2_with (first
            | (go_at_call 39; refine (HU.out _).mono ?_; rintro e w1 ⟨rfl, h⟩; obtain rfl := h.symm; clear HU)
            | (go_at_call 40; refine (HNm.out _).mono ?_; rintro e w1 ⟨rfl, h⟩; obtain rfl := h.symm; clear HNm)
            | (go_at_call 38; refine (HS1.out _).mono ?_; rintro e w1 ⟨rfl, h⟩; obtain rfl := h.symm; clear HS1)
            | (go_at_call 38; refine (HS2.out _).mono ?_; rintro e w1 ⟨rfl, h⟩; obtain rfl := h.symm; clear HS2)
            | (go_at_call 41; refine (HQ.out _).mono ?_; rintro e w1 ⟨rfl, h⟩; obtain rfl := h.symm; clear HQ)
            | (go_at_call 41; refine (HEa.out _).mono ?_; rintro e w1 ⟨rfl, h⟩; obtain rfl := h.symm; clear HEa)
            | (go_at_call 38; refine (HS3.out _).mono ?_; rintro e w1 ⟨rfl, h⟩; obtain rfl := h.symm; clear HS3)
            | (go_at_call 42; refine (HRu.out _ (HE.out.below B0.out) (Hru.out.call B0.out)).mono ?_; rintro e w2 ⟨rfl, b2⟩; have B2 := Lib.hid (below_then B0.out b2); clear HRu b2))
          go_ret
          exact ⟨by rw [HV.out] <;> rfl, B0.out⟩
        | true =>
          cases q4 with
          | false =>
            have HV : Hid (m = false) := Lib.hid (by rw [HM.out]; simp)
            go_enter Tryd.func24, Tryd.ntmps24
            go_wp2_with (first
              | (go_at_call 39; refine (HU.out _).mono ?_; rintro e w1 ⟨rfl, h⟩; obtain rfl := h.symm; clear HU)
              | (go_at_call 40; refine (HNm.out _).mono ?_; rintro e w1 ⟨rfl, h⟩; obtain rfl := h.symm; clear HNm)
              | (go_at_call 38; refine (HS1.out _).mono ?_; rintro e w1 ⟨rfl, h⟩; obtain rfl := h.symm; clear HS1)
              | (go_at_call 38; refine (HS2.out _).mono ?_; rintro e w1 ⟨rfl, h⟩; obtain rfl := h.symm; clear HS2)
              | (go_at_call 41; refine (HQ.out _).mono ?_; rintro e w1 ⟨rfl, h⟩; obtain rfl := h.symm; clear HQ)
              | (go_at_call 41; refine (HEa.out _).mono ?_; rintro e w1 ⟨rfl, h⟩; obtain rfl := h.symm; clear HEa)
              | (go_at_call 38; refine (HS3.out _).mono ?_; rintro e w1 ⟨rfl, h⟩; obtain rfl := h.symm; clear HS3)
              | (go_at_call 42; refine (HRu.out _ (HE.out.below B0.out) (Hru.out.call B0.out)).mono ?_; rintro e w2 ⟨rfl, b2⟩; have B2 := Lib.hid (below_then B0.out b2); clear HRu b2))
            go_ret
            exact ⟨by rw [HV.out] <;> rfl, B0.out⟩
          | true =>
            cases q5 with
            | false =>
              have HV : Hid (m = false) := Lib.hid (by rw [HM.out]; simp)
              go_enter Tryd.func24, Tryd.ntmps24
              go_wp2_with (first
                | (go_at_call 39; refine (HU.out _).mono ?_; rintro e w1 ⟨rfl, h⟩; obtain rfl := h.symm; clear HU)
                | (go_at_call 40; refine (HNm.out _).mono ?_; rintro e w1 ⟨rfl, h⟩; obtain rfl := h.symm; clear HNm)
                | (go_at_call 38; refine (HS1.out _).mono ?_; rintro e w1 ⟨rfl, h⟩; obtain rfl := h.symm; clear HS1)
                | (go_at_call 38; refine (HS2.out _).mono ?_; rintro e w1 ⟨rfl, h⟩; obtain rfl := h.symm; clear HS2)
                | (go_at_call 41; refine (HQ.out _).mono ?_; rintro e w1 ⟨rfl, h⟩; obtain rfl := h.symm; clear HQ)
                | (go_at_call 41; refine (HEa.out _).mono ?_; rintro e w1 ⟨rfl, h⟩; obtain rfl := h.symm; clear HEa)
                | (go_at_call 38; refine (HS3.out _).mono ?_; rintro e w1 ⟨rfl, h⟩; obtain rfl := h.symm; clear HS3)
                | (go_at_call 42; refine (HRu.out _ (HE.out.below B0.out) (Hru.out.call B0.out)).mono ?_; rintro e w2 ⟨rfl, b2⟩; have B2 := Lib.hid (below_then B0.out b2); clear HRu b2))
              go_ret
              exact ⟨by rw [HV.out] <;> rfl, B0.out⟩
            | true =>
              cases s3 with
              | false =>
                have HV : Hid (m = false) := Lib.hid (by rw [HM.out]; simp)
                go_enter Tryd.func24, Tryd.ntmps24
                go_wp2_with (first
                  | (go_at_call 39; refine (HU.out _).mono ?_; rintro e w1 ⟨rfl, h⟩; obtain rfl := h.symm; clear HU)
                  | (go_at_call 40; refine (HNm.out _).mono ?_; rintro e w1 ⟨rfl, h⟩; obtain rfl := h.symm; clear HNm)
                  | (go_at_call 38; refine (HS1.out _).mono ?_; rintro e w1 ⟨rfl, h⟩; obtain rfl := h.symm; clear HS1)
                  | (go_at_call 38; refine (HS2.out _).mono ?_; rintro e w1 ⟨rfl, h⟩; obtain rfl := h.symm; clear HS2)
                  | (go_at_call 41; refine (HQ.out _).mono ?_; rintro e w1 ⟨rfl, h⟩; obtain rfl := h.symm; clear HQ)
                  | (go_at_call 41; refine (HEa.out _).mono ?_; rintro e w1 ⟨rfl, h⟩; obtain rfl := h.symm; clear HEa)
                  | (go_at_call 38; refine (HS3.out _).mono ?_; rintro e w1 ⟨rfl, h⟩; obtain rfl := h.symm; clear HS3)
                  | (go_at_call 42; refine (HRu.out _ (HE.out.below B0.out) (Hru.out.call B0.out)).mono ?_; rintro e w2 ⟨rfl, b2⟩; have B2 := Lib.hid (below_then B0.out b2); clear HRu b2))
                go_ret
                exact ⟨by rw [HV.out] <;> rfl, B0.out⟩
              | true =>
                cases q3 with
                | false =>
                  have HV : Hid (m = false) := Lib.hid (by rw [HM.out]; simp)
                  go_enter Tryd.func24, Tryd.ntmps24
                  go_wp2_with (first
                    | (go_at_call 39; refine (HU.out _).mono ?_; rintro e w1 ⟨rfl, h⟩; obtain rfl := h.symm; clear HU)
                    | (go_at_call 40; refine (HNm.out _).mono ?_; rintro e w1 ⟨rfl, h⟩; obtain rfl := h.symm; clear HNm)
                    | (go_at_call 38; refine (HS1.out _).mono ?_; rintro e w1 ⟨rfl, h⟩; obtain rfl := h.symm; clear HS1)
                    | (go_at_call 38; refine (HS2.out _).mono ?_; rintro e w1 ⟨rfl, h⟩; obtain rfl := h.symm; clear HS2)
                    | (go_at_call 41; refine (HQ.out _).mono ?_; rintro e w1 ⟨rfl, h⟩; obtain rfl := h.symm; clear HQ)
                    | (go_at_call 41; refine (HEa.out _).mono ?_; rintro e w1 ⟨rfl, h⟩; obtain rfl := h.symm; clear HEa)
                    | (go_at_call 38; refine (HS3.out _).mono ?_; rintro e w1 ⟨rfl, h⟩; obtain rfl := h.symm; clear HS3)
                    | (go_at_call 42; refine (HRu.out _ (HE.out.below B0.out) (Hru.out.call B0.out)).mono ?_; rintro e w2 ⟨rfl, b2⟩; have B2 := Lib.hid (below_then B0.out b2); clear HRu b2))
                  go_ret
                  exact ⟨by rw [HV.out] <;> rfl, B2.out⟩
                | true =>
                  have HV : Hid (m = true) := Lib.hid (by rw [HM.out] <;> rfl)
                  go_enter Tryd.func24, Tryd.ntmps24
                  go_wp2_with (first
                    | (go_at_call 39; refine (HU.out _).mono ?_; rintro e w1 ⟨rfl, h⟩; obtain rfl := h.symm; clear HU)
                    | (go_at_call 40; refine (HNm.out _).mono ?_; rintro e w1 ⟨rfl, h⟩; obtain rfl := h.symm; clear HNm)
                    | (go_at_call 38; refine (HS1.out _).mono ?_; rintro e w1 ⟨rfl, h⟩; obtain rfl := h.symm; clear HS1)
                    | (go_at_call 38; refine (HS2.out _).mono ?_; rintro e w1 ⟨rfl, h⟩; obtain rfl := h.symm; clear HS2)
                    | (go_at_call 41; refine (HQ.out _).mono ?_; rintro e w1 ⟨rfl, h⟩; obtain rfl := h.symm; clear HQ)
                    | (go_at_call 41; refine (HEa.out _).mono ?_; rintro e w1 ⟨rfl, h⟩; obtain rfl := h.symm; clear HEa)
                    | (go_at_call 38; refine (HS3.out _).mono ?_; rintro e w1 ⟨rfl, h⟩; obtain rfl := h.symm; clear HS3)
                    | (go_at_call 42; refine (HRu.out _ (HE.out.below B0.out) (Hru.out.call B0.out)).mono ?_; rintro e w2 ⟨rfl, b2⟩; have B2 := Lib.hid (below_then B0.out b2); clear HRu b2))
                  go_ret
                  exact ⟨by rw [HV.out] <;> rfl, B2.out⟩

theorem hosts_of {w : World} {v : Value} {l : List Tn} (h : TensIs w v l) : HostsIs w v (l.map (·.host)) := by
  rcases h.2 with ⟨rfl, rfl⟩ | ⟨a, c, rfl, h1, h2, h3⟩
  · exact Or.inl ⟨rfl, rfl⟩
  · refine Or.inr ⟨a, c, by rw [List.length_map], by rw [List.length_map]; omega, fun i hi => ?_⟩
    rw [List.length_map] at hi
    have e0 := h3 i hi 0 (by omega)
    have e1 := h3 i hi 1 (by omega)
    rw [Nat.add_zero] at e0
    rw [List.getElem_map]
    exact ⟨⟨_, e0⟩, e1⟩
theorem find_hosted (l : List Tn) (h : List UInt8) : decide (findH (l.map (·.host)) h < 0) = !hosted l h := by
  unfold findH hosted
  cases hq : (l.map (·.host)).findIdx? (· == h) with
  | none =>
    rw [List.findIdx?_eq_none_iff] at hq
    have : l.any (fun t => t.host == h) = false := by
      rw [List.any_eq_false]
      intro t ht
      have := hq t.host (List.mem_map.2 ⟨t, ht, rfl⟩)
      simpa using this
    rw [this]; rfl
  | some i =>
    have hi := List.findIdx?_eq_some_iff_getElem.1 hq
    obtain ⟨h1, h2, _⟩ := hi
    rw [List.length_map] at h1
    rw [List.getElem_map] at h2
    have : l.any (fun t => t.host == h) = true := List.any_eq_true.2 ⟨l[i], List.getElem_mem _, h2⟩
    rw [this]
    simp

set_option maxHeartbeats 4000000 in
theorem new_any (t : Tn) (v : Value) (l : List Tn) (w : World) (hr : RulesIs w t.rv t.rs) (H : TensIs w v l) :
    Calls Tryd.prog 25 #[tenV t, v] w fun e w' => e = .returned (.bool (!hosted l t.host)) ∧ Below w.heap.size w w' := by
  obtain ⟨rp, rn, rc, hrv, hrn⟩ := hr.form
  obtain ⟨p, n, c, rfl, hn⟩ := H.form
  clear hrn hn hr
  obtain ⟨tn, th, ta, tb, tc, td, tp, lo, hh, tr, trs, ts, tho, tq, te⟩ := t
  simp only at *
  subst hrv
  have HD := Lib.hid (find_hosted l th)
  have HF := Lib.hid (fun W HR => find_any (.slice p n c) (l.map (·.host)) th W HR)
  have HH := Lib.hid (hosts_of H)
  have B0 := Lib.hid ((Below.refl w.heap.size w).alloc (Nat.le_refl _) (.cells #[.string ⟨tn.toArray⟩, .string ⟨th.toArray⟩, .int .u8 ta, .int .u8 tb, .int .u8 tc, .int .u8 td, .int .i64 tp, .int .i64 lo, .int .i64 hh, .slice rp rn rc, .int .i64 ts, .int .i64 tho, .int .i64 tq, .int .i64 te] 40))
  clear H
  generalize findH (l.map (·.host)) th = z at HD HF
  by_cases hz : z < 0
  · have HV : Hid ((!hosted l th) = true) := Lib.hid (by rw [← HD.out]; exact decide_eq_true hz)
    go_enter Tryd.func25, Tryd.ntmps25
    go_wp2_with (go_at_call 43; refine (HF.out _ (HH.out.call B0.out)).mono ?_; rintro e w1 ⟨rfl, b1⟩; have B1 := Lib.hid (below_then B0.out b1); clear HF b1)
    go_ret
    exact ⟨by rw [HV.out]; first | rfl | (simp; done) | (simp; omega), B1.out⟩
  · have HV : Hid ((!hosted l th) = false) := Lib.hid (by rw [← HD.out]; exact decide_eq_false hz)
    go_enter Tryd.func25, Tryd.ntmps25
    go_wp2_with (go_at_call 43; refine (HF.out _ (HH.out.call B0.out)).mono ?_; rintro e w1 ⟨rfl, b1⟩; have B1 := Lib.hid (below_then B0.out b1); clear HF b1)
    go_ret
    exact ⟨by rw [HV.out]; first | rfl | (simp; done) | (simp; omega), B1.out⟩

set_option maxHeartbeats 4000000 in
theorem mports_any (t : Tn) (w : World) (hr : RulesIs w t.rv t.rs) :
    Calls Tryd.prog 26 #[tenV t] w fun e w' => e = .returned (.bool (rangeB t)) ∧ Below w.heap.size w w' := by
  obtain ⟨rp, rn, rc, hrv, hrn⟩ := hr.form
  clear hrn hr
  have HM : Hid (rangeB t = (decide (1024 ≤ t.low) && (decide (t.low ≤ t.high) && decide (t.high ≤ 65535)))) := Lib.hid rfl
  generalize rangeB t = m at HM ⊢
  obtain ⟨tn, th, ta, tb, tc, td, tp, lo, hh, tr, trs, ts, tho, tq, te⟩ := t
  simp only at *
  subst hrv
  have B0 := Lib.hid ((Below.refl w.heap.size w).alloc (Nat.le_refl _) (.cells #[.string ⟨tn.toArray⟩, .string ⟨th.toArray⟩, .int .u8 ta, .int .u8 tb, .int .u8 tc, .int .u8 td, .int .i64 tp, .int .i64 lo, .int .i64 hh, .slice rp rn rc, .int .i64 ts, .int .i64 tho, .int .i64 tq, .int .i64 te] 40))
  by_cases h1 : 1024 ≤ lo
  · by_cases h2 : lo ≤ hh
    · by_cases h3 : hh ≤ 65535
      · have HV : Hid (m = true) := Lib.hid (by rw [HM.out, decide_eq_true h1, decide_eq_true h2, decide_eq_true h3]; rfl)
        go_enter Tryd.func26, Tryd.ntmps26
        go_wp2_with fail
        go_ret
        exact ⟨by rw [HV.out] <;> rfl, B0.out⟩
      · have HV : Hid (m = false) := Lib.hid (by rw [HM.out, decide_eq_true h1, decide_eq_true h2, decide_eq_false h3]; simp)
        have d3 : decide (hh ≤ 65535) = false := decide_eq_false h3
        go_enter Tryd.func26, Tryd.ntmps26
        go_wp2_with fail
        go_ret
        exact ⟨by rw [HV.out] <;> rfl, B0.out⟩
    · have HV : Hid (m = false) := Lib.hid (by rw [HM.out, decide_eq_true h1, decide_eq_false h2]; simp)
      have d2 : decide (lo ≤ hh) = false := decide_eq_false h2
      go_enter Tryd.func26, Tryd.ntmps26
      go_wp2_with fail
      go_ret
      exact ⟨by rw [HV.out] <;> rfl, B0.out⟩
  · have HV : Hid (m = false) := Lib.hid (by rw [HM.out, decide_eq_false h1]; simp)
    have d1 : decide (1024 ≤ lo) = false := decide_eq_false h1
    go_enter Tryd.func26, Tryd.ntmps26
    go_wp2_with fail
    go_ret
    exact ⟨by rw [HV.out] <;> rfl, B0.out⟩

set_option maxHeartbeats 8000000 in
theorem pnew_any (t : Tn) (v : Value) (l : List Tn) (w : World) (hr : RulesIs w t.rv t.rs) (H : TensIs w v l) :
    Calls Tryd.prog 27 #[tenV t, v] w fun e w' => e = .returned (.bool (!l.any (meet t))) ∧ Below w.heap.size w w' := by
  obtain ⟨rp, rn, rc, hrv, hrn⟩ := hr.form
  have hmax := H.max
  obtain ⟨p, n, c, rfl, hn⟩ := H.form
  have HN := Lib.hid hn
  have HT := Lib.hid H
  rw [← hn] at hmax
  clear hrn hn hr H
  have HMT : Hid (∀ u : Tn, meet t u = (decide (t.low ≤ u.high) && decide (u.low ≤ t.high))) := Lib.hid (fun _ => rfl)
  generalize hf : meet t = f at *
  obtain ⟨tn, th, ta, tb, tc, td, tp, lo, hh, tr, trs, ts, tho, tq, te⟩ := t
  simp only at *
  subst hrv
  clear hf
  have HX : Hid (∀ k (h : k < l.length), f l[k] = true → (!l.any f) = false) := Lib.hid (fun k h e => by rw [List.any_eq_true.2 ⟨l[k], List.getElem_mem _, e⟩]; rfl)
  have HE : Hid ((l.take n).any f = false → (!l.any f) = true) := Lib.hid (fun h => by rw [HN.out, List.take_length] at h; rw [h]; rfl)
  have HNX : Hid (∀ k (h : k < l.length), (l.take k).any f = false → f l[k] = false → (l.take (k + 1)).any f = false) := Lib.hid (fun k h h1 h2 => by rw [any_next h, h1, h2]; rfl)
  have B0 := Lib.hid ((Below.refl w.heap.size w).alloc (Nat.le_refl _) (.cells #[.string ⟨tn.toArray⟩, .string ⟨th.toArray⟩, .int .u8 ta, .int .u8 tb, .int .u8 tc, .int .u8 td, .int .i64 tp, .int .i64 lo, .int .i64 hh, .slice rp rn rc, .int .i64 ts, .int .i64 tho, .int .i64 tq, .int .i64 te] 40))
  have R0 := Lib.hid (IsRow.made w 40 #[.string ⟨tn.toArray⟩, .string ⟨th.toArray⟩, .int .u8 ta, .int .u8 tb, .int .u8 tc, .int .u8 td, .int .i64 tp, .int .i64 lo, .int .i64 hh, .slice rp rn rc, .int .i64 ts, .int .i64 tho, .int .i64 tq, .int .i64 te])
  generalize (!l.any f) = m at HX HE ⊢
  go_enter Tryd.func27, Tryd.ntmps27
  go_wp2_with fail
  go_loopw [9] (fun x9 wr => ∃ k : Nat, x9 = .int .i64 (k : Int) ∧ k ≤ n ∧ Hid ((l.take k).any f = false) ∧ Hid (IsRow wr w.heap.size 40 #[.string ⟨tn.toArray⟩, .string ⟨th.toArray⟩, .int .u8 ta, .int .u8 tb, .int .u8 tc, .int .u8 td, .int .i64 tp, .int .i64 lo, .int .i64 hh, .slice rp rn rc, .int .i64 ts, .int .i64 tho, .int .i64 tq, .int .i64 te]) ∧ Hid (Below w.heap.size w wr)) (fun x _ => n - (intOf x).toNat)
  case atStart => exact ⟨0, rfl, Nat.zero_le _, Lib.hid (by simp), R0, B0⟩
  case round =>
    obtain ⟨k, rfl, hk, HO, TR, HB⟩ := hrel
    by_cases hlt : k < n
    · have hji : (k : Int) < (n : Int) := by omega
      have HK : Hid (k + 1 ≤ n) := Lib.hid hlt
      have hkl : k < l.length := by have := HN.out; omega
      have HTW := HT.out.call HB.out
      obtain ⟨bb, o, rfl, hbl, hcell⟩ := HTW.some (by omega)
      have TK := hcell k hkl
      have hru := HTW.1 l[k] (List.getElem_mem _)
      obtain ⟨sp, sn, sc, hsv, -⟩ := hru.form
      have HXK := Lib.hid (HX.out k hkl)
      have HNK := Lib.hid (HNX.out k hkl HO.out)
      have HMK := Lib.hid (HMT.out l[k])
      clear hcell HTW hru
      generalize l[k] = u at *
      have e0 := TK.c0; have e1 := TK.c1; have e2 := TK.c2; have e3 := TK.c3; have e4 := TK.c4; have e5 := TK.c5; have e6 := TK.c6; have e7 := TK.c7; have e8 := TK.c8; have e9 := TK.c9; have e10 := TK.c10; have e11 := TK.c11; have e12 := TK.c12; have e13 := TK.c13
      rw [hsv] at e9
      have y7 := TR.out.cell 7
      have y8 := TR.out.cell 8
      have yl := TR.out.lt
      have RA := Lib.hid (TR.out.alloc (.cells #[.string ⟨u.name.toArray⟩, .string ⟨u.host.toArray⟩, .int .u8 u.a, .int .u8 u.b, .int .u8 u.c, .int .u8 u.d, .int .i64 u.port, .int .i64 u.low, .int .i64 u.high, .slice sp sn sc, .int .i64 u.sess, .int .i64 u.holes, .int .i64 u.quota, .int .i64 u.each] 40))
      have BA := Lib.hid (HB.out.alloc HB.out.size (.cells #[.string ⟨u.name.toArray⟩, .string ⟨u.host.toArray⟩, .int .u8 u.a, .int .u8 u.b, .int .u8 u.c, .int .u8 u.d, .int .i64 u.port, .int .i64 u.low, .int .i64 u.high, .slice sp sn sc, .int .i64 u.sess, .int .i64 u.holes, .int .i64 u.quota, .int .i64 u.each] 40))
      clear TK hsv
      by_cases q1 : lo ≤ u.high
      · by_cases q2 : u.low ≤ hh
        · have HV := Lib.hid (HXK.out (by rw [HMK.out, decide_eq_true q1, decide_eq_true q2]; rfl))
          clear HXK HNK HMK HX HMT HE
          go_wp2_with fail
          go_ret
          exact ⟨by rw [HV.out] <;> rfl, BA.out⟩
        · have HV := Lib.hid (HNK.out (by rw [HMK.out, decide_eq_true q1, decide_eq_false q2]; rfl))
          clear HXK HNK HMK
          go_wp2_with fail
          go_roundw
          case rel => exact ⟨k + 1, by go_num, HK.out, HV, RA, BA⟩
          case measure => have := HK.out; simp [intOf]; omega
      · have HV := Lib.hid (HNK.out (by rw [HMK.out, decide_eq_false q1]; rfl))
        have q1d : decide (lo ≤ u.high) = false := decide_eq_false q1
        clear HXK HNK HMK
        go_wp2_with fail
        go_roundw
        case rel => exact ⟨k + 1, by go_num, HK.out, HV, RA, BA⟩
        case measure => have := HK.out; simp [intOf]; omega
    · have hji : ¬ (k : Int) < (n : Int) := by omega
      obtain rfl : k = n := by omega
      have HV := Lib.hid (HE.out HO.out)
      clear HX HMT HE
      go_wp2_with fail
      go_ret
      exact ⟨by rw [HV.out] <;> rfl, HB.out⟩

#print axioms whole_any
#print axioms ten_any
#print axioms new_any
#print axioms mports_any
#print axioms pnew_any
end Go.Proofs.YtmodmfkcigibpaaDoor.Co
