/- The document's answer of layer 13: whether a number is between two, whether a tenant's ports may be. -/
import Derived.Test.YtmodmfkcigibpaaDoorConfArg
import Derived.Test.YtmodmfkcigibpaaDoorEnvBare
import Derived.BigQuiet
import Derived.Deep.QuietTactic
import Derived.Deep.RegionHeld
namespace Go.Proofs.YtmodmfkcigibpaaDoor.Co
open Go.Proofs.YtmodmfkcigibpaaDoor Go.Proofs.YtmodmfkcigibpaaDoor.Ac
open Go Go.ChangeShapes Go.WideShapes Go.ChangeAt Go.RowKit
set_option maxRecDepth 100000
set_option linter.unusedSimpArgs false
set_option linter.unusedVariables false

theorem rin_any (n lo hi : Int) (w : World) : Calls Tryd.prog 20 #[.int .i64 n, .int .i64 lo, .int .i64 hi] w fun e w' => e = .returned (.bool (inB n lo hi)) ∧ w = w' := by
  have HM : Hid (inB n lo hi = (decide (lo ≤ n) && decide (n ≤ hi))) := Lib.hid rfl
  generalize inB n lo hi = m at HM ⊢
  by_cases h1 : lo ≤ n
  · by_cases h2 : n ≤ hi
    · have HV : Hid (m = true) := Lib.hid (by rw [HM.out, decide_eq_true h1, decide_eq_true h2]; rfl)
      go_enter Tryd.func20, Tryd.ntmps20
      go_wp2_with fail
      go_ret
      exact ⟨by rw [HV.out] <;> rfl, rfl⟩
    · have HV : Hid (m = false) := Lib.hid (by rw [HM.out, decide_eq_true h1, decide_eq_false h2]; rfl)
      go_enter Tryd.func20, Tryd.ntmps20
      go_wp2_with fail
      go_ret
      exact ⟨by rw [HV.out] <;> rfl, rfl⟩
  · have HV : Hid (m = false) := Lib.hid (by rw [HM.out, decide_eq_false h1]; rfl)
    go_enter Tryd.func20, Tryd.ntmps20
    go_wp2_with fail
    go_ret
    exact ⟨by rw [HV.out] <;> rfl, rfl⟩

theorem any_next {α : Type} {l : List α} {f : α → Bool} {k : Nat} (h : k < l.length) : (l.take (k + 1)).any f = ((l.take k).any f || f l[k]) := by
  rw [List.take_succ_eq_append_getElem h, List.any_append]; simp
theorem any_hit {α : Type} {l : List α} {f : α → Bool} {k i : Nat} (h : k < l.length) (hi : k < i) (hf : f l[k] = true) : (l.take i).any f = true :=
  List.any_eq_true.2 ⟨l[k], List.mem_take_iff_getElem.2 ⟨k, by omega, rfl⟩, hf⟩

set_option maxHeartbeats 8000000 in
theorem rports_any (a b c d : Int) (tv : Value) (pre life idle : Int) (lf : Bool) (l : List Tn) (i : Nat) (hi : i < l.length) (w : World) (H : TensIs w tv l) :
    Calls Tryd.prog 22 #[confV a b c d tv pre life idle lf, .int .i64 (i : Int)] w fun e w' => e = .returned (.bool (portsOk (l.take i) l[i])) ∧ Below w.heap.size w w' := by
  have hmax := H.max
  obtain ⟨p, n, cc, rfl, hn⟩ := H.form
  have HN := Lib.hid hn
  have hin : i < n := by rw [hn]; exact hi
  have hin' : (i : Int) < (n : Int) := by omega
  rw [← hn] at hmax
  obtain ⟨bb, o, rfl, hbl, hcell⟩ := H.some (by omega)
  have T0 := Lib.hid (hcell i hi)
  have HC := Lib.hid hcell
  obtain ⟨rp, rn, rc, hrv, hrn⟩ := (H.1 l[i] (List.getElem_mem _)).form
  clear hn H hcell hrn
  have HP : Hid (portsOk (l.take i) l[i] = (rangeB l[i] && !(l.take i).any (meet l[i]))) := Lib.hid rfl
  generalize portsOk (l.take i) l[i] = m at HP ⊢
  have HI := Lib.hid hi
  generalize hT : l[i] = t at *
  have HX : Hid (∀ k, k < l.length → k < i → (h : k < l.length) → meet t l[k] = true → m = false) := Lib.hid (fun k hk hki h hm => by rw [HP.out, any_hit (f := meet t) h hki hm]; cases rangeB t <;> rfl)
  have HR : Hid (rangeB t = (decide (1024 ≤ t.low) && (decide (t.low ≤ t.high) && decide (t.high ≤ 65535)))) := Lib.hid rfl
  have HMT : Hid (∀ u : Tn, meet t u = (decide (t.low ≤ u.high) && decide (u.low ≤ t.high))) := Lib.hid (fun _ => rfl)
  have B9 := Lib.hid (((Below.refl w.heap.size w).alloc (Nat.le_refl _) (.cells #[.int .u8 a, .int .u8 b, .int .u8 c, .int .u8 d, .slice (some ⟨bb, o, none⟩) n cc, .int .i64 pre, .int .i64 life, .int .i64 idle, .bool lf] 26)).alloc (by simp) (.cells #[.string ⟨t.name.toArray⟩, .string ⟨t.host.toArray⟩, .int .u8 t.a, .int .u8 t.b, .int .u8 t.c, .int .u8 t.d, .int .i64 t.port, .int .i64 t.low, .int .i64 t.high, .slice rp rn rc, .int .i64 t.sess, .int .i64 t.holes, .int .i64 t.quota, .int .i64 t.each] 40))
  have c0 := T0.out.c0; have c1 := T0.out.c1; have c2 := T0.out.c2; have c3 := T0.out.c3; have c4 := T0.out.c4; have c5 := T0.out.c5; have c6 := T0.out.c6; have c7 := T0.out.c7; have c8 := T0.out.c8; have c9 := T0.out.c9; have c10 := T0.out.c10; have c11 := T0.out.c11; have c12 := T0.out.c12; have c13 := T0.out.c13
  rw [hrv] at c9
  clear hrv hT T0
  obtain ⟨tn, th, ta, tb, tc, td, tp, lo, hh, tr, trs, ts, tho, tq, te⟩ := t
  simp only at *
  by_cases g1 : lo < 1024
  · have HV : Hid (m = false) := Lib.hid (by rw [HP.out, HR.out, decide_eq_false (show ¬ 1024 ≤ lo by omega)]; rfl)
    clear HX HMT HP HR
    go_enter Tryd.func22, Tryd.ntmps22
    go_wp2_with fail
    go_ret
    exact ⟨by rw [HV.out] <;> rfl, B9.out⟩
  by_cases g2 : hh < lo
  · have HV : Hid (m = false) := Lib.hid (by rw [HP.out, HR.out, decide_eq_false (show ¬ lo ≤ hh by omega)]; cases decide (1024 ≤ lo) <;> rfl)
    clear HX HMT HP HR
    go_enter Tryd.func22, Tryd.ntmps22
    go_wp2_with fail
    go_ret
    exact ⟨by rw [HV.out] <;> rfl, B9.out⟩
  by_cases g3 : 65535 < hh
  · have HV : Hid (m = false) := Lib.hid (by rw [HP.out, HR.out, decide_eq_false (show ¬ hh ≤ 65535 by omega)]; cases decide (1024 ≤ lo) <;> cases decide (lo ≤ hh) <;> rfl)
    clear HX HMT HP HR
    go_enter Tryd.func22, Tryd.ntmps22
    go_wp2_with fail
    go_ret
    exact ⟨by rw [HV.out] <;> rfl, B9.out⟩
  have HE : Hid ((l.take i).any (meet ⟨tn, th, ta, tb, tc, td, tp, lo, hh, tr, trs, ts, tho, tq, te⟩) = false → m = true) := Lib.hid (fun h => by rw [HP.out, HR.out, h, decide_eq_true (show 1024 ≤ lo by omega), decide_eq_true (show lo ≤ hh by omega), decide_eq_true (show hh ≤ 65535 by omega)]; rfl)
  clear HP HR
  go_enter Tryd.func22, Tryd.ntmps22
  go_wp2_with fail
  clear c0 c1 c2 c3 c4 c5 c6 c7 c8 c9 c10 c11 c12 c13
  have C0 := Lib.hid ((IsRow.made w 26 #[.int .u8 a, .int .u8 b, .int .u8 c, .int .u8 d, .slice (some ⟨bb, o, none⟩) n cc, .int .i64 pre, .int .i64 life, .int .i64 idle, .bool lf]).alloc (.cells #[.string ⟨tn.toArray⟩, .string ⟨th.toArray⟩, .int .u8 ta, .int .u8 tb, .int .u8 tc, .int .u8 td, .int .i64 tp, .int .i64 lo, .int .i64 hh, .slice rp rn rc, .int .i64 ts, .int .i64 tho, .int .i64 tq, .int .i64 te] 40))
  have R0 := Lib.hid (IsRow.made (w.alloc (.cells #[.int .u8 a, .int .u8 b, .int .u8 c, .int .u8 d, .slice (some ⟨bb, o, none⟩) n cc, .int .i64 pre, .int .i64 life, .int .i64 idle, .bool lf] 26)) 40 #[.string ⟨tn.toArray⟩, .string ⟨th.toArray⟩, .int .u8 ta, .int .u8 tb, .int .u8 tc, .int .u8 td, .int .i64 tp, .int .i64 lo, .int .i64 hh, .slice rp rn rc, .int .i64 ts, .int .i64 tho, .int .i64 tq, .int .i64 te])
  rw [show (w.alloc (.cells #[.int .u8 a, .int .u8 b, .int .u8 c, .int .u8 d, .slice (some ⟨bb, o, none⟩) n cc, .int .i64 pre, .int .i64 life, .int .i64 idle, .bool lf] 26)).heap.size = w.heap.size + 1 from by simp] at R0
  go_loopw [6] (fun x6 wr => ∃ k : Nat, x6 = .int .i64 (k : Int) ∧ k ≤ i ∧ Hid ((l.take k).any (meet ⟨tn, th, ta, tb, tc, td, tp, lo, hh, tr, trs, ts, tho, tq, te⟩) = false) ∧ Hid (IsRow wr w.heap.size 26 #[.int .u8 a, .int .u8 b, .int .u8 c, .int .u8 d, .slice (some ⟨bb, o, none⟩) n cc, .int .i64 pre, .int .i64 life, .int .i64 idle, .bool lf]) ∧ Hid (IsRow wr (w.heap.size + 1) 40 #[.string ⟨tn.toArray⟩, .string ⟨th.toArray⟩, .int .u8 ta, .int .u8 tb, .int .u8 tc, .int .u8 td, .int .i64 tp, .int .i64 lo, .int .i64 hh, .slice rp rn rc, .int .i64 ts, .int .i64 tho, .int .i64 tq, .int .i64 te]) ∧ Hid (Below w.heap.size w wr)) (fun x _ => i - (intOf x).toNat)
  case atStart => exact ⟨0, rfl, Nat.zero_le _, Lib.hid (by simp), C0, R0, B9⟩
  case round =>
    obtain ⟨k, rfl, hk, HO, CR, TR, HB⟩ := hrel
    by_cases hlt : k < i
    · have hji : (k : Int) < (i : Int) := by omega
      have hkn : (k : Int) < (n : Int) := by omega
      have HK : Hid (k + 1 ≤ i) := Lib.hid hlt
      have hkl : k < l.length := by have := HI.out; omega
      have TK := (HC.out k hkl).call HB.out
      have e7 := TK.c7
      have e8 := TK.c8
      have y4 := CR.out.cell 4
      have y7 := TR.out.cell 7
      have y8 := TR.out.cell 8
      have yl := CR.out.lt
      have yl2 := TR.out.lt
      have hbl2 := TK.lt
      clear TK
      have HXK := Lib.hid (HX.out k hkl hlt hkl)
      have HNK : Hid (meet ⟨tn, th, ta, tb, tc, td, tp, lo, hh, tr, trs, ts, tho, tq, te⟩ l[k] = false → (l.take (k + 1)).any (meet ⟨tn, th, ta, tb, tc, td, tp, lo, hh, tr, trs, ts, tho, tq, te⟩) = false) := Lib.hid (fun h => by rw [any_next hkl, HO.out, h]; rfl)
      have HMK := Lib.hid (HMT.out l[k])
      generalize l[k] = u at *
      by_cases q1 : lo ≤ u.high
      · by_cases q2 : u.low ≤ hh
        · have HV := Lib.hid (HXK.out (by rw [HMK.out, decide_eq_true q1, decide_eq_true q2]; rfl))
          clear HXK HNK HMK HX HMT HE
          go_wp2_with fail
          go_quiet (fail)
          go_wp2_with fail
          go_ret
          exact ⟨by rw [HV.out] <;> rfl, HB.out.trans ⟨rfl, rfl, rfl, Nat.le_refl _, fun _ _ => rfl⟩⟩
        · have HV := Lib.hid (HNK.out (by rw [HMK.out, decide_eq_true q1, decide_eq_false q2]; rfl))
          clear HXK HNK HMK
          go_wp2_with fail
          go_quiet (fail)
          go_wp2_with fail
          go_roundw
          case rel => exact ⟨k + 1, by go_num, HK.out, HV, Lib.hid CR.out.drew, Lib.hid TR.out.drew, Lib.hid (HB.out.trans ⟨rfl, rfl, rfl, Nat.le_refl _, fun _ _ => rfl⟩)⟩
          case measure => have := HK.out; simp [intOf]; omega
      · have HV := Lib.hid (HNK.out (by rw [HMK.out, decide_eq_false q1]; rfl))
        have q1d : decide (lo ≤ u.high) = false := decide_eq_false q1
        clear HXK HNK HMK
        go_wp2_with fail
        go_quiet (fail)
        go_wp2_with fail
        go_roundw
        case rel => exact ⟨k + 1, by go_num, HK.out, HV, Lib.hid CR.out.drew, Lib.hid TR.out.drew, Lib.hid (HB.out.trans ⟨rfl, rfl, rfl, Nat.le_refl _, fun _ _ => rfl⟩)⟩
        case measure => have := HK.out; simp [intOf]; omega
    · have hji : ¬ (k : Int) < (i : Int) := by omega
      obtain rfl : k = i := by omega
      have HV := Lib.hid (HE.out HO.out)
      clear HX HMT HE
      go_wp2_with fail
      go_ret
      exact ⟨by rw [HV.out] <;> rfl, HB.out⟩

#print axioms rin_any
#print axioms rports_any
end Go.Proofs.YtmodmfkcigibpaaDoor.Co
