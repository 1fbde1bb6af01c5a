/- The contracts of conf.Why and conf.May (gen-conf-code.py). -/
import Derived.Test.YtmodmfkcigibpaaDoorConfCheck
namespace Go.Proofs.YtmodmfkcigibpaaDoor.Co
open Go.Proofs.YtmodmfkcigibpaaDoor Go.Proofs.YtmodmfkcigibpaaDoor.Ac Go.Proofs.YtmodmfkcigibpaaDoor.Ro
open Go Go.ChangeShapes Go.WideShapes Go.ChangeAt Go.RowKit
set_option maxRecDepth 100000
set_option linter.unusedSimpArgs false
set_option linter.unusedVariables false

/-- all may be, or something is wrong at a place, and it is one of three -/
theorem why_reason (pre life idle : Int) (l : List Tn) : why pre life idle l = (-1, 0) ∨ ∃ x r, why pre life idle l = (x, r) ∧ (r = 1 ∨ r = 2 ∨ r = 3) := by
  rcases why_ways pre life idle l with h | h | ⟨k, _, _, _, _, h1, _, h2⟩
  · exact Or.inl (why_fine h)
  · exact Or.inr ⟨-1, 1, h, Or.inl rfl⟩
  · refine Or.inr ⟨(k : Int), badAt l k, h2, ?_⟩
    rcases h1 with h1 | h1 <;> rw [h1]
    · exact Or.inr (Or.inl rfl)
    · exact Or.inr (Or.inr rfl)
theorem check_of (a b c d : Int) (tv : Value) (pre life idle : Int) (lf : Bool) (l : List Tn) (hf : Few l) (z : Int × Int) (h : why pre life idle l = z) (V : Value) (aC aT aP : Addr) (hV : errOf aC aT aP z = V) (w : World) (E : Env w) (R : Errs aC aT aP w) (H : TensIs w tv l) :
    Calls Tryd.prog 15 #[confV a b c d tv pre life idle lf] w fun e w' => e = .returned V ∧ Below w.heap.size w w' := by
  have := check_any a b c d tv pre life idle lf l hf aC aT aP w E R H
  rw [h, hV] at this; exact this

set_option maxHeartbeats 4000000 in
theorem why_nil (a b c d : Int) (tv : Value) (pre life idle : Int) (lf : Bool) (l : List Tn) (hf : Few l) (aC aT aP : Addr) (h : why pre life idle l = (-1, 0)) (w : World) (E : Env w) (R : Errs aC aT aP w) (H : TensIs w tv l) :
    Calls Tryd.prog 11 #[confV a b c d tv pre life idle lf] w fun e w' => e = .returned (.tuple #[.int .i64 (-1), .int .i64 0]) ∧ Below w.heap.size w w' := by
  have HTr := Lib.hid H
  have HE := Lib.hid E
  have RE := Lib.hid R
  have HC := Lib.hid (fun W EW RW HR => check_of a b c d tv pre life idle lf l hf (-1, 0) h .nilIface aC aT aP rfl W EW RW HR)
  obtain ⟨p, n, cc, rfl, hn⟩ := H.form
  clear hn H E R h
  have B0 := Lib.hid ((Below.refl w.heap.size w).alloc (Nat.le_refl _) (.cells #[.int .u8 a, .int .u8 b, .int .u8 c, .int .u8 d, .slice p n cc, .int .i64 pre, .int .i64 life, .int .i64 idle, .bool lf] 26))
  go_enter Tryd.func11, Tryd.ntmps11
  go_wp2_with (first
    | (go_at_call 15; refine (HC.out _ (HE.out.below B0.out) (RE.out.below B0.out) (HTr.out.call B0.out)).mono ?_; rintro e w1 ⟨rfl, b1⟩; have B1 := Lib.hid (below_then B0.out b1); have BF := Lib.hid (B1.out.alloc B1.out.size (.cells #[.int .i64 0, .nilIface] 46)); clear HC b1)
    | (go_at_call 18; refine (as_nil _ _).mono ?_; rintro e w2 ⟨rfl, h⟩; obtain rfl := h.symm)
    | (go_at_call 19; refine (number_nil aC aT aP _ (RE.out.below BF.out)).mono ?_; rintro e w2 ⟨rfl, h⟩; obtain rfl := h.symm))
  go_ret2
  exact ⟨rfl, BF.out⟩

set_option maxHeartbeats 4000000 in
theorem why_fault (a b c d : Int) (tv : Value) (pre life idle : Int) (lf : Bool) (l : List Tn) (x r : Int) (a0 aC aT aP : Addr)
    (HC : ∀ W, Env W → Errs aC aT aP W → TensIs W tv l → Calls Tryd.prog 15 #[confV a b c d tv pre life idle lf] W fun e w' => e = .returned (faultV x a0) ∧ Below W.heap.size W w')
    (HN : ∀ W, Errs aC aT aP W → Calls Tryd.prog 19 #[faultV x a0] W fun e w' => e = .returned (.int .i64 r) ∧ Below W.heap.size W w')
    (w : World) (E : Env w) (R : Errs aC aT aP w) (H : TensIs w tv l) :
    Calls Tryd.prog 11 #[confV a b c d tv pre life idle lf] w fun e w' => e = .returned (.tuple #[.int .i64 x, .int .i64 r]) ∧ Below w.heap.size w w' := by
  have HTr := Lib.hid H
  have HE := Lib.hid E
  have RE := Lib.hid R
  have HC2 := Lib.hid HC
  have HN2 := Lib.hid HN
  obtain ⟨p, n, cc, rfl, hn⟩ := H.form
  clear hn H E R HC HN
  have B0 := Lib.hid ((Below.refl w.heap.size w).alloc (Nat.le_refl _) (.cells #[.int .u8 a, .int .u8 b, .int .u8 c, .int .u8 d, .slice p n cc, .int .i64 pre, .int .i64 life, .int .i64 idle, .bool lf] 26))
  go_enter Tryd.func11, Tryd.ntmps11
  go_wp2_with (first
    | (go_at_call 15; refine (HC2.out _ (HE.out.below B0.out) (RE.out.below B0.out) (HTr.out.call B0.out)).mono ?_; rintro e w1 ⟨rfl, b1⟩; have B1 := Lib.hid (below_then B0.out b1); have BF := Lib.hid (B1.out.alloc B1.out.size (.cells #[.int .i64 0, .nilIface] 46)); have HA := Lib.hid (as_hit w1.heap.size x a0 46 (.int .i64 0) .nilIface _ (RE.out.below BF.out).et (IsRow.made w1 _ _)); clear HC2 b1)
    | (go_at_call 18; refine HA.out.mono ?_; rintro e w2 ⟨rfl, hr, hb⟩; have B2 := Lib.hid (B1.out.trans ((((Below.refl w1.heap.size w1).alloc (Nat.le_refl _) (.cells #[.int .i64 0, .nilIface] 46)).trans hb).mono B1.out.size)); have c0 : w2.cell? ⟨w1.heap.size, 0, none⟩ = some (.int .i64 x) := hr.cell 0; have cl := hr.lt; clear HA hr hb)
    | (go_at_call 19; refine (HN2.out _ (RE.out.below B2.out)).mono ?_; rintro e w3 ⟨rfl, b3⟩; have B3 := Lib.hid (below_then B2.out b3); clear HN2 b3))
  go_ret2
  exact ⟨rfl, B3.out⟩

theorem conf_why (a b c d : Int) (tv : Value) (pre life idle : Int) (lf : Bool) (l : List Tn) (hf : Few l) (w : World) (E : Env w) (H : TensIs w tv l) :
    Calls Tryd.prog 11 #[confV a b c d tv pre life idle lf] w fun e w' => e = .returned (.tuple #[.int .i64 (why pre life idle l).1, .int .i64 (why pre life idle l).2]) ∧ Below w.heap.size w w' := by
  obtain ⟨aC, aT, aP, R⟩ := E.errs
  rcases why_reason pre life idle l with h | ⟨x, r, h, rfl | rfl | rfl⟩
  · rw [h]
    exact why_nil a b c d tv pre life idle lf l hf aC aT aP h w E R H
  · rw [h]
    exact why_fault a b c d tv pre life idle lf l x 1 aC aC aT aP (fun W EW RW HR => check_of a b c d tv pre life idle lf l hf (x, 1) h _ aC aT aP rfl W EW RW HR) (fun W RW => number_conf x aC aT aP W RW) w E R H
  · rw [h]
    exact why_fault a b c d tv pre life idle lf l x 2 aT aC aT aP (fun W EW RW HR => check_of a b c d tv pre life idle lf l hf (x, 2) h _ aC aT aP rfl W EW RW HR) (fun W RW => number_ten x aC aT aP W RW) w E R H
  · rw [h]
    exact why_fault a b c d tv pre life idle lf l x 3 aP aC aT aP (fun W EW RW HR => check_of a b c d tv pre life idle lf l hf (x, 3) h _ aC aT aP rfl W EW RW HR) (fun W RW => number_ports x aC aT aP W RW) w E R H

set_option maxHeartbeats 4000000 in
theorem conf_may (a b c d : Int) (tv : Value) (pre life idle : Int) (lf : Bool) (l : List Tn) (hf : Few l) (w : World) (E : Env w) (H : TensIs w tv l) :
    Calls Tryd.prog 14 #[confV a b c d tv pre life idle lf] w fun e w' => e = .returned (.bool (mayC pre life idle l)) ∧ Below w.heap.size w w' := by
  have HTr := Lib.hid H
  have HE := Lib.hid E
  obtain ⟨z1, z2, hz⟩ : ∃ x y, why pre life idle l = (x, y) := ⟨_, _, rfl⟩
  have HWh := Lib.hid (fun W EW HR => conf_why a b c d tv pre life idle lf l hf W EW HR)
  rw [hz] at HWh
  have HV := Lib.hid (mayC_eq hz)
  clear hz H E hf
  generalize mayC pre life idle l = m at HV ⊢
  obtain ⟨p, n, cc, rfl, hn⟩ := HTr.out.form
  clear hn
  have B0 := Lib.hid ((Below.refl w.heap.size w).alloc (Nat.le_refl _) (.cells #[.int .u8 a, .int .u8 b, .int .u8 c, .int .u8 d, .slice p n cc, .int .i64 pre, .int .i64 life, .int .i64 idle, .bool lf] 26))
  go_enter Tryd.func14, Tryd.ntmps14
  go_wp2_with (go_at_call 11; refine (HWh.out _ (HE.out.below B0.out) (HTr.out.call B0.out)).mono ?_; rintro e w1 ⟨rfl, b1⟩; have B1 := Lib.hid (below_then B0.out b1); clear HWh b1)
  go_ret
  exact ⟨by rw [HV.out] <;> rfl, B1.out⟩

#print axioms conf_why
#print axioms conf_may
end Go.Proofs.YtmodmfkcigibpaaDoor.Co
