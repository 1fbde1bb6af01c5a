/- errors.Is at no error; the number of an error (gen-conf-code.py). -/
import Derived.Test.YtmodmfkcigibpaaDoorConfErr
namespace Go.Proofs.YtmodmfkcigibpaaDoor.Co
open Go Go.RowKit Go.Extern.Stop Go.Stop Go.Extern Go.Proofs.YtmodmfkcigibpaaDoor
set_option maxRecDepth 100000
set_option linter.unusedSimpArgs false
set_option linter.unusedVariables false

/-- no error is none -/
theorem is_nil (b : Addr) (w : World) :
    Calls Tryd.prog 16 #[.nilIface, newV b] w fun e w' => e = .returned (.bool false) ∧ w' = w := by
  have hn := run_eql_iface_nil_left (P := Tryd.prog) (w := w) 125 (.pointer (some b)) Tryd.underlying32
  go_enter Tryd.func16, Tryd.ntmps16
  go_wp2
  go_ret
  exact ⟨rfl, rfl⟩

theorem number_nil (aC aT aP : Addr) (w : World) (R0 : Errs aC aT aP w) :
    Calls Tryd.prog 19 #[.nilIface] w fun e w' => e = .returned (.int .i64 0) ∧ w' = w := by
  have k0 := R0.conf
  have k1 := R0.ten
  have k2 := R0.ports
  have H1 := Lib.hid (fun W => is_nil aC W)
  have H2 := Lib.hid (fun W => is_nil aT W)
  have H3 := Lib.hid (fun W => is_nil aP W)
  clear R0
  go_enter Tryd.func19, Tryd.ntmps19
  go_wp2_with (first
    | (go_at_call 16; refine (H1.out _).mono ?_; rintro e w1 ⟨rfl, h⟩; obtain rfl := h.symm; clear H1)
    | (go_at_call 16; refine (H2.out _).mono ?_; rintro e w1 ⟨rfl, h⟩; obtain rfl := h.symm; clear H2)
    | (go_at_call 16; refine (H3.out _).mono ?_; rintro e w1 ⟨rfl, h⟩; obtain rfl := h.symm; clear H3))
  go_ret
  exact ⟨rfl, by first | rfl | trivial⟩

set_option maxHeartbeats 4000000 in
theorem number_conf (x : Int) (aC aT aP : Addr) (w : World) (R0 : Errs aC aT aP w) :
    Calls Tryd.prog 19 #[faultV x aC] w fun e w' => e = .returned (.int .i64 1) ∧ Below w.heap.size w w' := by
  have R := Lib.hid R0
  have k0 := R0.conf
  have H1 := Lib.hid (fun W => is_same x aC W)
  clear R0
  go_enter Tryd.func19, Tryd.ntmps19
  go_wp2_with (first
    | (go_at_call 16; refine (H1.out _).mono ?_; rintro e w1 ⟨rfl, b1⟩; have B1 := Lib.hid b1; have k1 := (R.out.below B1.out).ten; clear H1 b1))
  go_ret
  exact ⟨rfl, B1.out⟩

set_option maxHeartbeats 4000000 in
theorem number_ten (x : Int) (aC aT aP : Addr) (w : World) (R0 : Errs aC aT aP w) :
    Calls Tryd.prog 19 #[faultV x aT] w fun e w' => e = .returned (.int .i64 2) ∧ Below w.heap.size w w' := by
  have R := Lib.hid R0
  have k0 := R0.conf
  have H1 := Lib.hid (fun W (hA : Stone W aT) (hB : Stone W aC) => is_other x aT aC W (R0.neCT.symm) hA hB)
  have H2 := Lib.hid (fun W => is_same x aT W)
  clear R0
  go_enter Tryd.func19, Tryd.ntmps19
  go_wp2_with (first
    | (go_at_call 16; refine (H1.out _ R.out.rowT R.out.rowC).mono ?_; rintro e w1 ⟨rfl, b1⟩; have B1 := Lib.hid b1; have k1 := (R.out.below B1.out).ten; clear H1 b1)
    | (go_at_call 16; refine (H2.out _).mono ?_; rintro e w2 ⟨rfl, b2⟩; have B2 := Lib.hid (below_trans B1.out b2); have k2 := (R.out.below B2.out).ports; clear H2 b2))
  go_ret
  exact ⟨rfl, B2.out⟩

set_option maxHeartbeats 4000000 in
theorem number_ports (x : Int) (aC aT aP : Addr) (w : World) (R0 : Errs aC aT aP w) :
    Calls Tryd.prog 19 #[faultV x aP] w fun e w' => e = .returned (.int .i64 3) ∧ Below w.heap.size w w' := by
  have R := Lib.hid R0
  have k0 := R0.conf
  have H1 := Lib.hid (fun W (hA : Stone W aP) (hB : Stone W aC) => is_other x aP aC W (R0.neCP.symm) hA hB)
  have H2 := Lib.hid (fun W (hA : Stone W aP) (hB : Stone W aT) => is_other x aP aT W (R0.neTP.symm) hA hB)
  have H3 := Lib.hid (fun W => is_same x aP W)
  clear R0
  go_enter Tryd.func19, Tryd.ntmps19
  go_wp2_with (first
    | (go_at_call 16; refine (H1.out _ R.out.rowP R.out.rowC).mono ?_; rintro e w1 ⟨rfl, b1⟩; have B1 := Lib.hid b1; have k1 := (R.out.below B1.out).ten; clear H1 b1)
    | (go_at_call 16; refine (H2.out _ (R.out.below B1.out).rowP (R.out.below B1.out).rowT).mono ?_; rintro e w2 ⟨rfl, b2⟩; have B2 := Lib.hid (below_trans B1.out b2); have k2 := (R.out.below B2.out).ports; clear H2 b2)
    | (go_at_call 16; refine (H3.out _).mono ?_; rintro e w3 ⟨rfl, b3⟩; have B3 := Lib.hid (below_trans B2.out b3); have k3 := (R.out.below B3.out).ports; clear H3 b3))
  go_ret
  exact ⟨rfl, B3.out⟩

#print axioms number_nil
#print axioms number_conf
#print axioms number_ten
#print axioms number_ports
end Go.Proofs.YtmodmfkcigibpaaDoor.Co
