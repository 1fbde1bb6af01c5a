/- The contracts of package quad: Num, Get, write, loose, Text, Read: each answers what the plain functions say, and of what was there nothing has turned. -/
import Derived.Test.YtdimfppijcebjaaGreatDoorEnv
import Derived.Outline
import Derived.Test.YtdimfppijcebjaaGreatDoorPlains
namespace Go.Proofs.YtdimfppijcebjaaGreatDoor.Quad
open Go.ChangeShapes Go.WideShapes Go.ChangeAt Go.RowKit Go.Sort
set_option maxRecDepth 100000

/-- a text as a value -/
abbrev str (l : List UInt8) : Value := .string ⟨l.toArray⟩
theorem size_mk (l : List UInt8) : (ByteArray.mk l.toArray).size = l.length := by show l.toArray.size = l.length; simp
theorem data_mk (l : List UInt8) : (ByteArray.mk l.toArray).data.toList = l := by simp

theorem itoa_any (n : Int) (h0 : -9223372036854775808 ≤ n) (h1 : n ≤ 9223372036854775807) (w : World) (E : Env w) :
    Calls Tryz.prog 76 #[.int .i64 n] w fun e w' => e = .returned (str (Lib.itoa n)) ∧ Below w.heap.size w w' :=
  (Tryz.strconv_Itoa n h0 h1 w E.tab).mono fun _ _ ⟨he, k, os, hw⟩ => ⟨he, by subst hw; exact Lib.below_grow _ w (Nat.le_refl _) k os⟩

set_option maxHeartbeats 400000 in
theorem num_any (n : Int) (h0 : -9223372036854775808 ≤ n) (h1 : n ≤ 9223372036854775807) (w : World) (E : Env w) :
    Calls Tryz.prog 57 #[.int .i64 n] w fun e w' => e = .returned (str (Lib.itoa n)) ∧ Below w.heap.size w w' := by
  go_enter Tryz.func57, Tryz.ntmps57
  go_wp2_with (go_at_call 76; refine (itoa_any n h0 h1 _ ?_).mono ?_)
  · exact E
  rintro e w1 ⟨rfl, hb⟩
  go_wp2
  go_ret
  exact ⟨rfl, hb⟩

/-- what Get answers -/
abbrev gotV (l : List UInt8) (most : Int) : Value := .tuple #[.int .i64 (getV l most), .bool (getB l most)]
theorem got_no {l : List UInt8} {most : Int} (h : getB l most = false) : gotV l most = .tuple #[.int .i64 0, .bool false] := by
  unfold gotV; rw [getV_no h, h]
theorem got_yes {l : List UInt8} {most n : Int} (h : getB l most = true) (hv : getV l most = n) : gotV l most = .tuple #[.int .i64 n, .bool true] := by
  unfold gotV; rw [hv, h]

theorem atoi_ok (l : List UInt8) (n : Int) (hl : l.length ≤ 18) (h : Lib.atoi l = some n) (w : World) :
    Calls Tryz.prog 83 #[str l] w fun e w' => e = .returned (.tuple #[.int .i64 n, .nilIface]) ∧ Below w.heap.size w w' :=
  (Tryz.strconv_Atoi ⟨l.toArray⟩ n (by rw [size_mk]; exact hl) (by rw [data_mk]; exact h) w).mono fun _ _ ⟨he, t, hw⟩ => ⟨he, by subst hw; exact Lib.bytesWorld_below _ _ _⟩
theorem atoi_no (l : List UInt8) (hl : l.length ≤ 18) (h : Lib.atoi l = none) (w : World) (E : Env w) :
    Calls Tryz.prog 83 #[str l] w fun e w' => ∃ N, e = .returned (.tuple #[.int .i64 0, .iface 172 (.pointer (some ⟨N, 0, none⟩))]) ∧ Below w.heap.size w w' := by
  obtain ⟨tp, p, hv⟩ := E.syn
  exact (Tryz.strconv_Atoi_err_var ⟨l.toArray⟩ (by rw [size_mk]; exact hl) (by rw [data_mk]; exact h) tp p w hv).mono fun _ _ ⟨N, he, _, _, hb⟩ => ⟨N, he, hb⟩

set_option maxHeartbeats 1000000 in
theorem get_any (l : List UInt8) (most : Int) (w : World) (E : Env w) :
    Calls Tryz.prog 68 #[str l, .int .i64 most] w fun e w' => e = .returned (gotV l most) ∧ Below w.heap.size w w' := by
  by_cases h18 : 18 < l.length
  · have hd := Lib.hid (got_no (code_long h18 most))
    go_enter Tryz.func68, Tryz.ntmps68
    go_wp2_with fail
    go_ret2
    rw [hd.out]; exact ⟨rfl, Below.refl _ _⟩
  · cases ha : Lib.atoi l with
    | none =>
      have hd := Lib.hid (got_no (code_none ha most))
      have c := Lib.hid (atoi_no l (by omega) ha w E)
      clear ha E
      go_enter Tryz.func68, Tryz.ntmps68
      go_wp2_with (go_at_call 83; refine c.out.mono ?_; rintro e w1 ⟨N, rfl, hb⟩)
      go_ret2
      rw [hd.out]; exact ⟨rfl, hb⟩
    | some n =>
      have c := Lib.hid (atoi_ok l n (by omega) ha w)
      have hn := Lib.atoi_bound ha (by omega)
      rcases code_some ha (by omega) most with ⟨h0, hB⟩ | ⟨h0, h1, hB⟩ | ⟨h0, h1, h2, hB⟩ | ⟨h0, h1, h2, hB, hV⟩
      · have hd := Lib.hid (got_no hB)
        clear ha hB
        go_enter Tryz.func68, Tryz.ntmps68
        go_wp2_with (go_at_call 83; refine c.out.mono ?_; rintro e w1 ⟨rfl, b1⟩)
        go_ret2
        rw [hd.out]; exact ⟨rfl, b1⟩
      · have hd := Lib.hid (got_no hB)
        clear ha hB
        go_enter Tryz.func68, Tryz.ntmps68
        go_wp2_with (go_at_call 83; refine c.out.mono ?_; rintro e w1 ⟨rfl, b1⟩)
        go_ret2
        rw [hd.out]; exact ⟨rfl, b1⟩
      · have hd := Lib.hid (got_no hB)
        clear ha hB
        have h2' : (Lib.itoa n == l) = false := beq_eq_false_iff_ne.2 h2
        clear h2
        go_enter Tryz.func68, Tryz.ntmps68
        go_wp2_with (first | (go_at_call 83; refine c.out.mono ?_; rintro e w1 ⟨rfl, b1⟩) | (go_at_call 57; refine (num_any n (by omega) (by omega) _ (E.below b1)).mono ?_; rintro e w2 ⟨rfl, b2⟩))
        go_ret2
        rw [hd.out]; exact ⟨rfl, below_trans b1 b2⟩
      · have hd := Lib.hid (got_yes hB hV)
        clear ha hB hV
        have h2' : (Lib.itoa n == l) = true := beq_iff_eq.2 h2
        clear h2
        go_enter Tryz.func68, Tryz.ntmps68
        go_wp2_with (first | (go_at_call 83; refine c.out.mono ?_; rintro e w1 ⟨rfl, b1⟩) | (go_at_call 57; refine (num_any n (by omega) (by omega) _ (E.below b1)).mono ?_; rintro e w2 ⟨rfl, b2⟩))
        go_ret2
        rw [hd.out]; exact ⟨rfl, below_trans b1 b2⟩

end Go.Proofs.YtdimfppijcebjaaGreatDoor.Quad
