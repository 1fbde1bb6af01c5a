/- What the laws of layer 12 lean on: the contracts of package route at values that are known. -/
import Derived.Test.YthgdnomedckiaaaRouteCode
import Derived.Test.YthgdnomedckiaaaRouteRef
import Derived.Test.YthgdnomedckiaaaEnvBare
namespace Go.Proofs.Ythgdnomedckiaaa.Ro
open Go.Proofs.Ythgdnomedckiaaa Go.Proofs.Ythgdnomedckiaaa.Cm
open Go Go.ChangeShapes Go.WideShapes Go.ChangeAt Go.RowKit
set_option maxRecDepth 100000
set_option linter.unusedSimpArgs false
set_option linter.unusedVariables false

abbrev str (l : List UInt8) : Value := .string ⟨l.toArray⟩
theorem size_mk (l : List UInt8) : (ByteArray.mk l.toArray).size = l.length := by show l.toArray.size = l.length; simp
theorem name_of (s : List UInt8) (hl : s.length ≤ 100000) (m : Bool) (h : nameB s = m) (w : World) (E : Env w) :
    Calls Try.prog 12 #[.string ⟨s.toArray⟩] w fun e w' => e = .returned (.bool m) ∧ Below w.heap.size w w' := by
  subst h; exact route_name s hl w E
theorem user_of (s : List UInt8) (hl : s.length ≤ 100000) (m : Bool) (h : userB s = m) (w : World) (E : Env w) :
    Calls Try.prog 13 #[.string ⟨s.toArray⟩] w fun e w' => e = .returned (.bool m) ∧ Below w.heap.size w w' := by
  subst h; exact route_user s hl w E
theorem split_at (s : List UInt8) (hl : s.length ≤ 100000) (a b : List UInt8) (t : Bool) (h : splitR s = (a, b, t)) (w : World) (E : Env w) :
    Calls Try.prog 8 #[.string ⟨s.toArray⟩] w fun e w' => e = .returned (.tuple #[.string ⟨a.toArray⟩, .string ⟨b.toArray⟩, .bool t]) ∧ Below w.heap.size w w' := by
  have := route_split s hl w E
  rw [h] at this; exact this
theorem rsplit_at (s : List UInt8) (hl : s.length ≤ 100000) (a b : List UInt8) (t : Bool) (h : splitR s = (a, b, t)) (w : World) :
    Calls Try.prog 9 #[.string ⟨s.toArray⟩] w fun e w' => e = .returned (.tuple #[.string ⟨a.toArray⟩, .string ⟨b.toArray⟩, .bool t]) ∧ Below w.heap.size w w' := by
  have := rsplit_any s hl w
  unfold splitV at this
  rw [h] at this; exact this
theorem find_of (u : Value) (l : List (List UInt8)) (h : List UInt8) (k : Int) (e : findH l h = k) (w : World) (E : Env w) (H : HostsIs w u l) :
    Calls Try.prog 14 #[u, .string ⟨h.toArray⟩] w fun e w' => e = .returned (.int .i64 k) ∧ Below w.heap.size w w' := by
  subst e; exact route_find u l h w E H
/-- two tenants in a new block -/
theorem two_hosts (w : World) (t : TypeId) (cs : Array Value) (a b : List UInt8) (x y : Value) (h0 : cs[0]? = some x) (h1 : cs[1]? = some (.string ⟨a.toArray⟩)) (h2 : cs[14]? = some y) (h3 : cs[15]? = some (.string ⟨b.toArray⟩)) :
    HostsIs (w.alloc (.cells cs t)) (.slice (some ⟨w.heap.size, 0, none⟩) 2 2) [a, b] := by
  refine Or.inr ⟨⟨w.heap.size, 0, none⟩, 2, rfl, by unfold maxLen; show 2 ≤ _; omega, fun i hi => ?_⟩
  have R := IsRow.made w t cs
  match i, hi with
  | 0, _ => exact ⟨⟨x, (R.cell 0).trans h0⟩, (R.cell 1).trans h1⟩
  | 1, _ => exact ⟨⟨y, (R.cell 14).trans h2⟩, (R.cell 15).trans h3⟩

set_option maxHeartbeats 4000000 in
theorem awake_any (w : World) (E : Env w) : Calls Try.prog 7 #[] w fun e w' => e = .returned (.bool true) ∧ Below w.heap.size w w' := by
  have HS := Lib.hid (fun W EW => split_at [109, 101, 64, 120, 64, 102, 116, 112, 46, 97] (by decide) [109, 101, 64, 120] [102, 116, 112, 46, 97] true (by decide +kernel) W EW)
  have HN := Lib.hid (fun W EW => name_of [102, 116, 112, 46, 97] (by decide) true (by decide +kernel) W EW)
  have HU := Lib.hid (fun W EW => user_of [109, 101, 64, 120] (by decide) true (by decide +kernel) W EW)
  have HF := Lib.hid (fun u W EW HR => find_of u [[98], [102, 116, 112, 46, 97]] [102, 116, 112, 46, 97] 1 (by decide +kernel) W EW HR)
  have HG := Lib.hid (fun u W EW HR => find_of u [] [102, 116, 112, 46, 97] (-1) (by decide +kernel) W EW HR)
  have B0 := Lib.hid (Below.refl w.heap.size w)
  go_enter Try.func7, Try.ntmps7
  go_wp2_with (first
      | (go_at_call 8; refine (HS.out _ (E.below (B0.out))).mono ?_; rintro e w1 ⟨rfl, b1⟩; have B1 := Lib.hid (B0.out.trans (b1.mono B0.out.size)); clear HS)
      | (go_at_call 12; refine (HN.out _ (E.below (B1.out))).mono ?_; rintro e w2 ⟨rfl, b2⟩; have B2 := Lib.hid (B1.out.trans (b2.mono B1.out.size)); clear HN)
      | (go_at_call 13; refine (HU.out _ (E.below (B2.out))).mono ?_; rintro e w3 ⟨rfl, b3⟩; have B3 := Lib.hid (B2.out.trans (b3.mono B2.out.size)); clear HU)
      | (go_at_call 14; refine (HF.out _ _ (E.below ((B3.out).alloc B3.out.size (.cells #[Value.string ⟨#[]⟩, Value.string ⟨#[98]⟩, Value.int .u8 0, Value.int .u8 0, Value.int .u8 0, Value.int .u8 0, Value.int .i64 0, Value.int .i64 0, Value.int .i64 0, Value.slice none 0 0, Value.int .i64 0, Value.int .i64 0, Value.int .i64 0, Value.int .i64 0, Value.string ⟨#[]⟩, Value.string ⟨#[102, 116, 112, 46, 97]⟩, Value.int .u8 0, Value.int .u8 0, Value.int .u8 0, Value.int .u8 0, Value.int .i64 0, Value.int .i64 0, Value.int .i64 0, Value.slice none 0 0, Value.int .i64 0, Value.int .i64 0, Value.int .i64 0, Value.int .i64 0] 35))) (two_hosts w3 35 #[Value.string ⟨#[]⟩, Value.string ⟨#[98]⟩, Value.int .u8 0, Value.int .u8 0, Value.int .u8 0, Value.int .u8 0, Value.int .i64 0, Value.int .i64 0, Value.int .i64 0, Value.slice none 0 0, Value.int .i64 0, Value.int .i64 0, Value.int .i64 0, Value.int .i64 0, Value.string ⟨#[]⟩, Value.string ⟨#[102, 116, 112, 46, 97]⟩, Value.int .u8 0, Value.int .u8 0, Value.int .u8 0, Value.int .u8 0, Value.int .i64 0, Value.int .i64 0, Value.int .i64 0, Value.slice none 0 0, Value.int .i64 0, Value.int .i64 0, Value.int .i64 0, Value.int .i64 0] _ _ _ _ rfl rfl rfl rfl)).mono ?_; rintro e w4 ⟨rfl, b4⟩; have B4 := Lib.hid (((B3.out).alloc B3.out.size (.cells #[Value.string ⟨#[]⟩, Value.string ⟨#[98]⟩, Value.int .u8 0, Value.int .u8 0, Value.int .u8 0, Value.int .u8 0, Value.int .i64 0, Value.int .i64 0, Value.int .i64 0, Value.slice none 0 0, Value.int .i64 0, Value.int .i64 0, Value.int .i64 0, Value.int .i64 0, Value.string ⟨#[]⟩, Value.string ⟨#[102, 116, 112, 46, 97]⟩, Value.int .u8 0, Value.int .u8 0, Value.int .u8 0, Value.int .u8 0, Value.int .i64 0, Value.int .i64 0, Value.int .i64 0, Value.slice none 0 0, Value.int .i64 0, Value.int .i64 0, Value.int .i64 0, Value.int .i64 0] 35)).trans (b4.mono (by have := B3.out.size; simp <;> omega))); clear HF)
      | (go_at_call 14; refine (HG.out _ _ (E.below (B4.out)) (HostsIs.nil _)).mono ?_; rintro e w5 ⟨rfl, b5⟩; have B5 := Lib.hid (B4.out.trans (b5.mono B4.out.size)); clear HG))
  all_goals (go_ret; exact ⟨by first | rfl | (simp; done) | (simp; omega), B5.out⟩)

#print axioms awake_any
end Go.Proofs.Ythgdnomedckiaaa.Ro
