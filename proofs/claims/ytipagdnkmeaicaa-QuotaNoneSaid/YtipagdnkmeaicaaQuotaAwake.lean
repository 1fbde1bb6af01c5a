/- What the laws of layer 14 lean on: the contracts of package quota, and of sat.May, at values that are known. -/
import Derived.Test.YtipagdnkmeaicaaQuotaCode
import Derived.Test.YtipagdnkmeaicaaQuotaRef
import Derived.Test.YtipagdnkmeaicaaSatMayC
import Derived.Test.YtipagdnkmeaicaaEnvBare
import Derived.Lib.SmallJoins
namespace Go.Proofs.Ytipagdnkmeaicaa.Qt
open Go.Proofs.Ytipagdnkmeaicaa
open Go Go.ChangeShapes Go.WideShapes Go.ChangeAt Go.RowKit
set_option maxRecDepth 100000
set_option linter.unusedSimpArgs false
set_option linter.unusedVariables false

theorem take_at (e u q a n : Int) (m x y : Int) (c : Bool) (h : take e u q a n = ⟨m, x, y, c⟩) (w : World) (E : Env w) :
    Calls Try.prog 9 #[.int .i64 e, .int .i64 u, .int .i64 q, .int .i64 a, .int .i64 n] w fun r w' => r = .returned (.tuple #[.int .i64 m, .int .i64 x, .int .i64 y, .bool c]) ∧ Below w.heap.size w w' := by
  have := quota_take e u q a n w E
  unfold takeV at this
  rw [h] at this; exact this
theorem rtake_at (e u q a n : Int) (m x y : Int) (c : Bool) (h : take e u q a n = ⟨m, x, y, c⟩) (w : World) :
    Calls Try.prog 10 #[.int .i64 e, .int .i64 u, .int .i64 q, .int .i64 a, .int .i64 n] w fun r w' => r = .returned (.tuple #[.int .i64 m, .int .i64 x, .int .i64 y, .bool c]) ∧ Below w.heap.size w w' := by
  have := rtake_any e u q a n w
  unfold takeV at this
  rw [h] at this; exact this
theorem may_at (n : Int) (m : Bool) (h : mayN n = m) (w : World) : Calls Try.prog 13 #[.int .i64 n] w fun e w' => e = .returned (.bool m) ∧ Below w.heap.size w w' := by
  subst h
  exact (sat_may n w).mono fun _ _ ⟨he, hw⟩ => ⟨he, by subst hw; exact Below.refl _ _⟩
theorem cut_at (u : Value) (l : List UInt8) (m : Int) (hl : l.length ≤ 1000000) (r : List UInt8) (hr : l.take m.toNat = r) (w : World) (E : Env w) (H : BytesIs w u l) :
    Calls Try.prog 11 #[u, .int .i64 m] w fun e w' => (∃ p n c, e = .returned (.slice p n c) ∧ n = r.length ∧ BytesIs w' (.slice p n c) r) ∧ Below w.heap.size w w' := by
  subst hr
  exact (quota_cut u l m hl w E H).mono fun _ _ ⟨p, n, c, h1, h2, h3, h4⟩ => ⟨⟨p, n, c, h1, h2, h3⟩, h4⟩
theorem rcut_at (u : Value) (l : List UInt8) (m : Int) (hl : l.length ≤ 1000000) (r : List UInt8) (hr : l.take m.toNat = r) (w : World) (H : BytesIs w u l) :
    Calls Try.prog 12 #[u, .int .i64 m] w fun e w' => (∃ p n c, e = .returned (.slice p n c) ∧ n = r.length ∧ BytesIs w' (.slice p n c) r) ∧ Below w.heap.size w w' := by
  subst hr
  exact (rcut_any u l m hl w H).mono fun _ _ ⟨p, n, c, h1, h2, h3, h4⟩ => ⟨⟨p, n, c, h1, h2, h3⟩, h4⟩

theorem cut_n (u : Value) (l : List UInt8) (m : Int) (hl : l.length ≤ 1000000) (r : List UInt8) (hr : l.take m.toNat = r) (N : Nat) (hN : r.length = N) (w : World) (E : Env w) (H : BytesIs w u l) :
    Calls Try.prog 11 #[u, .int .i64 m] w fun e w' => (∃ p c, e = .returned (.slice p N c) ∧ BytesIs w' (.slice p N c) r) ∧ Below w.heap.size w w' := by
  subst hN
  exact (cut_at u l m hl r hr w E H).mono fun _ _ ⟨⟨p, n, c, h1, h2, h3⟩, h4⟩ => ⟨⟨p, c, by rw [h1, h2], by rw [← h2]; exact h3⟩, h4⟩
theorem bytes_cap {w : World} {p : Option Addr} {n c : Nat} {l : List UInt8} (h : BytesIs w (.slice p n c) l) : l.length ≤ c := by
  rcases h with ⟨e, rfl⟩ | ⟨a, c', e, h1, h2, h3⟩
  · exact Nat.zero_le _
  · injection e with e1 e2 e3
    omega
/-- a beginning of bytes -/
theorem bytes_head {w : World} {p : Option Addr} {n c : Nat} {l : List UInt8} (h : BytesIs w (.slice p n c) l) (k : Nat) (hk : k ≤ l.length) : BytesIs w (.slice p k c) (l.take k) := by
  rcases h with ⟨e, rfl⟩ | ⟨a, c', e, h1, h2, h3⟩
  · injection e with e1 e2 e3
    subst e1; subst e3
    obtain rfl : k = 0 := by simpa using hk
    exact Or.inl ⟨rfl, rfl⟩
  · injection e with e1 e2 e3
    subst e1; subst e3
    have hL : (l.take k).length = k := by rw [List.length_take]; omega
    refine Or.inr ⟨a, c, by rw [hL], by rw [hL]; omega, h2, fun i hi => ?_⟩
    rw [hL] at hi
    rw [h3 i (by omega)]
    simp
/-- a constant's bytes lie in a block of their own, marked -/
theorem bytes_fz (wr : World) (l : List UInt8) (fr : Nat × Nat) (hm : l.length ≤ maxLen) : BytesIs (wr.alloc (.cells (l.map byteV).toArray 5 fr)) (.slice (some ⟨wr.heap.size, 0, none⟩) l.length l.length) l := by
  refine Or.inr ⟨_, _, rfl, Nat.le_refl _, hm, fun i hi => ?_⟩
  have e : (⟨wr.heap.size, 0, none⟩ : Addr).add i = ⟨wr.heap.size, i, none⟩ := by unfold Addr.add; split <;> simp_all
  rw [e, cell_of_row _ wr.heap.size i _ _ fr (heap_alloc_new wr _)]
  simp [hi]

set_option maxHeartbeats 4000000 in
theorem awake_any (w : World) (E : Env w) : Calls Try.prog 8 #[] w fun e w' => e = .returned (.bool true) ∧ Below w.heap.size w w' := by
  have HT := Lib.hid (fun W EW => take_at 10 7 100 0 5 3 10 3 true (by decide +kernel) W EW)
  have HC := Lib.hid (fun u W EW HR => cut_at u [97, 98, 99] 2 (by decide) [97, 98] (by decide +kernel) W EW HR)
  have B0 := Lib.hid (Below.refl w.heap.size w)
  go_enter Try.func8, Try.ntmps8
  go_wp2_with (first
      | (go_at_call 9; refine (HT.out _ (E.below (B0.out))).mono ?_; rintro e w1 ⟨rfl, b1⟩; have B1 := Lib.hid (B0.out.trans (b1.mono B0.out.size)); clear HT; have hcv : (convert 22 22 (.slice (some ⟨w1.heap.size, 0, none⟩) 3 3)).run Try.prog (w1.alloc (.cells #[.int .u8 97, .int .u8 98, .int .u8 99] 5)) = .ok (.slice (some ⟨w1.heap.size, 0, none⟩) 3 3) (w1.alloc (.cells #[.int .u8 97, .int .u8 98, .int .u8 99] 5 (3, 4))) := Lib.run_convert_bytes_const w1 22 5 #[.int .u8 97, .int .u8 98, .int .u8 99] 3 3 Try.underlying22 Try.underlying5)
      | (go_at_call 11; refine (HC.out _ _ (E.below ((B1.out).alloc B1.out.size (.cells #[.int .u8 97, .int .u8 98, .int .u8 99] 5 (3, 4)))) (bytes_fz w1 [97, 98, 99] (3, 4) (by decide))).mono ?_; rintro e w2 ⟨⟨p2, n2, c2, rfl, -, h2⟩, b2⟩; have B2 := Lib.hid (((B1.out).alloc B1.out.size (.cells #[.int .u8 97, .int .u8 98, .int .u8 99] 5 (3, 4))).trans (b2.mono (by have := B1.out.size; simp <;> omega))); have hs2 := str_of_bytes h2; clear HC h2))
  all_goals (go_ret; exact ⟨by first | rfl | (simp; done) | (simp; omega), B2.out⟩)

#print axioms awake_any
end Go.Proofs.Ytipagdnkmeaicaa.Qt
