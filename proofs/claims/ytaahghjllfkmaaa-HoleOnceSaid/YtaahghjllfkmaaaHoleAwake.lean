/- What the laws of layer 16 lean on: the contracts of package hole, and of the document's answer, at values that are known. -/
import Derived.Test.YtaahghjllfkmaaaHoleCode
import Derived.Test.YtaahghjllfkmaaaEnvBare
import Derived.Lib.SmallJoins
namespace Go.Proofs.Ytaahghjllfkmaaa.Hl
open Go.Proofs.Ytaahghjllfkmaaa
open Go Go.ChangeShapes Go.WideShapes Go.ChangeAt Go.RowKit
set_option maxRecDepth 100000
set_option linter.unusedSimpArgs false
set_option linter.unusedVariables false

theorem holes_len {w : World} {p : Option Addr} {n c : Nat} {l : List Ho} (h : HolesIs w (.slice p n c) l) : n = l.length := by
  obtain ⟨p', n', c', e, hn⟩ := h.form
  injection e with _ e2 _
  rw [e2, hn]
theorem hmay_of (q : Ho) (b : Bool) (h : mayH q = b) (w : World) :
    Calls Try.prog 23 #[holeV q] w fun e w' => e = .returned (.bool b) ∧ Below w.heap.size w w' := by
  have := hmay_any q w 
  rw [h] at this; exact this
theorem rmay_of (q : Ho) (b : Bool) (h : mayH q = b) (w : World) :
    Calls Try.prog 11 #[holeV q] w fun e w' => e = .returned (.bool b) ∧ Below w.heap.size w w' := by
  have := rmay_any q w 
  rw [h] at this; exact this
theorem hsame_of (u v : Value) (l m : List Ho) (b : Bool) (h : sameL l m = b) (w : World) (H : HolesIs w u l) (H' : HolesIs w v m) :
    Calls Try.prog 24 #[u, v] w fun e w' => e = .returned (.bool b) ∧ Below w.heap.size w w' := by
  have := hsame_any u v l m w H H' 
  rw [h] at this; exact this
theorem rsame_of (u v : Value) (l m : List Ho) (b : Bool) (h : sameL l m = b) (w : World) (H : HolesIs w u l) (H' : HolesIs w v m) :
    Calls Try.prog 14 #[u, v] w fun e w' => e = .returned (.bool b) ∧ Below w.heap.size w w' := by
  have := rsame_any u v l m w H H' 
  rw [h] at this; exact this
theorem hsweep_of (u : Value) (l : List Ho) (n0 : Int) (hl : l.length ≤ 100000) (r : List Ho) (N : Nat) (h : sweep l n0 = r) (hN : r.length = N) (w : World) (H : HolesIs w u l) :
    Calls Try.prog 17 #[u, .int .i64 n0] w fun e w' => (∃ p c, e = .returned (.slice p N c) ∧ HolesIs w' (.slice p N c) r) ∧ Below w.heap.size w w' := by
  have := hsweep_any u l n0 hl w H
  rw [h] at this
  refine this.mono ?_
  rintro e w' ⟨⟨p, n, c, rfl, o⟩, b⟩
  have y := o.holes
  obtain rfl := (holes_len y).trans hN
  exact ⟨⟨p, c, rfl, y⟩, b⟩
theorem rsweep_of (u : Value) (l : List Ho) (n0 : Int) (hl : l.length ≤ 100000) (r : List Ho) (N : Nat) (h : sweep l n0 = r) (hN : r.length = N) (w : World) (H : HolesIs w u l) :
    Calls Try.prog 18 #[u, .int .i64 n0] w fun e w' => (∃ p c, e = .returned (.slice p N c) ∧ HolesIs w' (.slice p N c) r) ∧ Below w.heap.size w w' := by
  have := rsweep_any u l n0 hl w H
  rw [h] at this
  refine this.mono ?_
  rintro e w' ⟨⟨p, n, c, rfl, o⟩, b⟩
  have y := o
  obtain rfl := (holes_len y).trans hN
  exact ⟨⟨p, c, rfl, y⟩, b⟩
theorem hrevoke_of (u : Value) (l : List Ho) (n0 : Int) (hl : l.length ≤ 100000) (r : List Ho) (N : Nat) (h : revoke l n0 = r) (hN : r.length = N) (w : World) (H : HolesIs w u l) :
    Calls Try.prog 19 #[u, .int .i64 n0] w fun e w' => (∃ p c, e = .returned (.slice p N c) ∧ HolesIs w' (.slice p N c) r) ∧ Below w.heap.size w w' := by
  have := hrevoke_any u l n0 hl w H
  rw [h] at this
  refine this.mono ?_
  rintro e w' ⟨⟨p, n, c, rfl, o⟩, b⟩
  have y := o.holes
  obtain rfl := (holes_len y).trans hN
  exact ⟨⟨p, c, rfl, y⟩, b⟩
theorem rrevoke_of (u : Value) (l : List Ho) (n0 : Int) (hl : l.length ≤ 100000) (r : List Ho) (N : Nat) (h : revoke l n0 = r) (hN : r.length = N) (w : World) (H : HolesIs w u l) :
    Calls Try.prog 20 #[u, .int .i64 n0] w fun e w' => (∃ p c, e = .returned (.slice p N c) ∧ HolesIs w' (.slice p N c) r) ∧ Below w.heap.size w w' := by
  have := rrevoke_any u l n0 hl w H
  rw [h] at this
  refine this.mono ?_
  rintro e w' ⟨⟨p, n, c, rfl, o⟩, b⟩
  have y := o
  obtain rfl := (holes_len y).trans hN
  exact ⟨⟨p, c, rfl, y⟩, b⟩
theorem hgrant_of (u : Value) (l : List Ho) (q : Ho) (most : Int) (hl : l.length ≤ 99999) (r : List Ho) (k : Int) (N : Nat) (h : grant l q most = (r, k)) (hN : r.length = N) (w : World) (H : HolesIs w u l) :
    Calls Try.prog 12 #[u, holeV q, .int .i64 most] w fun e w' => (∃ p c, e = .returned (.tuple #[.slice p N c, .int .i64 k]) ∧ HolesIs w' (.slice p N c) r) ∧ Below w.heap.size w w' := by
  have := hgrant_any u l q most hl w H
  rw [h] at this
  refine this.mono ?_
  rintro e w' ⟨⟨p, n, c, rfl, o⟩, b⟩
  have y := o.holes
  obtain rfl := (holes_len y).trans hN
  exact ⟨⟨p, c, rfl, y⟩, b⟩
theorem rgrant_of (u : Value) (l : List Ho) (q : Ho) (most : Int) (hl : l.length ≤ 100000) (r : List Ho) (k : Int) (N : Nat) (h : grant l q most = (r, k)) (hN : r.length = N) (w : World) (H : HolesIs w u l) :
    Calls Try.prog 13 #[u, holeV q, .int .i64 most] w fun e w' => (∃ p c, e = .returned (.tuple #[.slice p N c, .int .i64 k]) ∧ HolesIs w' (.slice p N c) r) ∧ Below w.heap.size w w' := by
  have := rgrant_any u l q most hl w H
  rw [h] at this
  refine this.mono ?_
  rintro e w' ⟨⟨p, n, c, rfl, o⟩, b⟩
  have y := o
  obtain rfl := (holes_len y).trans hN
  exact ⟨⟨p, c, rfl, y⟩, b⟩
theorem hmatch_of (u : Value) (l : List Ho) (port : Int) (q : Pe) (now : Int) (hl : l.length ≤ 100000) (r : List Ho) (x : Ho) (b : Bool) (N : Nat) (h : matchL l port q now = (r, x, b)) (hN : r.length = N) (w : World) (H : HolesIs w u l) :
    Calls Try.prog 15 #[u, .int .i64 port, peV q, .int .i64 now] w fun e w' => (∃ p c, e = .returned (.tuple #[.slice p N c, holeV x, .bool b]) ∧ HolesIs w' (.slice p N c) r) ∧ Below w.heap.size w w' := by
  have := hmatch_any u l port q now hl w H
  rw [h] at this
  refine this.mono ?_
  rintro e w' ⟨⟨p, n, c, rfl, o⟩, b⟩
  have y := o.holes
  obtain rfl := (holes_len y).trans hN
  exact ⟨⟨p, c, rfl, y⟩, b⟩
theorem rmatch_of (u : Value) (l : List Ho) (port : Int) (q : Pe) (now : Int) (hl : l.length ≤ 100000) (r : List Ho) (x : Ho) (b : Bool) (N : Nat) (h : matchL l port q now = (r, x, b)) (hN : r.length = N) (w : World) (H : HolesIs w u l) :
    Calls Try.prog 16 #[u, .int .i64 port, peV q, .int .i64 now] w fun e w' => (∃ p c, e = .returned (.tuple #[.slice p N c, holeV x, .bool b]) ∧ HolesIs w' (.slice p N c) r) ∧ Below w.heap.size w w' := by
  have := rmatch_any u l port q now hl w H
  rw [h] at this
  refine this.mono ?_
  rintro e w' ⟨⟨p, n, c, rfl, o⟩, b⟩
  have y := o
  obtain rfl := (holes_len y).trans hN
  exact ⟨⟨p, c, rfl, y⟩, b⟩
theorem hports_of (u : Value) (l : List Ho) (hl : l.length ≤ 100000) (r : List Int) (N : Nat) (h : ports l = r) (hN : r.length = N) (w : World) (H : HolesIs w u l) :
    Calls Try.prog 21 #[u] w fun e w' => (∃ p c, e = .returned (.slice p N c) ∧ IntsIs w' (.slice p N c) r) ∧ Below w.heap.size w w' := by
  have := hports_any u l hl w H
  rw [h] at this
  refine this.mono ?_
  rintro e w' ⟨⟨p, n, c, rfl, y⟩, b⟩
  obtain ⟨p', n', c', e', hn'⟩ := y.form
  injection e' with _ e2 _
  obtain rfl : n = N := by rw [e2, hn', hN]
  exact ⟨⟨p, c, rfl, y⟩, b⟩
theorem rports_of (u : Value) (l : List Ho) (hl : l.length ≤ 100000) (r : List Int) (N : Nat) (h : ports l = r) (hN : r.length = N) (w : World) (H : HolesIs w u l) :
    Calls Try.prog 22 #[u] w fun e w' => (∃ p c, e = .returned (.slice p N c) ∧ IntsIs w' (.slice p N c) r) ∧ Below w.heap.size w w' := by
  have := rports_any u l hl w H
  rw [h] at this
  refine this.mono ?_
  rintro e w' ⟨⟨p, n, c, rfl, y⟩, b⟩
  obtain ⟨p', n', c', e', hn'⟩ := y.form
  injection e' with _ e2 _
  obtain rfl : n = N := by rw [e2, hn', hN]
  exact ⟨⟨p, c, rfl, y⟩, b⟩

set_option maxHeartbeats 8000000 in
theorem awake_any (w : World) (E : Env w) : Calls Try.prog 10 #[] w fun e w' => e = .returned (.bool true) ∧ Below w.heap.size w w' := by
  have H1 := Lib.hid (fun W => hgrant_of (.slice none 0 0) [] (⟨2000, 0, 0, 0, 0, 0, 0, 0, 0, 0, 0, 3000, 10⟩ : Ho) 1 (by decide) [(⟨2000, 0, 0, 0, 0, 0, 0, 0, 0, 0, 0, 3000, 10⟩ : Ho)] 0 1 (by decide) rfl W (HolesIs.nil W))
  have H2 := Lib.hid (fun u W HR => hmatch_of u [(⟨2000, 0, 0, 0, 0, 0, 0, 0, 0, 0, 0, 3000, 10⟩ : Ho)] 2000 (⟨0, 0, 0, 0⟩ : Pe) 9 (by decide) [] (⟨2000, 0, 0, 0, 0, 0, 0, 0, 0, 0, 0, 3000, 10⟩ : Ho) true 0 (by decide) rfl W HR)
  have H3 := Lib.hid (fun u W HR => hmatch_of u [(⟨2000, 0, 0, 0, 0, 0, 0, 0, 0, 0, 0, 3000, 10⟩ : Ho)] 2000 (⟨0, 0, 0, 0⟩ : Pe) 10 (by decide) [(⟨2000, 0, 0, 0, 0, 0, 0, 0, 0, 0, 0, 3000, 10⟩ : Ho)] zeroH false 1 (by decide) rfl W HR)
  have H4 := Lib.hid (fun u W HR => hmatch_of u [] 2000 (⟨0, 0, 0, 0⟩ : Pe) 9 (by decide) [] zeroH false 0 (by decide) rfl W HR)
  have H5 := Lib.hid (fun u W HR => hsweep_of u [(⟨2000, 0, 0, 0, 0, 0, 0, 0, 0, 0, 0, 3000, 10⟩ : Ho)] 10 (by decide) [] 0 (by decide) rfl W HR)
  have H6 := Lib.hid (fun u W HR => hrevoke_of u [(⟨2000, 0, 0, 0, 0, 0, 0, 0, 0, 0, 0, 3000, 10⟩ : Ho)] 0 (by decide) [] 0 (by decide) rfl W HR)
  have H7 := Lib.hid (fun u W HR => hports_of u [(⟨2000, 0, 0, 0, 0, 0, 0, 0, 0, 0, 0, 3000, 10⟩ : Ho)] (by decide) [2000] 1 (by decide) rfl W HR)
  have H8 := Lib.hid (fun W => hmay_of (⟨2000, 0, 0, 0, 0, 0, 0, 0, 0, 0, 0, 3000, 10⟩ : Ho) true (by decide) W)
  have H9 := Lib.hid (fun u W HR => hsame_of u u [(⟨2000, 0, 0, 0, 0, 0, 0, 0, 0, 0, 0, 3000, 10⟩ : Ho)] [(⟨2000, 0, 0, 0, 0, 0, 0, 0, 0, 0, 0, 3000, 10⟩ : Ho)] true (by decide) W HR HR)
  have B0 := Lib.hid (Below.refl w.heap.size w)
  have heq : ∀ W, (Op.equalIn 10000 28 (.agg #[.int .i64 2000, .int .i64 0, .int .i64 0, .int .u8 0, .int .u8 0, .int .u8 0, .int .u8 0, .int .u8 0, .int .u8 0, .int .u8 0, .int .u8 0, .int .i64 3000, .int .i64 10]) (.agg #[.int .i64 2000, .int .i64 0, .int .i64 0, .int .u8 0, .int .u8 0, .int .u8 0, .int .u8 0, .int .u8 0, .int .u8 0, .int .u8 0, .int .u8 0, .int .i64 3000, .int .i64 10])).run Try.prog W = .ok true W := fun W => equal_holes (⟨2000, 0, 0, 0, 0, 0, 0, 0, 0, 0, 0, 3000, 10⟩ : Ho) (⟨2000, 0, 0, 0, 0, 0, 0, 0, 0, 0, 0, 3000, 10⟩ : Ho) W
  go_enter Try.func10, Try.ntmps10
  go_wp2_with (first
      | (go_at_call 12; refine (H1.out _).mono ?_; rintro e w1 ⟨⟨p1, c1, rfl, y1⟩, b1⟩; have B1 := Lib.hid (((B0.out).alloc B0.out.size (.cells #[.int .i64 2000, .int .i64 0, .int .i64 0, .int .u8 0, .int .u8 0, .int .u8 0, .int .u8 0, .int .u8 0, .int .u8 0, .int .u8 0, .int .u8 0, .int .i64 3000, .int .i64 10] 28)).trans (b1.mono (by have := B0.out.size; simp <;> omega))); have QB1 := Lib.hid ((IsRow.made w 28 #[.int .i64 2000, .int .i64 0, .int .i64 0, .int .u8 0, .int .u8 0, .int .u8 0, .int .u8 0, .int .u8 0, .int .u8 0, .int .u8 0, .int .u8 0, .int .i64 3000, .int .i64 10]).call b1); have QBc0 : w1.cell? ⟨w.heap.size, 0, none⟩ = some (.int .i64 2000) := QB1.out.cell 0; have QBc1 : w1.cell? ⟨w.heap.size, 1, none⟩ = some (.int .i64 0) := QB1.out.cell 1; have QBc2 : w1.cell? ⟨w.heap.size, 2, none⟩ = some (.int .i64 0) := QB1.out.cell 2; have QBc3 : w1.cell? ⟨w.heap.size, 3, none⟩ = some (.int .u8 0) := QB1.out.cell 3; have QBc4 : w1.cell? ⟨w.heap.size, 4, none⟩ = some (.int .u8 0) := QB1.out.cell 4; have QBc5 : w1.cell? ⟨w.heap.size, 5, none⟩ = some (.int .u8 0) := QB1.out.cell 5; have QBc6 : w1.cell? ⟨w.heap.size, 6, none⟩ = some (.int .u8 0) := QB1.out.cell 6; have QBc7 : w1.cell? ⟨w.heap.size, 7, none⟩ = some (.int .u8 0) := QB1.out.cell 7; have QBc8 : w1.cell? ⟨w.heap.size, 8, none⟩ = some (.int .u8 0) := QB1.out.cell 8; have QBc9 : w1.cell? ⟨w.heap.size, 9, none⟩ = some (.int .u8 0) := QB1.out.cell 9; have QBc10 : w1.cell? ⟨w.heap.size, 10, none⟩ = some (.int .u8 0) := QB1.out.cell 10; have QBc11 : w1.cell? ⟨w.heap.size, 11, none⟩ = some (.int .i64 3000) := QB1.out.cell 11; have QBc12 : w1.cell? ⟨w.heap.size, 12, none⟩ = some (.int .i64 10) := QB1.out.cell 12; have QBlt : w.heap.size < w1.heap.size := QB1.out.lt; have YL1 := Lib.hid y1; clear y1)
      | (go_at_call 15; refine (H2.out _ _ YL1.out).mono ?_; rintro e w2 ⟨⟨p2, c2, rfl, y2⟩, b2⟩; have B2 := Lib.hid (B1.out.trans (b2.mono B1.out.size)); have QB2 := Lib.hid (QB1.out.call b2); clear QBc0 QBc1 QBc2 QBc3 QBc4 QBc5 QBc6 QBc7 QBc8 QBc9 QBc10 QBc11 QBc12 QBlt; have QBc0 : w2.cell? ⟨w.heap.size, 0, none⟩ = some (.int .i64 2000) := QB2.out.cell 0; have QBc1 : w2.cell? ⟨w.heap.size, 1, none⟩ = some (.int .i64 0) := QB2.out.cell 1; have QBc2 : w2.cell? ⟨w.heap.size, 2, none⟩ = some (.int .i64 0) := QB2.out.cell 2; have QBc3 : w2.cell? ⟨w.heap.size, 3, none⟩ = some (.int .u8 0) := QB2.out.cell 3; have QBc4 : w2.cell? ⟨w.heap.size, 4, none⟩ = some (.int .u8 0) := QB2.out.cell 4; have QBc5 : w2.cell? ⟨w.heap.size, 5, none⟩ = some (.int .u8 0) := QB2.out.cell 5; have QBc6 : w2.cell? ⟨w.heap.size, 6, none⟩ = some (.int .u8 0) := QB2.out.cell 6; have QBc7 : w2.cell? ⟨w.heap.size, 7, none⟩ = some (.int .u8 0) := QB2.out.cell 7; have QBc8 : w2.cell? ⟨w.heap.size, 8, none⟩ = some (.int .u8 0) := QB2.out.cell 8; have QBc9 : w2.cell? ⟨w.heap.size, 9, none⟩ = some (.int .u8 0) := QB2.out.cell 9; have QBc10 : w2.cell? ⟨w.heap.size, 10, none⟩ = some (.int .u8 0) := QB2.out.cell 10; have QBc11 : w2.cell? ⟨w.heap.size, 11, none⟩ = some (.int .i64 3000) := QB2.out.cell 11; have QBc12 : w2.cell? ⟨w.heap.size, 12, none⟩ = some (.int .i64 10) := QB2.out.cell 12; have QBlt : w.heap.size < w2.heap.size := QB2.out.lt; have YL2 := Lib.hid (YL1.out.call b2); clear YL1; have YM2 := Lib.hid y2; clear y2; clear QB1)
      | (go_at_call 15; refine (H3.out _ _ (YL2.out.alloc (.cells #[.int .i64 2000, .int .i64 0, .int .i64 0, .int .u8 0, .int .u8 0, .int .u8 0, .int .u8 0, .int .u8 0, .int .u8 0, .int .u8 0, .int .u8 0, .int .i64 3000, .int .i64 10] 28))).mono ?_; rintro e w3 ⟨⟨p3, c3, rfl, y3⟩, b3⟩; have B3 := Lib.hid (((B2.out).alloc B2.out.size (.cells #[.int .i64 2000, .int .i64 0, .int .i64 0, .int .u8 0, .int .u8 0, .int .u8 0, .int .u8 0, .int .u8 0, .int .u8 0, .int .u8 0, .int .u8 0, .int .i64 3000, .int .i64 10] 28)).trans (b3.mono (by have := B2.out.size; simp <;> omega))); have QB3 := Lib.hid ((QB2.out.alloc (.cells #[.int .i64 2000, .int .i64 0, .int .i64 0, .int .u8 0, .int .u8 0, .int .u8 0, .int .u8 0, .int .u8 0, .int .u8 0, .int .u8 0, .int .u8 0, .int .i64 3000, .int .i64 10] 28)).call b3); have XB3 := Lib.hid ((IsRow.made w2 28 #[.int .i64 2000, .int .i64 0, .int .i64 0, .int .u8 0, .int .u8 0, .int .u8 0, .int .u8 0, .int .u8 0, .int .u8 0, .int .u8 0, .int .u8 0, .int .i64 3000, .int .i64 10]).call b3); clear QBc0 QBc1 QBc2 QBc3 QBc4 QBc5 QBc6 QBc7 QBc8 QBc9 QBc10 QBc11 QBc12 QBlt; have QBc0 : w3.cell? ⟨w.heap.size, 0, none⟩ = some (.int .i64 2000) := QB3.out.cell 0; have QBc1 : w3.cell? ⟨w.heap.size, 1, none⟩ = some (.int .i64 0) := QB3.out.cell 1; have QBc2 : w3.cell? ⟨w.heap.size, 2, none⟩ = some (.int .i64 0) := QB3.out.cell 2; have QBc3 : w3.cell? ⟨w.heap.size, 3, none⟩ = some (.int .u8 0) := QB3.out.cell 3; have QBc4 : w3.cell? ⟨w.heap.size, 4, none⟩ = some (.int .u8 0) := QB3.out.cell 4; have QBc5 : w3.cell? ⟨w.heap.size, 5, none⟩ = some (.int .u8 0) := QB3.out.cell 5; have QBc6 : w3.cell? ⟨w.heap.size, 6, none⟩ = some (.int .u8 0) := QB3.out.cell 6; have QBc7 : w3.cell? ⟨w.heap.size, 7, none⟩ = some (.int .u8 0) := QB3.out.cell 7; have QBc8 : w3.cell? ⟨w.heap.size, 8, none⟩ = some (.int .u8 0) := QB3.out.cell 8; have QBc9 : w3.cell? ⟨w.heap.size, 9, none⟩ = some (.int .u8 0) := QB3.out.cell 9; have QBc10 : w3.cell? ⟨w.heap.size, 10, none⟩ = some (.int .u8 0) := QB3.out.cell 10; have QBc11 : w3.cell? ⟨w.heap.size, 11, none⟩ = some (.int .i64 3000) := QB3.out.cell 11; have QBc12 : w3.cell? ⟨w.heap.size, 12, none⟩ = some (.int .i64 10) := QB3.out.cell 12; have QBlt : w.heap.size < w3.heap.size := QB3.out.lt; have XBc0 : w3.cell? ⟨w2.heap.size, 0, none⟩ = some (.int .i64 2000) := XB3.out.cell 0; have XBc1 : w3.cell? ⟨w2.heap.size, 1, none⟩ = some (.int .i64 0) := XB3.out.cell 1; have XBc2 : w3.cell? ⟨w2.heap.size, 2, none⟩ = some (.int .i64 0) := XB3.out.cell 2; have XBc3 : w3.cell? ⟨w2.heap.size, 3, none⟩ = some (.int .u8 0) := XB3.out.cell 3; have XBc4 : w3.cell? ⟨w2.heap.size, 4, none⟩ = some (.int .u8 0) := XB3.out.cell 4; have XBc5 : w3.cell? ⟨w2.heap.size, 5, none⟩ = some (.int .u8 0) := XB3.out.cell 5; have XBc6 : w3.cell? ⟨w2.heap.size, 6, none⟩ = some (.int .u8 0) := XB3.out.cell 6; have XBc7 : w3.cell? ⟨w2.heap.size, 7, none⟩ = some (.int .u8 0) := XB3.out.cell 7; have XBc8 : w3.cell? ⟨w2.heap.size, 8, none⟩ = some (.int .u8 0) := XB3.out.cell 8; have XBc9 : w3.cell? ⟨w2.heap.size, 9, none⟩ = some (.int .u8 0) := XB3.out.cell 9; have XBc10 : w3.cell? ⟨w2.heap.size, 10, none⟩ = some (.int .u8 0) := XB3.out.cell 10; have XBc11 : w3.cell? ⟨w2.heap.size, 11, none⟩ = some (.int .i64 3000) := XB3.out.cell 11; have XBc12 : w3.cell? ⟨w2.heap.size, 12, none⟩ = some (.int .i64 10) := XB3.out.cell 12; have XBlt : w2.heap.size < w3.heap.size := XB3.out.lt; have YL3 := Lib.hid ((YL2.out.alloc (.cells #[.int .i64 2000, .int .i64 0, .int .i64 0, .int .u8 0, .int .u8 0, .int .u8 0, .int .u8 0, .int .u8 0, .int .u8 0, .int .u8 0, .int .u8 0, .int .i64 3000, .int .i64 10] 28)).call b3); clear YL2; have YM3 := Lib.hid ((YM2.out.alloc (.cells #[.int .i64 2000, .int .i64 0, .int .i64 0, .int .u8 0, .int .u8 0, .int .u8 0, .int .u8 0, .int .u8 0, .int .u8 0, .int .u8 0, .int .u8 0, .int .i64 3000, .int .i64 10] 28)).call b3); clear YM2; clear y3; clear QB2)
      | (go_at_call 15; refine (H4.out _ _ (YM3.out.alloc (.cells #[.int .i64 0, .int .i64 0, .int .i64 0, .int .u8 0, .int .u8 0, .int .u8 0, .int .u8 0, .int .u8 0, .int .u8 0, .int .u8 0, .int .u8 0, .int .i64 0, .int .i64 0] 28))).mono ?_; rintro e w4 ⟨⟨p4, c4, rfl, y4⟩, b4⟩; have B4 := Lib.hid (((B3.out).alloc B3.out.size (.cells #[.int .i64 0, .int .i64 0, .int .i64 0, .int .u8 0, .int .u8 0, .int .u8 0, .int .u8 0, .int .u8 0, .int .u8 0, .int .u8 0, .int .u8 0, .int .i64 0, .int .i64 0] 28)).trans (b4.mono (by have := B3.out.size; simp <;> omega))); have QB4 := Lib.hid ((QB3.out.alloc (.cells #[.int .i64 0, .int .i64 0, .int .i64 0, .int .u8 0, .int .u8 0, .int .u8 0, .int .u8 0, .int .u8 0, .int .u8 0, .int .u8 0, .int .u8 0, .int .i64 0, .int .i64 0] 28)).call b4); have XB4 := Lib.hid ((XB3.out.alloc (.cells #[.int .i64 0, .int .i64 0, .int .i64 0, .int .u8 0, .int .u8 0, .int .u8 0, .int .u8 0, .int .u8 0, .int .u8 0, .int .u8 0, .int .u8 0, .int .i64 0, .int .i64 0] 28)).call b4); clear QBc0 QBc1 QBc2 QBc3 QBc4 QBc5 QBc6 QBc7 QBc8 QBc9 QBc10 QBc11 QBc12 QBlt XBc0 XBc1 XBc2 XBc3 XBc4 XBc5 XBc6 XBc7 XBc8 XBc9 XBc10 XBc11 XBc12 XBlt; have QBc0 : w4.cell? ⟨w.heap.size, 0, none⟩ = some (.int .i64 2000) := QB4.out.cell 0; have QBc1 : w4.cell? ⟨w.heap.size, 1, none⟩ = some (.int .i64 0) := QB4.out.cell 1; have QBc2 : w4.cell? ⟨w.heap.size, 2, none⟩ = some (.int .i64 0) := QB4.out.cell 2; have QBc3 : w4.cell? ⟨w.heap.size, 3, none⟩ = some (.int .u8 0) := QB4.out.cell 3; have QBc4 : w4.cell? ⟨w.heap.size, 4, none⟩ = some (.int .u8 0) := QB4.out.cell 4; have QBc5 : w4.cell? ⟨w.heap.size, 5, none⟩ = some (.int .u8 0) := QB4.out.cell 5; have QBc6 : w4.cell? ⟨w.heap.size, 6, none⟩ = some (.int .u8 0) := QB4.out.cell 6; have QBc7 : w4.cell? ⟨w.heap.size, 7, none⟩ = some (.int .u8 0) := QB4.out.cell 7; have QBc8 : w4.cell? ⟨w.heap.size, 8, none⟩ = some (.int .u8 0) := QB4.out.cell 8; have QBc9 : w4.cell? ⟨w.heap.size, 9, none⟩ = some (.int .u8 0) := QB4.out.cell 9; have QBc10 : w4.cell? ⟨w.heap.size, 10, none⟩ = some (.int .u8 0) := QB4.out.cell 10; have QBc11 : w4.cell? ⟨w.heap.size, 11, none⟩ = some (.int .i64 3000) := QB4.out.cell 11; have QBc12 : w4.cell? ⟨w.heap.size, 12, none⟩ = some (.int .i64 10) := QB4.out.cell 12; have QBlt : w.heap.size < w4.heap.size := QB4.out.lt; have XBc0 : w4.cell? ⟨w2.heap.size, 0, none⟩ = some (.int .i64 2000) := XB4.out.cell 0; have XBc1 : w4.cell? ⟨w2.heap.size, 1, none⟩ = some (.int .i64 0) := XB4.out.cell 1; have XBc2 : w4.cell? ⟨w2.heap.size, 2, none⟩ = some (.int .i64 0) := XB4.out.cell 2; have XBc3 : w4.cell? ⟨w2.heap.size, 3, none⟩ = some (.int .u8 0) := XB4.out.cell 3; have XBc4 : w4.cell? ⟨w2.heap.size, 4, none⟩ = some (.int .u8 0) := XB4.out.cell 4; have XBc5 : w4.cell? ⟨w2.heap.size, 5, none⟩ = some (.int .u8 0) := XB4.out.cell 5; have XBc6 : w4.cell? ⟨w2.heap.size, 6, none⟩ = some (.int .u8 0) := XB4.out.cell 6; have XBc7 : w4.cell? ⟨w2.heap.size, 7, none⟩ = some (.int .u8 0) := XB4.out.cell 7; have XBc8 : w4.cell? ⟨w2.heap.size, 8, none⟩ = some (.int .u8 0) := XB4.out.cell 8; have XBc9 : w4.cell? ⟨w2.heap.size, 9, none⟩ = some (.int .u8 0) := XB4.out.cell 9; have XBc10 : w4.cell? ⟨w2.heap.size, 10, none⟩ = some (.int .u8 0) := XB4.out.cell 10; have XBc11 : w4.cell? ⟨w2.heap.size, 11, none⟩ = some (.int .i64 3000) := XB4.out.cell 11; have XBc12 : w4.cell? ⟨w2.heap.size, 12, none⟩ = some (.int .i64 10) := XB4.out.cell 12; have XBlt : w2.heap.size < w4.heap.size := XB4.out.lt; have YL4 := Lib.hid ((YL3.out.alloc (.cells #[.int .i64 0, .int .i64 0, .int .i64 0, .int .u8 0, .int .u8 0, .int .u8 0, .int .u8 0, .int .u8 0, .int .u8 0, .int .u8 0, .int .u8 0, .int .i64 0, .int .i64 0] 28)).call b4); clear YL3; clear y4; clear QB3 XB3)
      | (go_at_call 17; refine (H5.out _ _ (YL4.out.alloc (.cells #[.int .i64 0, .int .i64 0, .int .i64 0, .int .u8 0, .int .u8 0, .int .u8 0, .int .u8 0, .int .u8 0, .int .u8 0, .int .u8 0, .int .u8 0, .int .i64 0, .int .i64 0] 28))).mono ?_; rintro e w5 ⟨⟨p5, c5, rfl, y5⟩, b5⟩; have B5 := Lib.hid (((B4.out).alloc B4.out.size (.cells #[.int .i64 0, .int .i64 0, .int .i64 0, .int .u8 0, .int .u8 0, .int .u8 0, .int .u8 0, .int .u8 0, .int .u8 0, .int .u8 0, .int .u8 0, .int .i64 0, .int .i64 0] 28)).trans (b5.mono (by have := B4.out.size; simp <;> omega))); have QB5 := Lib.hid ((QB4.out.alloc (.cells #[.int .i64 0, .int .i64 0, .int .i64 0, .int .u8 0, .int .u8 0, .int .u8 0, .int .u8 0, .int .u8 0, .int .u8 0, .int .u8 0, .int .u8 0, .int .i64 0, .int .i64 0] 28)).call b5); have XB5 := Lib.hid ((XB4.out.alloc (.cells #[.int .i64 0, .int .i64 0, .int .i64 0, .int .u8 0, .int .u8 0, .int .u8 0, .int .u8 0, .int .u8 0, .int .u8 0, .int .u8 0, .int .u8 0, .int .i64 0, .int .i64 0] 28)).call b5); clear QBc0 QBc1 QBc2 QBc3 QBc4 QBc5 QBc6 QBc7 QBc8 QBc9 QBc10 QBc11 QBc12 QBlt XBc0 XBc1 XBc2 XBc3 XBc4 XBc5 XBc6 XBc7 XBc8 XBc9 XBc10 XBc11 XBc12 XBlt; have QBc0 : w5.cell? ⟨w.heap.size, 0, none⟩ = some (.int .i64 2000) := QB5.out.cell 0; have QBc1 : w5.cell? ⟨w.heap.size, 1, none⟩ = some (.int .i64 0) := QB5.out.cell 1; have QBc2 : w5.cell? ⟨w.heap.size, 2, none⟩ = some (.int .i64 0) := QB5.out.cell 2; have QBc3 : w5.cell? ⟨w.heap.size, 3, none⟩ = some (.int .u8 0) := QB5.out.cell 3; have QBc4 : w5.cell? ⟨w.heap.size, 4, none⟩ = some (.int .u8 0) := QB5.out.cell 4; have QBc5 : w5.cell? ⟨w.heap.size, 5, none⟩ = some (.int .u8 0) := QB5.out.cell 5; have QBc6 : w5.cell? ⟨w.heap.size, 6, none⟩ = some (.int .u8 0) := QB5.out.cell 6; have QBc7 : w5.cell? ⟨w.heap.size, 7, none⟩ = some (.int .u8 0) := QB5.out.cell 7; have QBc8 : w5.cell? ⟨w.heap.size, 8, none⟩ = some (.int .u8 0) := QB5.out.cell 8; have QBc9 : w5.cell? ⟨w.heap.size, 9, none⟩ = some (.int .u8 0) := QB5.out.cell 9; have QBc10 : w5.cell? ⟨w.heap.size, 10, none⟩ = some (.int .u8 0) := QB5.out.cell 10; have QBc11 : w5.cell? ⟨w.heap.size, 11, none⟩ = some (.int .i64 3000) := QB5.out.cell 11; have QBc12 : w5.cell? ⟨w.heap.size, 12, none⟩ = some (.int .i64 10) := QB5.out.cell 12; have QBlt : w.heap.size < w5.heap.size := QB5.out.lt; have YL5 := Lib.hid ((YL4.out.alloc (.cells #[.int .i64 0, .int .i64 0, .int .i64 0, .int .u8 0, .int .u8 0, .int .u8 0, .int .u8 0, .int .u8 0, .int .u8 0, .int .u8 0, .int .u8 0, .int .i64 0, .int .i64 0] 28)).call b5); clear YL4; clear y5; clear QB4 XB4)
      | (go_at_call 19; refine (H6.out _ _ YL5.out).mono ?_; rintro e w6 ⟨⟨p6, c6, rfl, y6⟩, b6⟩; have B6 := Lib.hid (B5.out.trans (b6.mono B5.out.size)); have QB6 := Lib.hid (QB5.out.call b6); have XB6 := Lib.hid (XB5.out.call b6); clear QBc0 QBc1 QBc2 QBc3 QBc4 QBc5 QBc6 QBc7 QBc8 QBc9 QBc10 QBc11 QBc12 QBlt; have QBc0 : w6.cell? ⟨w.heap.size, 0, none⟩ = some (.int .i64 2000) := QB6.out.cell 0; have QBc1 : w6.cell? ⟨w.heap.size, 1, none⟩ = some (.int .i64 0) := QB6.out.cell 1; have QBc2 : w6.cell? ⟨w.heap.size, 2, none⟩ = some (.int .i64 0) := QB6.out.cell 2; have QBc3 : w6.cell? ⟨w.heap.size, 3, none⟩ = some (.int .u8 0) := QB6.out.cell 3; have QBc4 : w6.cell? ⟨w.heap.size, 4, none⟩ = some (.int .u8 0) := QB6.out.cell 4; have QBc5 : w6.cell? ⟨w.heap.size, 5, none⟩ = some (.int .u8 0) := QB6.out.cell 5; have QBc6 : w6.cell? ⟨w.heap.size, 6, none⟩ = some (.int .u8 0) := QB6.out.cell 6; have QBc7 : w6.cell? ⟨w.heap.size, 7, none⟩ = some (.int .u8 0) := QB6.out.cell 7; have QBc8 : w6.cell? ⟨w.heap.size, 8, none⟩ = some (.int .u8 0) := QB6.out.cell 8; have QBc9 : w6.cell? ⟨w.heap.size, 9, none⟩ = some (.int .u8 0) := QB6.out.cell 9; have QBc10 : w6.cell? ⟨w.heap.size, 10, none⟩ = some (.int .u8 0) := QB6.out.cell 10; have QBc11 : w6.cell? ⟨w.heap.size, 11, none⟩ = some (.int .i64 3000) := QB6.out.cell 11; have QBc12 : w6.cell? ⟨w.heap.size, 12, none⟩ = some (.int .i64 10) := QB6.out.cell 12; have QBlt : w.heap.size < w6.heap.size := QB6.out.lt; have YL6 := Lib.hid (YL5.out.call b6); clear YL5; clear y6; clear QB5 XB5)
      | (go_at_call 21; refine (H7.out _ _ YL6.out).mono ?_; rintro e w7 ⟨⟨p7, c7, rfl, y7⟩, b7⟩; have B7 := Lib.hid (B6.out.trans (b7.mono B6.out.size)); have QB7 := Lib.hid (QB6.out.call b7); have XB7 := Lib.hid (XB6.out.call b7); clear QBc0 QBc1 QBc2 QBc3 QBc4 QBc5 QBc6 QBc7 QBc8 QBc9 QBc10 QBc11 QBc12 QBlt; have QBc0 : w7.cell? ⟨w.heap.size, 0, none⟩ = some (.int .i64 2000) := QB7.out.cell 0; have QBc1 : w7.cell? ⟨w.heap.size, 1, none⟩ = some (.int .i64 0) := QB7.out.cell 1; have QBc2 : w7.cell? ⟨w.heap.size, 2, none⟩ = some (.int .i64 0) := QB7.out.cell 2; have QBc3 : w7.cell? ⟨w.heap.size, 3, none⟩ = some (.int .u8 0) := QB7.out.cell 3; have QBc4 : w7.cell? ⟨w.heap.size, 4, none⟩ = some (.int .u8 0) := QB7.out.cell 4; have QBc5 : w7.cell? ⟨w.heap.size, 5, none⟩ = some (.int .u8 0) := QB7.out.cell 5; have QBc6 : w7.cell? ⟨w.heap.size, 6, none⟩ = some (.int .u8 0) := QB7.out.cell 6; have QBc7 : w7.cell? ⟨w.heap.size, 7, none⟩ = some (.int .u8 0) := QB7.out.cell 7; have QBc8 : w7.cell? ⟨w.heap.size, 8, none⟩ = some (.int .u8 0) := QB7.out.cell 8; have QBc9 : w7.cell? ⟨w.heap.size, 9, none⟩ = some (.int .u8 0) := QB7.out.cell 9; have QBc10 : w7.cell? ⟨w.heap.size, 10, none⟩ = some (.int .u8 0) := QB7.out.cell 10; have QBc11 : w7.cell? ⟨w.heap.size, 11, none⟩ = some (.int .i64 3000) := QB7.out.cell 11; have QBc12 : w7.cell? ⟨w.heap.size, 12, none⟩ = some (.int .i64 10) := QB7.out.cell 12; have QBlt : w.heap.size < w7.heap.size := QB7.out.lt; have YL7 := Lib.hid (YL6.out.call b7); clear YL6; clear y7; clear QB6 XB6)
      | (go_at_call 23; refine (H8.out _).mono ?_; rintro e w8 ⟨rfl, b8⟩; have B8 := Lib.hid (B7.out.trans (b8.mono B7.out.size)); have QB8 := Lib.hid (QB7.out.call b8); have XB8 := Lib.hid (XB7.out.call b8); clear QBc0 QBc1 QBc2 QBc3 QBc4 QBc5 QBc6 QBc7 QBc8 QBc9 QBc10 QBc11 QBc12 QBlt; have YL8 := Lib.hid (YL7.out.call b8); clear YL7; clear QB7 XB7)
      | (go_at_call 24; refine (H9.out _ _ YL8.out).mono ?_; rintro e w9 ⟨rfl, b9⟩; have B9 := Lib.hid (B8.out.trans (b9.mono B8.out.size)); have QB9 := Lib.hid (QB8.out.call b9); have XB9 := Lib.hid (XB8.out.call b9); have YL9 := Lib.hid (YL8.out.call b9); clear YL8; clear QB8 XB8))
  all_goals (go_ret; exact ⟨by first | rfl | (simp; done) | (simp; omega), B9.out⟩)

#print axioms awake_any
end Go.Proofs.Ytaahghjllfkmaaa.Hl
