/- The contract of reply.Take, beside those of May, Print and Same: what the laws of layer 9 lean on. -/
import Derived.Test.YtbojjbnmjhblfaaDoorReplyTake
import Derived.Test.YtbojjbnmjhblfaaDoorReplyPrint
import Derived.RegionTactic
namespace Go.Proofs.YtbojjbnmjhblfaaDoor.Rp
open Go.Proofs.YtbojjbnmjhblfaaDoor Go.Proofs.YtbojjbnmjhblfaaDoor.Cm Go.Proofs.YtbojjbnmjhblfaaDoor.Quad
open Go Go.ChangeShapes Go.WideShapes Go.ChangeAt Go.RowKit
set_option maxRecDepth 100000
set_option linter.unusedSimpArgs false

/-- what Take answers -/
def TakePost (base : Nat) (T : Tk) (e : Ending) (w' : World) : Prop := ∃ x y, e = .returned (.tuple #[gatherV T.g.code x T.g.isOpen, replyV T.code y, .bool T.done, .int .i64 T.err]) ∧ OwnStrs base w' x T.g.lines ∧ OwnStrs base w' y T.lines
theorem tk_done {T : Tn} {X : Tk} (h : T.tk = X) : T.ended = X.done := by
  rw [← h]; unfold Tn.tk; cases T.ended <;> rfl
theorem taken_at (c : Int) (lo : -9223372036854775808 ≤ c) (hi : c ≤ 9223372036854775807) (u : Value) (o : Bool) (l : Ls) (s : List UInt8) (hl : l.length ≤ 1000) (hs : s.length ≤ 100000) (X : Tk) (hX : take ⟨c, l, o⟩ s = X) (w : World) (E : Env w) (Y : TextsIs w u l) :
    Calls Tryd.prog 27 #[gatherV c u o, .string ⟨s.toArray⟩] w fun e w' => (∃ tc tl to te, Tn.tk ⟨⟨tc, tl, to⟩, X.done, te⟩ = X ∧ ∃ p n k, e = .returned (.tuple #[takenV tc (.slice p n k) to X.done, .int .i64 te]) ∧ OwnStrs w.heap.size w' (.slice p n k) tl) ∧ Below w.heap.size w w' := by
  subst hX
  refine (taken_any c lo hi u o l s hl hs w E Y).mono ?_
  rintro e w' ⟨⟨⟨⟨tc, tl, to⟩, tb, te⟩, h, q, m, d, h1, h2⟩, h3⟩
  have hd := tk_done h
  have hd : tb = (take ⟨c, l, o⟩ s).done := hd
  subst hd
  exact ⟨⟨tc, tl, to, te, h, q, m, d, h1, h2⟩, h3⟩

set_option maxHeartbeats 8000000 in
theorem take_any (c : Int) (lo : -9223372036854775808 ≤ c) (hi : c ≤ 9223372036854775807) (u : Value) (o : Bool) (l : Ls) (s : List UInt8) (hl : l.length ≤ 1000) (hs : s.length ≤ 100000) (w : World) (E : Env w) (Y : TextsIs w u l) :
    Calls Tryd.prog 17 #[gatherV c u o, .string ⟨s.toArray⟩] w fun e w' => TakePost w.heap.size (take ⟨c, l, o⟩ s) e w' ∧ Below w.heap.size w w' := by
  obtain ⟨p, n, k, rfl, hn⟩ := Y.form3
  have B0 : Hid (Below w.heap.size w (((w.alloc (.cells #[.int .i64 c, .slice p n k, .bool o] 33)).alloc (.cells #[.int .i64 0, .slice none 0 0, .bool false] 33)).alloc (.cells #[.int .i64 0, .slice none 0 0] 24))) := Lib.hid ((((Below.refl _ w).alloc (Nat.le_refl _) _).alloc (by simp) _).alloc (by simp <;> omega) _)
  have RA0 : Hid (IsRow (((w.alloc (.cells #[.int .i64 c, .slice p n k, .bool o] 33)).alloc (.cells #[.int .i64 0, .slice none 0 0, .bool false] 33)).alloc (.cells #[.int .i64 0, .slice none 0 0] 24)) (w.heap.size + 1) 33 #[.int .i64 0, .slice none 0 0, .bool false]) := Lib.hid (by have h := (IsRow.made (w.alloc (.cells #[.int .i64 c, .slice p n k, .bool o] 33)) 33 #[.int .i64 0, .slice none 0 0, .bool false]).alloc (.cells #[.int .i64 0, .slice none 0 0] 24); rw [World.size_alloc] at h; exact h)
  have RR0 : Hid (IsRow (((w.alloc (.cells #[.int .i64 c, .slice p n k, .bool o] 33)).alloc (.cells #[.int .i64 0, .slice none 0 0, .bool false] 33)).alloc (.cells #[.int .i64 0, .slice none 0 0] 24)) (w.heap.size + 1 + 1) 24 #[.int .i64 0, .slice none 0 0]) := Lib.hid (by have h := IsRow.made ((w.alloc (.cells #[.int .i64 c, .slice p n k, .bool o] 33)).alloc (.cells #[.int .i64 0, .slice none 0 0, .bool false] 33)) 24 #[.int .i64 0, .slice none 0 0]; rw [World.size_alloc, World.size_alloc] at h; exact h)
  have HK := Lib.hid (taken_at c lo hi (.slice p n k) o l s hl hs (take ⟨c, l, o⟩ s) rfl (((w.alloc (.cells #[.int .i64 c, .slice p n k, .bool o] 33)).alloc (.cells #[.int .i64 0, .slice none 0 0, .bool false] 33)).alloc (.cells #[.int .i64 0, .slice none 0 0] 24)) (E.below B0.out) (((Y.alloc _).alloc _).alloc _))
  generalize take ⟨c, l, o⟩ s = T at HK ⊢
  clear Y hn
  obtain ⟨Tg, Tc, Tl, Td, Te⟩ := T
  cases Td with
  | true =>
    go_enter Tryd.func17, Tryd.ntmps17
    go_wp2_with (go_at_call 27; refine HK.out.mono ?_; rintro e w1 ⟨⟨tc, tl, to, te, htk, q, m, d, rfl, ho⟩, b1⟩; have B1 := Lib.hid ((B0.out.trans (b1.mono B0.out.size)).alloc (B0.out.trans (b1.mono B0.out.size)).size (.cells #[.int .i64 tc, .slice q m d, .bool to, .bool true] 47)); have RA1 := Lib.hid ((RA0.out.call b1).alloc (.cells #[.int .i64 tc, .slice q m d, .bool to, .bool true] 47)); have RR1 := Lib.hid ((RR0.out.call b1).alloc (.cells #[.int .i64 tc, .slice q m d, .bool to, .bool true] 47)); have RT1 := Lib.hid (IsRow.made w1 47 #[.int .i64 tc, .slice q m d, .bool to, .bool true]); have a0 := RA1.out.cell 0; have a1 := RA1.out.cell 1; have a2 := RA1.out.cell 2; have af0 := RA1.out.free 0; have af1 := RA1.out.free 1; have af2 := RA1.out.free 2; have r0 := RR1.out.cell 0; have r1 := RR1.out.cell 1; have rf0 := RR1.out.free 0; have rf1 := RR1.out.free 1; have t0 := RT1.out.cell 0; have t1 := RT1.out.cell 1; have t2 := RT1.out.cell 2; have t3 := RT1.out.cell 3; have alt := RA1.out.lt; have rlt := RR1.out.lt; have nat := Nat.ne_of_lt (RA0.out.call b1).lt; have nrt := Nat.ne_of_lt (RR0.out.call b1).lt; have OO := Lib.hid (ho.alloc (.cells #[.int .i64 tc, .slice q m d, .bool to, .bool true] 47)); have OL := Lib.hid RR0.out.lt; have HTK := Lib.hid htk; clear b1 ho htk HK)
    obtain ⟨rfl, rfl, rfl, rfl⟩ : Tg = Ga.none ∧ tc = Tc ∧ tl = Tl ∧ te = Te := by have h := HTK.out; simp [Tn.tk] at h; exact ⟨h.1.symm, h.2.1, h.2.2.1, h.2.2.2⟩
    go_region
    go_wp2_with fail
    generalize hW : World.drew _ = W9
    have FA : IsRow W9 (w.heap.size + 1) 33 #[.int .i64 0, .slice none 0 0, .bool false] := by rw [← hW]; exact (((((RA1.out.set 0 (.int .i64 0)).set 1 (.slice none 0 0)).set 2 (.bool false)).other (a := ⟨w.heap.size + 1 + 1, 0, none⟩) (by show w.heap.size + 1 ≠ w.heap.size + 1 + 1; omega) (.int .i64 tc)).other (a := ⟨w.heap.size + 1 + 1, 1, none⟩) (by show w.heap.size + 1 ≠ w.heap.size + 1 + 1; omega) (.slice q m d)).drew
    have FR : IsRow W9 (w.heap.size + 1 + 1) 24 #[.int .i64 tc, .slice q m d] := by rw [← hW]; exact (((((RR1.out.other (a := ⟨w.heap.size + 1, 0, none⟩) (by show w.heap.size + 1 + 1 ≠ w.heap.size + 1; omega) (.int .i64 0)).other (a := ⟨w.heap.size + 1, 1, none⟩) (by show w.heap.size + 1 + 1 ≠ w.heap.size + 1; omega) (.slice none 0 0)).other (a := ⟨w.heap.size + 1, 2, none⟩) (by show w.heap.size + 1 + 1 ≠ w.heap.size + 1; omega) (.bool false)).set 0 (.int .i64 tc)).set 1 (.slice q m d)).drew
    have B9 : Below w.heap.size w W9 := by rw [← hW]; exact (((((B1.out.setCell (p := ⟨w.heap.size + 1, 0, none⟩) (by show w.heap.size ≤ w.heap.size + 1; omega) (.int .i64 0)).setCell (p := ⟨w.heap.size + 1, 1, none⟩) (by show w.heap.size ≤ w.heap.size + 1; omega) (.slice none 0 0)).setCell (p := ⟨w.heap.size + 1, 2, none⟩) (by show w.heap.size ≤ w.heap.size + 1; omega) (.bool false)).setCell (p := ⟨w.heap.size + 1 + 1, 0, none⟩) (by show w.heap.size ≤ w.heap.size + 1 + 1; omega) (.int .i64 tc)).setCell (p := ⟨w.heap.size + 1 + 1, 1, none⟩) (by show w.heap.size ≤ w.heap.size + 1 + 1; omega) (.slice q m d)).drew
    have O9 : OwnStrs w.heap.size W9 (.slice q m d) tl := by
      have OL1 := OL.out
      rw [← hW]
      exact ((((((OO.out.set (p := ⟨w.heap.size + 1, 0, none⟩) (by show w.heap.size + 1 < _; omega) (.int .i64 0)).set (p := ⟨w.heap.size + 1, 1, none⟩) (by show w.heap.size + 1 < _; omega) (.slice none 0 0)).set (p := ⟨w.heap.size + 1, 2, none⟩) (by show w.heap.size + 1 < _; omega) (.bool false)).set (p := ⟨w.heap.size + 1 + 1, 0, none⟩) (by show w.heap.size + 1 + 1 < _; omega) (.int .i64 tc)).set (p := ⟨w.heap.size + 1 + 1, 1, none⟩) (by show w.heap.size + 1 + 1 < _; omega) (.slice q m d)).mono (by omega)).call (Below.refl _ _).drew
    have y0 := FA.cell 0
    have y1 := FA.cell 1
    have y2 := FA.cell 2
    have x0 := FR.cell 0
    have x1 := FR.cell 1
    exact bodyPost_ret (v := .tuple #[.agg #[.int .i64 0, .slice none 0 0, .bool false], .agg #[.int .i64 tc, .slice q m d], .bool true, .int .i64 te]) (by simp [results, Tryd.results17, go_sem, y0, y1, y2, x0, x1]) rfl ⟨⟨_, _, rfl, OwnStrs.nil _ _, O9⟩, B9⟩
  | false =>
    go_enter Tryd.func17, Tryd.ntmps17
    go_wp2_with (go_at_call 27; refine HK.out.mono ?_; rintro e w1 ⟨⟨tc, tl, to, te, htk, q, m, d, rfl, ho⟩, b1⟩; have B1 := Lib.hid ((B0.out.trans (b1.mono B0.out.size)).alloc (B0.out.trans (b1.mono B0.out.size)).size (.cells #[.int .i64 tc, .slice q m d, .bool to, .bool false] 47)); have RA1 := Lib.hid ((RA0.out.call b1).alloc (.cells #[.int .i64 tc, .slice q m d, .bool to, .bool false] 47)); have RR1 := Lib.hid ((RR0.out.call b1).alloc (.cells #[.int .i64 tc, .slice q m d, .bool to, .bool false] 47)); have RT1 := Lib.hid (IsRow.made w1 47 #[.int .i64 tc, .slice q m d, .bool to, .bool false]); have a0 := RA1.out.cell 0; have a1 := RA1.out.cell 1; have a2 := RA1.out.cell 2; have af0 := RA1.out.free 0; have af1 := RA1.out.free 1; have af2 := RA1.out.free 2; have r0 := RR1.out.cell 0; have r1 := RR1.out.cell 1; have rf0 := RR1.out.free 0; have rf1 := RR1.out.free 1; have t0 := RT1.out.cell 0; have t1 := RT1.out.cell 1; have t2 := RT1.out.cell 2; have t3 := RT1.out.cell 3; have alt := RA1.out.lt; have rlt := RR1.out.lt; have nat := Nat.ne_of_lt (RA0.out.call b1).lt; have nrt := Nat.ne_of_lt (RR0.out.call b1).lt; have OO := Lib.hid (ho.alloc (.cells #[.int .i64 tc, .slice q m d, .bool to, .bool false] 47)); have OL := Lib.hid RR0.out.lt; have HTK := Lib.hid htk; clear b1 ho htk HK)
    obtain ⟨rfl, rfl, rfl, rfl⟩ : Tg = ⟨tc, tl, to⟩ ∧ Tc = 0 ∧ Tl = [] ∧ te = Te := by have h := HTK.out; simp [Tn.tk] at h; exact ⟨h.1.symm, h.2.1.symm, h.2.2.1, h.2.2.2⟩
    generalize hW : World.setCell _ _ _ = W9
    have FA : IsRow W9 (w.heap.size + 1) 33 #[.int .i64 tc, .slice q m d, .bool to] := by rw [← hW]; exact (((((RA1.out.set 0 (.int .i64 tc)).set 1 (.slice q m d)).set 2 (.bool to)).other (a := ⟨w.heap.size + 1 + 1, 0, none⟩) (by show w.heap.size + 1 ≠ w.heap.size + 1 + 1; omega) (.int .i64 0)).other (a := ⟨w.heap.size + 1 + 1, 1, none⟩) (by show w.heap.size + 1 ≠ w.heap.size + 1 + 1; omega) (.slice none 0 0))
    have FR : IsRow W9 (w.heap.size + 1 + 1) 24 #[.int .i64 0, .slice none 0 0] := by rw [← hW]; exact (((((RR1.out.other (a := ⟨w.heap.size + 1, 0, none⟩) (by show w.heap.size + 1 + 1 ≠ w.heap.size + 1; omega) (.int .i64 tc)).other (a := ⟨w.heap.size + 1, 1, none⟩) (by show w.heap.size + 1 + 1 ≠ w.heap.size + 1; omega) (.slice q m d)).other (a := ⟨w.heap.size + 1, 2, none⟩) (by show w.heap.size + 1 + 1 ≠ w.heap.size + 1; omega) (.bool to)).set 0 (.int .i64 0)).set 1 (.slice none 0 0))
    have B9 : Below w.heap.size w W9 := by rw [← hW]; exact (((((B1.out.setCell (p := ⟨w.heap.size + 1, 0, none⟩) (by show w.heap.size ≤ w.heap.size + 1; omega) (.int .i64 tc)).setCell (p := ⟨w.heap.size + 1, 1, none⟩) (by show w.heap.size ≤ w.heap.size + 1; omega) (.slice q m d)).setCell (p := ⟨w.heap.size + 1, 2, none⟩) (by show w.heap.size ≤ w.heap.size + 1; omega) (.bool to)).setCell (p := ⟨w.heap.size + 1 + 1, 0, none⟩) (by show w.heap.size ≤ w.heap.size + 1 + 1; omega) (.int .i64 0)).setCell (p := ⟨w.heap.size + 1 + 1, 1, none⟩) (by show w.heap.size ≤ w.heap.size + 1 + 1; omega) (.slice none 0 0))
    have O9 : OwnStrs w.heap.size W9 (.slice q m d) tl := by
      have OL1 := OL.out
      rw [← hW]
      exact (((((OO.out.set (p := ⟨w.heap.size + 1, 0, none⟩) (by show w.heap.size + 1 < _; omega) (.int .i64 tc)).set (p := ⟨w.heap.size + 1, 1, none⟩) (by show w.heap.size + 1 < _; omega) (.slice q m d)).set (p := ⟨w.heap.size + 1, 2, none⟩) (by show w.heap.size + 1 < _; omega) (.bool to)).set (p := ⟨w.heap.size + 1 + 1, 0, none⟩) (by show w.heap.size + 1 + 1 < _; omega) (.int .i64 0)).set (p := ⟨w.heap.size + 1 + 1, 1, none⟩) (by show w.heap.size + 1 + 1 < _; omega) (.slice none 0 0)).mono (by omega)
    have y0 := FA.cell 0
    have y1 := FA.cell 1
    have y2 := FA.cell 2
    have x0 := FR.cell 0
    have x1 := FR.cell 1
    exact bodyPost_ret (v := .tuple #[.agg #[.int .i64 tc, .slice q m d, .bool to], .agg #[.int .i64 0, .slice none 0 0], .bool false, .int .i64 te]) (by simp [results, Tryd.results17, go_sem, y0, y1, y2, x0, x1]) rfl ⟨⟨_, _, rfl, O9, OwnStrs.nil _ _⟩, B9⟩

#print axioms take_any
end Go.Proofs.YtbojjbnmjhblfaaDoor.Rp
