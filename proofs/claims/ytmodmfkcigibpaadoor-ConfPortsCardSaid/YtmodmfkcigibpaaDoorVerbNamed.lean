/- verb.named, verb.Find. -/
import Derived.Test.YtmodmfkcigibpaaDoorVerbMap
import Derived.Test.YtmodmfkcigibpaaDoorVerbAll
import Derived.Lib.Hide
namespace Go.Proofs.YtmodmfkcigibpaaDoor.Vb
open Go.Proofs.YtmodmfkcigibpaaDoor
open Go.ChangeShapes Go.WideShapes Go.ChangeAt Go.RowKit
set_option maxRecDepth 100000
set_option linter.unusedSimpArgs false

set_option maxHeartbeats 2000000 in
theorem named_any (n : List UInt8) (v : Vb) (w : World) : Calls Tryd.prog 66 #[.string ⟨n.toArray⟩, rowV v] w fun e w' => e = .returned (verbV ⟨n, v.kind, v.arg, v.path⟩) ∧ Below w.heap.size w w' := by
  obtain ⟨_, kd, ar, pa⟩ := v
  have R0 : IsRow (w.alloc (.cells #[.string ⟨#[]⟩, .int .i64 kd, .int .i64 ar, .bool pa] 89)) w.heap.size 89 #[.string ⟨#[]⟩, .int .i64 kd, .int .i64 ar, .bool pa] := IsRow.made w _ _
  go_enter Tryd.func66, Tryd.ntmps66
  go_wp2_with fail
  generalize hW : World.alloc (World.alloc _ _) _ = W9
  have FR : IsRow W9 (w.heap.size + 1) 89 #[.string ⟨n.toArray⟩, .int .i64 kd, .int .i64 ar, .bool pa] := by
    rw [← hW]
    have := IsRow.made (w.alloc (.cells #[.string ⟨n.toArray⟩, .int .i64 kd, .int .i64 ar, .bool pa] 89)) 89 #[.string ⟨n.toArray⟩, .int .i64 kd, .int .i64 ar, .bool pa]
    simpa using this
  have B9 : Below w.heap.size w W9 := by rw [← hW]; exact ((Below.refl _ w).alloc (Nat.le_refl _) _).alloc (by simp) _
  have g0 : W9.cell? ⟨w.heap.size + 1, 0, none⟩ = some (.string ⟨n.toArray⟩) := FR.cell 0
  have g1 : W9.cell? ⟨w.heap.size + 1, 1, none⟩ = some (.int .i64 kd) := FR.cell 1
  have g2 : W9.cell? ⟨w.heap.size + 1, 2, none⟩ = some (.int .i64 ar) := FR.cell 2
  have g3 : W9.cell? ⟨w.heap.size + 1, 3, none⟩ = some (.bool pa) := FR.cell 3
  exact bodyPost_ret (v := .agg #[.string ⟨n.toArray⟩, .int .i64 kd, .int .i64 ar, .bool pa]) (by simp [results, Tryd.results66, go_sem, g0, g1, g2, g3]) rfl ⟨rfl, B9⟩

theorem noVb_of {u : List UInt8} (h : (has u).2 = false) : (has u).1 = noVb := by
  unfold has hasIn at h ⊢
  cases hf : verbs.find? (fun v => v.name == u) with
  | none => rfl
  | some v => rw [hf] at h; cases h

set_option maxHeartbeats 4000000 in
set_option maxRecDepth 100000 in
theorem find_by (upper_any : ∀ (s : List UInt8) (_ : s.length ≤ 100000) (w : World), Calls Tryd.prog 64 #[.string ⟨s.toArray⟩] w fun e w' => e = .returned (.string ⟨(upper s).toArray⟩) ∧ Below w.heap.size w w')
    (s : List UInt8) (hl : s.length ≤ 100000) (w : World) : Calls Tryd.prog 60 #[.string ⟨s.toArray⟩] w fun e w' => e = .returned (.tuple #[verbV (found s).1, .bool (found s).2]) ∧ Below w.heap.size w w' := by
  have hul : (upper s).length ≤ maxLen := by rw [upper_length]; unfold maxLen; omega
  have HF : found s = has (upper s) := rfl
  have HF := Lib.hid HF
  have hU := upper_any s hl
  clear upper_any
  generalize upper s = u at *
  have R0 : IsRow (w.alloc (.cells #[.string ⟨#[]⟩, .int .i64 0, .int .i64 0, .bool false] 89)) w.heap.size 89 #[.string ⟨#[]⟩, .int .i64 0, .int .i64 0, .bool false] := IsRow.made w _ _
  have b0 : Below w.heap.size w (w.alloc (.cells #[.string ⟨#[]⟩, .int .i64 0, .int .i64 0, .bool false] 89)) := (Below.refl _ w).alloc (Nat.le_refl _) _
  cases hf : (has u).2 with
  | false =>
    have hn := noVb_of hf
    have HN := Lib.hid hn
    have Hf := Lib.hid hf
    clear hn hf
    go_enter Tryd.func60, Tryd.ntmps60
    go_wp2_with (first
      | (go_at_call 64; refine (hU _).mono ?_; rintro e w1 ⟨rfl, b1⟩)
      | (go_at_call 65; refine (table_any _).mono ?_; rintro e w2 ⟨rfl, T, b2⟩; have hk := (T.look u hul).1; rw [Hf.out, HN.out] at hk; have R2 := (R0.call b1).call b2; have f0 := R2.free 0; have f1 := R2.free 1; have f2 := R2.free 2; have f3 := R2.free 3; have c0 := R2.cell 0; have c1 := R2.cell 1; have c2 := R2.cell 2; have c3 := R2.cell 3; have hlt := R2.lt; have B2 := ((b0.trans (b1.mono b0.size)).trans (b2.mono (Nat.le_trans b0.size b1.size)))))
    generalize hW : World.alloc (World.setCell _ _ _) _ = W9
    have FR : IsRow W9 w.heap.size 89 #[.string ⟨#[]⟩, .int .i64 0, .int .i64 0, .bool false] := by rw [← hW]; exact ((((R2.set 0 _).set 1 _).set 2 _).set 3 _).alloc _
    have B9 : Below w.heap.size w W9 := by rw [← hW]; exact ((((B2.setCell (Nat.le_refl _) _).setCell (Nat.le_refl _) _).setCell (Nat.le_refl _) _).setCell (Nat.le_refl _) _).alloc (by simp; omega) _
    have g0 : W9.cell? ⟨w.heap.size, 0, none⟩ = some (.string ⟨#[]⟩) := FR.cell 0
    have g1 : W9.cell? ⟨w.heap.size, 1, none⟩ = some (.int .i64 0) := FR.cell 1
    have g2 : W9.cell? ⟨w.heap.size, 2, none⟩ = some (.int .i64 0) := FR.cell 2
    have g3 : W9.cell? ⟨w.heap.size, 3, none⟩ = some (.bool false) := FR.cell 3
    exact bodyPost_ret (v := .tuple #[.agg #[.string ⟨#[]⟩, .int .i64 0, .int .i64 0, .bool false], .bool false]) (by simp [results, Tryd.results60, go_sem, g0, g1, g2, g3]) rfl ⟨by rw [HF.out, HN.out, Hf.out]; rfl, B9⟩
  | true =>
    have hn : (⟨u, (has u).1.kind, (has u).1.arg, (has u).1.path⟩ : Vb) = (has u).1 := by
      have := has_name hf
      cases hx : (has u).1 with
      | mk a b c d => rw [hx] at this; simp only at this ⊢; rw [this]
    have HN := Lib.hid hn
    have Hf := Lib.hid hf
    clear hn hf
    go_enter Tryd.func60, Tryd.ntmps60
    go_wp2_with (first
      | (go_at_call 64; refine (hU _).mono ?_; rintro e w1 ⟨rfl, b1⟩)
      | (go_at_call 65; refine (table_any _).mono ?_; rintro e w2 ⟨rfl, T, b2⟩; have hk := (T.look u hul).1; rw [Hf.out] at hk; have R2 := (R0.call b1).call b2; have hlt := R2.lt; have B2 := ((b0.trans (b1.mono b0.size)).trans (b2.mono (Nat.le_trans b0.size b1.size))))
      | (go_at_call 66; refine (named_any u (has u).1 _).mono ?_; rintro e w3 ⟨rfl, b3⟩; have R3 := (R2.alloc (.cells #[.string ⟨#[]⟩, .int .i64 (has u).1.kind, .int .i64 (has u).1.arg, .bool (has u).1.path] 89)).call b3; have f0 := R3.free 0; have f1 := R3.free 1; have f2 := R3.free 2; have f3 := R3.free 3; have c0 := R3.cell 0; have c1 := R3.cell 1; have c2 := R3.cell 2; have c3 := R3.cell 3; have B3 := (B2.alloc B2.size (.cells #[.string ⟨#[]⟩, .int .i64 (has u).1.kind, .int .i64 (has u).1.arg, .bool (has u).1.path] 89)).trans (b3.mono (by have := B2.size; simp; omega))))
    generalize hW : World.setCell _ _ _ = W9
    have FR : IsRow W9 w.heap.size 89 #[.string ⟨u.toArray⟩, .int .i64 (has u).1.kind, .int .i64 (has u).1.arg, .bool (has u).1.path] := by rw [← hW]; exact (((R3.set 0 _).set 1 _).set 2 _).set 3 _
    have B9 : Below w.heap.size w W9 := by rw [← hW]; exact (((B3.setCell (Nat.le_refl _) _).setCell (Nat.le_refl _) _).setCell (Nat.le_refl _) _).setCell (Nat.le_refl _) _
    have g0 : W9.cell? ⟨w.heap.size, 0, none⟩ = some (.string ⟨u.toArray⟩) := FR.cell 0
    have g1 : W9.cell? ⟨w.heap.size, 1, none⟩ = some (.int .i64 (has u).1.kind) := FR.cell 1
    have g2 : W9.cell? ⟨w.heap.size, 2, none⟩ = some (.int .i64 (has u).1.arg) := FR.cell 2
    have g3 : W9.cell? ⟨w.heap.size, 3, none⟩ = some (.bool (has u).1.path) := FR.cell 3
    exact bodyPost_ret (v := .tuple #[.agg #[.string ⟨u.toArray⟩, .int .i64 (has u).1.kind, .int .i64 (has u).1.arg, .bool (has u).1.path], .bool true]) (by simp [results, Tryd.results60, go_sem, g0, g1, g2, g3]) rfl ⟨by rw [HF.out, Hf.out, ← HN.out], B9⟩

#print axioms find_by
end Go.Proofs.YtmodmfkcigibpaaDoor.Vb
