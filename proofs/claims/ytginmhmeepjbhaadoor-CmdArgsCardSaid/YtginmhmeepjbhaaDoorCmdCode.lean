/- The contracts of package cmd, last: Read. -/
import Derived.Test.YtginmhmeepjbhaaDoorCmdLine
namespace Go.Proofs.YtginmhmeepjbhaaDoor.Cm
open Go.Proofs.YtginmhmeepjbhaaDoor Go.Proofs.YtginmhmeepjbhaaDoor.Vb
open Go.ChangeShapes Go.WideShapes Go.ChangeAt Go.RowKit
set_option maxRecDepth 100000
set_option linter.unusedSimpArgs false

set_option maxHeartbeats 4000000 in
theorem read_any (s : List UInt8) (hl : s.length ≤ 100000) (w : World) (E : Env w) : Calls Tryd.prog 13 #[.string ⟨s.toArray⟩] w fun e w' => e = .returned (.tuple #[cmdV (read s).1.1 (read s).1.2, .int .i64 (read s).2]) ∧ Below w.heap.size w w' := by
  have HL := Lib.hid (fun W EW => line_any s hl W EW)
  have HER := Lib.hid (fun h => read_err (s := s) h)
  generalize read s = R at HL HER ⊢
  obtain ⟨⟨rv, ra⟩, rn⟩ := R
  simp only
  have b0 : Below w.heap.size w (w.alloc (.cells #[.string ⟨#[]⟩, .string ⟨#[]⟩] 23)) := (Below.refl _ w).alloc (Nat.le_refl _) _
  have E0 := E.below b0
  have R0 : IsRow (w.alloc (.cells #[.string ⟨#[]⟩, .string ⟨#[]⟩] 23)) w.heap.size 23 #[.string ⟨#[]⟩, .string ⟨#[]⟩] := IsRow.made w _ _
  by_cases hn : rn = 0
  · subst hn
    have H0 : Hid (∀ W, Env W → Calls Tryd.prog 22 #[.string ⟨s.toArray⟩] W fun e w' => e = .returned (.tuple #[cmdV rv ra, .nilIface]) ∧ Below W.heap.size W w') := Lib.hid (fun W EW => (HL.out W EW).mono (by
      rintro e w' ⟨h, hb⟩
      rcases h with ⟨_, h⟩ | ⟨_, h, _⟩
      · exact ⟨h, hb⟩
      · exact absurd rfl h))
    clear HL HER
    go_enter Tryd.func13, Tryd.ntmps13
    go_wp2_with (first
      | (go_at_call 22; refine (H0.out _ E0).mono ?_; rintro e w1 ⟨rfl, b1⟩; have R1 := R0.call b1; have hlt := R1.lt; have B1 := Lib.hid (b0.trans (b1.mono b0.size)); have f0 := R1.free 0; have c0 := R1.cell 0; have f1 := R1.free 1; have c1 := R1.cell 1)
      | (go_at_call 23; refine (as_nil _ _).mono ?_; rintro e w2 ⟨rfl, rfl⟩))
    generalize hW : World.alloc (World.alloc (World.setCell _ _ _) _) _ = W9
    have FR : IsRow W9 w.heap.size 23 #[.string ⟨rv.toArray⟩, .string ⟨ra.toArray⟩] := by rw [← hW]; exact (((R1.set 0 _).set 1 _).alloc _).alloc _
    have B9 : Below w.heap.size w W9 := by rw [← hW]; exact (((B1.out.setCell (Nat.le_refl _) _).setCell (Nat.le_refl _) _).alloc (by have := B1.out.size; simp; omega) _).alloc (by have := B1.out.size; simp; omega) _
    have g0 : W9.cell? ⟨w.heap.size, 0, none⟩ = some (.string ⟨rv.toArray⟩) := FR.cell 0
    have g1 : W9.cell? ⟨w.heap.size, 1, none⟩ = some (.string ⟨ra.toArray⟩) := FR.cell 1
    exact bodyPost_ret (v := .tuple #[.agg #[.string ⟨rv.toArray⟩, .string ⟨ra.toArray⟩], .int .i64 0]) (by simp [results, Tryd.results13, go_sem, g0, g1]) rfl ⟨rfl, B9⟩
  · have H1 : Hid (∀ W, Env W → Calls Tryd.prog 22 #[.string ⟨s.toArray⟩] W fun e w' => (∃ p, e = .returned (.tuple #[cmdV [] [], faultV p rn])) ∧ Below W.heap.size W w') := Lib.hid (fun W EW => (HL.out W EW).mono (by
      rintro e w' ⟨h, hb⟩
      rcases h with ⟨h, _⟩ | ⟨_, _, h⟩
      · exact absurd h hn
      · exact ⟨h, hb⟩))
    have he := HER.out hn
    clear HL HER
    injection he with h2 h3
    subst h2
    subst h3
    go_enter Tryd.func13, Tryd.ntmps13
    go_wp2_with (first
      | (go_at_call 22; refine (H1.out _ E0).mono ?_; rintro e w1 ⟨⟨p, rfl⟩, b1⟩; have R1 := R0.call b1; have hlt := R1.lt; have B1 := Lib.hid (b0.trans (b1.mono b0.size)); have B2 := Lib.hid ((B1.out.alloc B1.out.size (.cells #[.string ⟨#[]⟩, .string ⟨#[]⟩] 23)).alloc (by have := B1.out.size; simp; omega) (.cells #[.string ⟨#[]⟩, .int .i64 0] 50)); have E2 := E.below B2.out)
      | (go_at_call 23; refine (as_hit (w1.heap.size + 1) p rn 50 (.string ⟨#[]⟩) (.int .i64 0) _ E2.et (by have h := IsRow.made (w1.alloc (.cells #[.string ⟨#[]⟩, .string ⟨#[]⟩] 23)) 50 #[.string ⟨#[]⟩, .int .i64 0]; rw [World.size_alloc] at h; exact h)).mono ?_; rintro e w2 ⟨rfl, hr, hb⟩; have R2 := ((R1.alloc (.cells #[.string ⟨#[]⟩, .string ⟨#[]⟩] 23)).alloc (.cells #[.string ⟨#[]⟩, .int .i64 0] 50)).below hb (by omega); have hlt2 := R2.lt; have hlt3 := hr.lt; have B3 := Lib.hid (B2.out.trans (hb.mono (by have := B1.out.size; omega))); clear hb; have f0 := R2.free 0; have c0 := R2.cell 0; have f1 := R2.free 1; have c1 := R2.cell 1; have d1 : w2.cell? ⟨w1.heap.size + 1, 1, none⟩ = some (.int .i64 rn) := hr.cell 1; have d2 : ((w2.setCell ⟨w.heap.size, 0, none⟩ (.string ⟨#[]⟩)).setCell ⟨w.heap.size, 1, none⟩ (.string ⟨#[]⟩)).cell? ⟨w1.heap.size + 1, 1, none⟩ = some (.int .i64 rn) := ((hr.other (a := ⟨w.heap.size, 0, none⟩) (by show w1.heap.size + 1 ≠ w.heap.size; omega) _).other (a := ⟨w.heap.size, 1, none⟩) (by show w1.heap.size + 1 ≠ w.heap.size; omega) _).cell 1))
    go_region
    all_goals (
      go_wp2_with fail
      generalize hW : World.drew (World.setCell _ _ _) = W9
      have FR : IsRow W9 w.heap.size 23 #[.string ⟨#[]⟩, .string ⟨#[]⟩] := by rw [← hW]; exact ((R2.set 0 _).set 1 _).drew
      have B9 : Below w.heap.size w W9 := by rw [← hW]; exact ((B3.out.setCell (Nat.le_refl _) _).setCell (Nat.le_refl _) _).drew
      have g0 : W9.cell? ⟨w.heap.size, 0, none⟩ = some (.string ⟨#[]⟩) := FR.cell 0
      have g1 : W9.cell? ⟨w.heap.size, 1, none⟩ = some (.string ⟨#[]⟩) := FR.cell 1
      exact bodyPost_ret (v := .tuple #[.agg #[.string ⟨#[]⟩, .string ⟨#[]⟩], .int .i64 rn]) (by simp [results, Tryd.results13, go_sem, g0, g1]) rfl ⟨rfl, B9⟩)

#print axioms read_any
end Go.Proofs.YtginmhmeepjbhaaDoor.Cm
