/- The law's Some of layer 13: a conf of two tenants that may be. -/
import Derived.Test.YtmodmfkcigibpaaDoorConfArg
import Derived.Test.YtmodmfkcigibpaaDoorEnvBare
import Derived.KernelRfl
namespace Go.Proofs.YtmodmfkcigibpaaDoor.Co
open Go.Proofs.YtmodmfkcigibpaaDoor Go.Proofs.YtmodmfkcigibpaaDoor.Ac
open Go Go.ChangeShapes Go.WideShapes Go.ChangeAt Go.RowKit
set_option maxRecDepth 100000
set_option linter.unusedSimpArgs false
set_option linter.unusedVariables false

theorem add_zero_at (b j : Nat) : (⟨b, 0, none⟩ : Addr).add j = ⟨b, j, none⟩ := by unfold Addr.add; split <;> simp_all
theorem rules_row {w : World} {b : Nat} {t : TypeId} {cs : Array Value} {l : List Rl} (h : IsRow w b t cs) (he : cs.toList = flatR l) (hm : l.length ≤ maxLen) : RulesIs w (.slice (some ⟨b, 0, none⟩) l.length l.length) l := by
  refine Or.inr ⟨_, _, rfl, Nat.le_refl _, hm, rules_flat (fun j u hj => ?_)⟩
  rw [add_zero_at, h.cell, ← hj, ← he]; simp
theorem tens_row {w : World} {b : Nat} {t : TypeId} {cs : Array Value} {l : List Tn} (h : IsRow w b t cs) (he : cs.toList = flatT l) (hm : l.length ≤ maxLen) (hr : RulesOf w l) : TensIs w (.slice (some ⟨b, 0, none⟩) l.length l.length) l := by
  refine ⟨hr, Or.inr ⟨_, _, rfl, Nat.le_refl _, hm, tens_flat (fun j u hj => ?_)⟩⟩
  rw [add_zero_at, h.cell, ← hj, ← he]; simp

def rulesA : List Rl := [⟨true, [], [47]⟩]
def rulesB : List Rl := [⟨false, [83, 84, 79, 82], [47, 112, 117, 98]⟩, ⟨true, [], [47]⟩]
def someL (ra rb : Value) : List Tn := [⟨[97], [102, 116, 112, 46, 97], 10, 1, 0, 1, 21, 2000, 2009, ra, rulesA, 2, 4, 1000, 500⟩, ⟨[98], [102, 116, 112, 46, 98], 10, 2, 0, 1, 21, 3000, 3009, rb, rulesB, 2, 4, 1000, 500⟩]
theorem some_few (ra rb : Value) : Few (someL ra rb) := few_iff.1 (show few (someL ra rb) = true by kernel_rfl)
theorem some_may (ra rb : Value) : mayC 4 10 100 (someL ra rb) = true := by kernel_rfl

set_option maxHeartbeats 4000000 in
theorem some_any (w : World) : Calls Tryd.prog 17 #[] w fun e w' => (∃ p n c ra rb, e = .returned (confV 10 0 0 9 (.slice p n c) 4 10 100 false) ∧ TensIs w' (.slice p n c) (someL ra rb)) ∧ Below w.heap.size w w' := by
  go_enter Tryd.func17, Tryd.ntmps17
  go_wp2_with fail
  obtain ⟨W1, hW1⟩ : ∃ W, W = w.alloc (.cells #[.int .u8 10, .int .u8 0, .int .u8 0, .int .u8 9, .slice (some ⟨w.heap.size + 1 + 1 + 1, 0, none⟩) 2 2, .int .i64 4, .int .i64 10, .int .i64 100, .bool false] 26) := ⟨_, rfl⟩
  have s1 : W1.heap.size = w.heap.size + 1 := by rw [hW1]; simp
  have r1 : IsRow W1 w.heap.size 26 #[.int .u8 10, .int .u8 0, .int .u8 0, .int .u8 9, .slice (some ⟨w.heap.size + 1 + 1 + 1, 0, none⟩) 2 2, .int .i64 4, .int .i64 10, .int .i64 100, .bool false] := by rw [hW1]; exact IsRow.made w _ _
  have b1 : Below w.heap.size w W1 := by rw [hW1]; exact (Below.refl _ _).alloc (Nat.le_refl _) _
  rw [← hW1]
  clear hW1
  generalize hW2 : W1.alloc _ = W2
  have s2 : W2.heap.size = w.heap.size + 1 + 1 := by rw [← hW2]; simp [s1]
  have r2 : IsRow W2 (w.heap.size + 1) 44 #[.bool true, .string ⟨#[]⟩, .string ⟨#[47]⟩] := by rw [← hW2, ← s1]; exact IsRow.made W1 _ _
  have r21 := by have h := r1.alloc (.cells #[.bool true, .string ⟨#[]⟩, .string ⟨#[47]⟩] 44); rw [hW2] at h; exact h
  have b2 : Below w.heap.size w W2 := by rw [← hW2]; exact b1.alloc b1.size _
  clear hW2
  generalize hW3 : W2.alloc _ = W3
  have s3 : W3.heap.size = w.heap.size + 1 + 1 + 1 := by rw [← hW3]; simp [s2]
  have r3 : IsRow W3 (w.heap.size + 1 + 1) 44 #[.bool false, .string ⟨#[83, 84, 79, 82]⟩, .string ⟨#[47, 112, 117, 98]⟩, .bool true, .string ⟨#[]⟩, .string ⟨#[47]⟩] := by rw [← hW3, ← s2]; exact IsRow.made W2 _ _
  have r31 := by have h := r21.alloc (.cells #[.bool false, .string ⟨#[83, 84, 79, 82]⟩, .string ⟨#[47, 112, 117, 98]⟩, .bool true, .string ⟨#[]⟩, .string ⟨#[47]⟩] 44); rw [hW3] at h; exact h
  have r32 := by have h := r2.alloc (.cells #[.bool false, .string ⟨#[83, 84, 79, 82]⟩, .string ⟨#[47, 112, 117, 98]⟩, .bool true, .string ⟨#[]⟩, .string ⟨#[47]⟩] 44); rw [hW3] at h; exact h
  have b3 : Below w.heap.size w W3 := by rw [← hW3]; exact b2.alloc b2.size _
  clear hW3
  generalize hO : Obj.cells _ _ _ = O
  generalize hW4 : W3.alloc O = W4
  have r4 : IsRow W4 (w.heap.size + 1 + 1 + 1) 40 (flatT (someL (.slice (some ⟨w.heap.size + 1, 0, none⟩) 1 1) (.slice (some ⟨w.heap.size + 1 + 1, 0, none⟩) 2 2))).toArray := by rw [← hW4, ← hO, ← s3]; exact IsRow.made W3 _ _
  have r41 := by have h := r31.alloc O; rw [hW4] at h; exact h
  have r42 := by have h := r32.alloc O; rw [hW4] at h; exact h
  have r43 := by have h := r3.alloc O; rw [hW4] at h; exact h
  have b4 : Below w.heap.size w W4 := by rw [← hW4]; exact b3.alloc b3.size _
  clear hW4 hO
  have h1 := rules_row (l := rulesA) r42 rfl (by decide)
  have h2 := rules_row (l := rulesB) r43 rfl (by decide)
  have h3 := tens_row (l := someL (.slice (some ⟨w.heap.size + 1, 0, none⟩) 1 1) (.slice (some ⟨w.heap.size + 1 + 1, 0, none⟩) 2 2)) r4 (by simp) (by show 2 ≤ maxLen; decide) (by
    intro t ht
    simp only [someL, List.mem_cons, List.mem_nil_iff, or_false] at ht
    rcases ht with rfl | rfl
    · exact h1
    · exact h2)
  have g0 := r41.cell 0; have g1 := r41.cell 1; have g2 := r41.cell 2; have g3 := r41.cell 3; have g4 := r41.cell 4; have g5 := r41.cell 5; have g6 := r41.cell 6; have g7 := r41.cell 7; have g8 := r41.cell 8
  simp only [List.getElem?_toArray, List.getElem?_cons_zero, List.getElem?_cons_succ] at g0 g1 g2 g3 g4 g5 g6 g7 g8
  exact bodyPost_ret (v := confV 10 0 0 9 (.slice (some ⟨w.heap.size + 1 + 1 + 1, 0, none⟩) 2 2) 4 10 100 false) (by simp [results, Tryd.results17, go_sem, g0, g1, g2, g3, g4, g5, g6, g7, g8]) rfl ⟨⟨_, _, _, _, _, rfl, h3⟩, b4⟩

#print axioms some_any
#print axioms some_may
end Go.Proofs.YtmodmfkcigibpaaDoor.Co
