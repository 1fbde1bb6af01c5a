/- Two boxes, a gather's and a reply's, that a statement makes ahead of a call or behind it, and fills behind it: what is known of the world either way. -/
import Derived.Test.YtbojjbnmjhblfaaDoorTexts
import Derived.Test.YtbojjbnmjhblfaaDoorBlocks
namespace Go.Proofs.YtbojjbnmjhblfaaDoor
open Go Go.ChangeShapes Go.WideShapes Go.ChangeAt Go.RowKit
set_option maxRecDepth 100000

structure Two (w W : World) (b B H M : Nat) (a0 a1 a2 m0 m1 : Value) : Prop where
  row : IsRow W H 33 #[a0, a1, a2]
  mow : IsRow W M 24 #[m0, m1]
  hb : b ≤ H
  mb : b ≤ M
  below : ∀ n u, Below n u w → n ≤ b → Below n u W
  own : ∀ v l, OwnStrs B w v l → OwnStrs b W v l

variable {w : World} {b B H M : Nat} {z0 z1 z2 y0 y1 : Value} (a0 a1 a2 m0 m1 : Value)
theorem Two.hm (hb : b ≤ w.heap.size) (hB : b ≤ B) : Two w ((w.alloc (.cells #[a0, a1, a2] 33)).alloc (.cells #[m0, m1] 24)) b B w.heap.size (w.heap.size + 1) a0 a1 a2 m0 m1 where
  row := (IsRow.made w _ _).alloc _
  mow := by have h := IsRow.made (w.alloc (.cells #[a0, a1, a2] 33)) 24 #[m0, m1]; rw [World.size_alloc] at h; exact h
  hb := hb
  mb := by omega
  below := fun n u h hn => (h.alloc (by omega) _).alloc (by simp; omega) _
  own := fun v l h => ((h.mono hB).alloc _).alloc _
theorem Two.mh (hb : b ≤ w.heap.size) (hB : b ≤ B) : Two w ((w.alloc (.cells #[m0, m1] 24)).alloc (.cells #[a0, a1, a2] 33)) b B (w.heap.size + 1) w.heap.size a0 a1 a2 m0 m1 where
  row := by have h := IsRow.made (w.alloc (.cells #[m0, m1] 24)) 33 #[a0, a1, a2]; rw [World.size_alloc] at h; exact h
  mow := (IsRow.made w _ _).alloc _
  hb := by omega
  mb := hb
  below := fun n u h hn => (h.alloc (by omega) _).alloc (by simp; omega) _
  own := fun v l h => ((h.mono hB).alloc _).alloc _
theorem Two.sn (hb : b ≤ H) (hB : b ≤ B) (hH : H < B) (zh : IsRow w H 33 #[z0, z1, z2]) :
    Two w ((((w.setCell ⟨H, 0, none⟩ a0).setCell ⟨H, 1, none⟩ a1).setCell ⟨H, 2, none⟩ a2).alloc (.cells #[m0, m1] 24)) b B H w.heap.size a0 a1 a2 m0 m1 where
  row := (((zh.set 0 a0).set 1 a1).set 2 a2).alloc _
  mow := by have h := IsRow.made (((w.setCell ⟨H, 0, none⟩ a0).setCell ⟨H, 1, none⟩ a1).setCell ⟨H, 2, none⟩ a2) 24 #[m0, m1]; have e : (((w.setCell ⟨H, 0, none⟩ a0).setCell ⟨H, 1, none⟩ a1).setCell ⟨H, 2, none⟩ a2).heap.size = w.heap.size := (by simp); rw [e] at h; exact h
  hb := hb
  mb := by have := zh.lt; omega
  below := fun n u h hn => (((h.setCell (by show n ≤ H; omega) _).setCell (by show n ≤ H; omega) _).setCell (by show n ≤ H; omega) _).alloc (by have := zh.lt; simp; omega) _
  own := fun v l h => ((((h.set (p := ⟨H, 0, none⟩) hH a0).set (p := ⟨H, 1, none⟩) hH a1).set (p := ⟨H, 2, none⟩) hH a2).mono hB).alloc _
theorem Two.ss (hb : b ≤ H) (mb : b ≤ M) (hB : b ≤ B) (hH : H < B) (hM : M < B) (hne : H ≠ M) (zh : IsRow w H 33 #[z0, z1, z2]) (zm : IsRow w M 24 #[y0, y1]) :
    Two w (((((w.setCell ⟨H, 0, none⟩ a0).setCell ⟨H, 1, none⟩ a1).setCell ⟨H, 2, none⟩ a2).setCell ⟨M, 0, none⟩ m0).setCell ⟨M, 1, none⟩ m1) b B H M a0 a1 a2 m0 m1 where
  row := ((((zh.set 0 a0).set 1 a1).set 2 a2).other (a := ⟨M, 0, none⟩) hne m0).other (a := ⟨M, 1, none⟩) hne m1
  mow := ((((zm.other (a := ⟨H, 0, none⟩) (Ne.symm hne) a0).other (a := ⟨H, 1, none⟩) (Ne.symm hne) a1).other (a := ⟨H, 2, none⟩) (Ne.symm hne) a2).set 0 m0).set 1 m1
  hb := hb
  mb := mb
  below := fun n u h hn => ((((h.setCell (by show n ≤ H; omega) _).setCell (by show n ≤ H; omega) _).setCell (by show n ≤ H; omega) _).setCell (by show n ≤ M; omega) _).setCell (by show n ≤ M; omega) _
  own := fun v l h => (((((h.set (p := ⟨H, 0, none⟩) hH a0).set (p := ⟨H, 1, none⟩) hH a1).set (p := ⟨H, 2, none⟩) hH a2).set (p := ⟨M, 0, none⟩) hM m0).set (p := ⟨M, 1, none⟩) hM m1).mono hB
theorem Two.ns (mb : b ≤ M) (hB : b ≤ B) (hM : M < B) (zm : IsRow w M 24 #[y0, y1]) :
    Two w (((w.setCell ⟨M, 0, none⟩ m0).setCell ⟨M, 1, none⟩ m1).alloc (.cells #[a0, a1, a2] 33)) b B w.heap.size M a0 a1 a2 m0 m1 where
  row := by have h := IsRow.made ((w.setCell ⟨M, 0, none⟩ m0).setCell ⟨M, 1, none⟩ m1) 33 #[a0, a1, a2]; have e : ((w.setCell ⟨M, 0, none⟩ m0).setCell ⟨M, 1, none⟩ m1).heap.size = w.heap.size := (by simp); rw [e] at h; exact h
  mow := ((zm.set 0 m0).set 1 m1).alloc _
  hb := by have := zm.lt; omega
  mb := mb
  below := fun n u h hn => ((h.setCell (by show n ≤ M; omega) _).setCell (by show n ≤ M; omega) _).alloc (by have := zm.lt; simp; omega) _
  own := fun v l h => (((h.set (p := ⟨M, 0, none⟩) hM m0).set (p := ⟨M, 1, none⟩) hM m1).mono hB).alloc _

#print axioms Two.ss
end Go.Proofs.YtbojjbnmjhblfaaDoor
