/- A link's box made, or filled: what was known stays; what a link carries, told by its parts. -/
import Derived.Test.YtfeiafjeidnmkaaDataAwake
import Derived.Test.YtfeiafjeidnmkaaDataMore
namespace Go.Proofs.Ytfeiafjeidnmkaa.Da
open Go.Proofs.Ytfeiafjeidnmkaa
open Go Go.ChangeShapes Go.WideShapes Go.ChangeAt Go.RowKit
set_option maxRecDepth 100000
set_option linter.unusedVariables false

/-- what stands behind all ways through a region, to be shown once -/
structure Way (P : Prop) : Prop where
  out : P
theorem via {P Q : Prop} (f : Way P → Q) (h : P) : Q := f ⟨h⟩
/-- W is w, but that the box B was made, or filled -/
structure BoxL (w W : World) (B : Nat) (v0 v1 v2 v3 : Value) : Prop where
  row : IsRow W B 24 #[v0, v1, v2, v3]
  past : ∀ b, b ≠ B → b < w.heap.size → W.heap[b]? = w.heap[b]?
  below : ∀ n u, Below n u w → n ≤ B → Below n u W
  old : B < w.heap.size → ∃ cs, IsRow w B 24 cs ∧ cs.size = 4 ∧ ∀ (i : Nat) (c : UInt8), cs[i]? ≠ some (byteV c)
theorem BoxL.new (w : World) (v0 v1 v2 v3 : Value) : BoxL w (w.alloc (.cells #[v0, v1, v2, v3] 24)) w.heap.size v0 v1 v2 v3 where
  row := IsRow.made _ _ _
  past := fun b _ hb => Below.heap_alloc w _ b hb
  below := fun n u h hn => h.alloc hn _
  old := fun h => absurd h (Nat.lt_irrefl _)
theorem no_bytes (a b c : Int) (p : Option Addr) (n k : Nat) (i : Nat) (d : UInt8) : (#[.int .i64 a, .int .i64 b, .int .i64 c, .slice p n k] : Array Value)[i]? ≠ some (byteV d) := by
  match i with
  | 0 => intro e; cases e
  | 1 => intro e; cases e
  | 2 => intro e; cases e
  | 3 => intro e; cases e
  | i + 4 => intro e; simp at e
theorem BoxL.fill {w : World} {B : Nat} {a b c : Int} {p : Option Addr} {n k : Nat} (v0 v1 v2 v3 : Value) (r : IsRow w B 24 #[.int .i64 a, .int .i64 b, .int .i64 c, .slice p n k]) :
    BoxL w (World.setCell (World.setCell (World.setCell (World.setCell w ⟨B, 0, none⟩ v0) ⟨B, 1, none⟩ v1) ⟨B, 2, none⟩ v2) ⟨B, 3, none⟩ v3) B v0 v1 v2 v3 where
  row := put4 r
  past := fun b hb _ => by rw [Below.heap_setCell _ _ _ _ hb, Below.heap_setCell _ _ _ _ hb, Below.heap_setCell _ _ _ _ hb, Below.heap_setCell _ _ _ _ hb]
  below := fun m u h hm => put4_below h hm
  old := fun _ => ⟨_, r, rfl, no_bytes a b c p n k⟩
section
variable {w W : World} {B : Nat} {v0 v1 v2 v3 : Value}
theorem BoxL.rows (X : BoxL w W B v0 v1 v2 v3) {b : Nat} {t : TypeId} {cs : Array Value} (h : IsRow w b t cs) (hne : b ≠ B) : IsRow W b t cs := by
  have hl := h.lt
  unfold IsRow at h ⊢
  rw [X.past b hne hl]
  exact h
theorem BoxL.own (X : BoxL w W B v0 v1 v2 v3) {base : Nat} {e : TypeId} {size : Nat} {v : Value} {n : Nat} {xs : List Value} (h : w.ownsRow base e size v n xs) (hne : (24 : TypeId) ≠ e) : W.ownsRow base e size v n xs := by
  refine ⟨h.1, ?_⟩
  rcases h.2 with ⟨rfl, hn⟩ | ⟨g, cap, cur, rfl, hg, hh, hr⟩
  · exact Or.inl ⟨rfl, hn⟩
  · have hgB : g ≠ B := by
      intro q
      subst q
      obtain ⟨cs, r, _, _⟩ := X.old (lt_of_block hh)
      have hh2 := hh
      unfold IsRow at r
      rw [r] at hh2
      injection hh2 with hh2
      injection hh2 with _ ht
      exact hne ht
    exact Or.inr ⟨g, cap, cur, rfl, hg, by rw [X.past g hgB (lt_of_block hh)]; exact hh, hr⟩
theorem BoxL.bytes (X : BoxL w W B v0 v1 v2 v3) {v : Value} {l : List UInt8} (h : BytesIs w v l) : BytesIs W v l := by
  rcases h with h | ⟨a, c, rfl, h1, h2, h3⟩
  · exact Or.inl h
  · refine Or.inr ⟨a, c, rfl, h1, h2, fun k hk => ?_⟩
    have hcell := h3 k hk
    have hlt := World.block_lt_of_cell? w _ hcell
    have hne : (a.add k).block ≠ B := by
      intro e
      obtain ⟨cs, r, _, hc⟩ := X.old (by rw [← e]; exact hlt)
      have hp : (a.add k) = ⟨B, (a.add k).off, none⟩ := by
        have := World.cell?_spot hcell
        rw [← e]
        generalize a.add k = a' at *
        cases a'
        simp_all
      rw [hp, r.cell] at hcell
      exact hc _ _ hcell
    rw [← hcell]
    exact World.cell?_of_block (X.past _ hne hlt)
theorem BoxL.cell (X : BoxL w W B v0 v1 v2 v3) {b o : Nat} {u : Value} (h : w.cell? ⟨b, o, none⟩ = some u) (hne : b ≠ B) : W.cell? ⟨b, o, none⟩ = some u :=
  (World.cell?_of_block (w := w) (a := ⟨b, o, none⟩) (X.past b hne (World.block_lt_of_cell? w _ h))).trans h
theorem BoxL.ne (X : BoxL w W B v0 v1 v2 v3) {b o : Nat} {u : Value} (h : w.cell? ⟨b, o + 7, none⟩ = some u) : b ≠ B := by
  intro e
  subst e
  obtain ⟨cs, r, hs, _⟩ := X.old (World.block_lt_of_cell? w _ h)
  rw [r.cell, Array.getElem?_eq_none (by omega)] at h
  cases h
end
theorem take_flat {W : List (List UInt8)} {k : Nat} (h : k < W.length) (se : List UInt8) : se ++ (W.take (k + 1)).flatten = (se ++ (W.take k).flatten) ++ W[k] := by
  have e : W.take (k + 1) = W.take k ++ [W[k]] := by rw [List.take_add_one, List.getElem?_eq_getElem h]; rfl
  rw [e, List.flatten_append, ← List.append_assoc]
  simp
theorem flat_len {W : List (List UInt8)} (h : ∀ b ∈ W, b.length ≤ 100) : W.flatten.length ≤ W.length * 100 := by
  induction W with
  | nil => simp
  | cons x l ih =>
    have h1 := h x (by simp)
    have h2 := ih (fun b hb => h b (by simp [hb]))
    simp only [List.flatten_cons, List.length_append, List.length_cons]
    omega
theorem there_told (zb : List UInt8) : ∃ os, carryL ⟨0, 5, 6, []⟩ 5 zb = (⟨0, 5, 6, []⟩, os, true) ∧ ((zb = [] ∧ os = []) ∨ os = [sendO 6 zb]) := by
  by_cases h : zb.length = 0
  · have e : zb = [] := List.length_eq_zero_iff.1 h
    exact ⟨[], by rw [e]; exact there_nil, Or.inl ⟨e, rfl⟩⟩
  · exact ⟨[sendO 6 zb], there_carry h, Or.inr rfl⟩
theorem asked_told {W : List (List UInt8)} {zb : List UInt8} (hm : mayL ⟨0, 5, -1, W⟩ = true) (hb : ∀ b ∈ W, b.length ≤ 100) (hz : zb.length ≤ 100) :
    ∃ yw cr, carryL ⟨0, 5, -1, W⟩ 5 zb = (⟨0, 5, -1, yw⟩, [], cr) ∧ ((cr = true ∧ mayL ⟨0, 5, -1, yw⟩ = true ∧ yw.flatten = W.flatten ++ zb ∧ ∀ b ∈ yw, b.length ≤ 100) ∨ (cr = false ∧ W.length = 4)) := by
  by_cases h : zb.length = 0
  · have e : zb = [] := List.length_eq_zero_iff.1 h
    exact ⟨W, true, by rw [e]; exact asked_nil hm, Or.inl ⟨rfl, hm, by rw [e, List.append_nil], hb⟩⟩
  · by_cases h4 : W.length = 4
    · exact ⟨W, false, asked_full hm h h4, Or.inr ⟨rfl, h4⟩⟩
    · exact ⟨W ++ [zb], true, asked_carry hm h h4, Or.inl ⟨rfl, asked_append hm h h4, by rw [List.flatten_append]; simp, fun b hb2 => (List.mem_append.1 hb2).elim (hb b) (fun q => by rw [List.mem_singleton] at q; subst q; exact hz)⟩⟩
#print axioms BoxL.bytes
#print axioms BoxL.own
end Go.Proofs.Ytfeiafjeidnmkaa.Da
