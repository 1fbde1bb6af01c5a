/- Lists of texts as the code hands them about: what a slice of strings holds; one that a call made itself. -/
import Derived.Test.YtdimfppijcebjaaGreatDoorStrs
import Derived.Below
import Derived.Laws.AppendOwn
import Derived.OwnWalk
namespace Go.Proofs.YtdimfppijcebjaaGreatDoor
open Go Go.ChangeShapes Go.WideShapes Go.ChangeAt Go.RowKit Go.Deep
set_option maxRecDepth 100000

/-- the slice v reads as the texts l -/
def TextsIs (w : World) (v : Value) (l : List (List UInt8)) : Prop :=
  (v = .slice none 0 0 ∧ l = []) ∨ ∃ a c, (v = .slice (some a) l.length c ∧ l.length ≤ maxLen) ∧ ∀ i (h : i < l.length), w.cell? (a.add i) = some (.string ⟨l[i].toArray⟩)
theorem StrsIs.texts {w : World} {v : Value} {l : List (List UInt8)} (h : StrsIs w v l) : TextsIs w v l := by
  rcases h with h | ⟨a, c, h1, h3, h4, h2⟩
  · exact Or.inl h
  · exact Or.inr ⟨a, c, ⟨h1, Nat.le_trans h3 h4⟩, h2⟩
theorem TextsIs.call {w w' : World} {v : Value} {l : List (List UInt8)} (h : TextsIs w v l) (hb : Below w.heap.size w w') : TextsIs w' v l := by
  rcases h with h | ⟨a, c, h1, h2⟩
  · exact Or.inl h
  · refine Or.inr ⟨a, c, h1, fun i hi => ?_⟩
    rw [hb.cell (World.block_lt_of_cell? w _ (h2 i hi))]; exact h2 i hi
theorem TextsIs.alloc {w : World} {v : Value} {l : List (List UInt8)} (h : TextsIs w v l) (o : Obj) : TextsIs (w.alloc o) v l := h.call ((Below.refl _ _).alloc (Nat.le_refl _) o)
theorem TextsIs.form {w : World} {v : Value} {l : List (List UInt8)} (h : TextsIs w v l) : ∃ p c, v = .slice p l.length c := by
  rcases h with ⟨rfl, rfl⟩ | ⟨a, c, ⟨rfl, _⟩, _⟩
  · exact ⟨none, 0, rfl⟩
  · exact ⟨some a, c, rfl⟩
theorem TextsIs.form3 {w : World} {v : Value} {l : List (List UInt8)} (h : TextsIs w v l) : ∃ p n c, v = .slice p n c ∧ n = l.length := by
  obtain ⟨p, c, e⟩ := h.form
  exact ⟨p, _, c, e, rfl⟩
/-- a list that has texts has an address, and they lie there -/
theorem TextsIs.some {w : World} {p : Option Addr} {n c : Nat} {l : List (List UInt8)} (h : TextsIs w (.slice p n c) l) (hne : 0 < l.length) :
    ∃ a, p = some a ∧ n = l.length ∧ a.block < w.heap.size ∧ ∀ i (h : i < l.length), w.cell? (a.add i) = some (.string ⟨l[i].toArray⟩) := by
  rcases h with ⟨_, h⟩ | ⟨a, c', ⟨e, _⟩, h3⟩
  · rw [h] at hne; exact absurd hne (by decide)
  · injection e with e1 e2 e3
    subst e1
    refine ⟨a, rfl, e2, ?_, h3⟩
    have := World.block_lt_of_cell? w _ (h3 0 hne)
    rwa [add_block] at this
theorem TextsIs.max {w : World} {v : Value} {l : List (List UInt8)} (h : TextsIs w v l) : l.length ≤ 9223372036854775807 := by
  rcases h with ⟨_, rfl⟩ | ⟨a, c, ⟨_, h⟩, _⟩
  · exact Nat.zero_le _
  · unfold maxLen at h; exact h
theorem TextsIs.nil (w : World) : TextsIs w (.slice none 0 0) [] := Or.inl ⟨rfl, rfl⟩

/-- a list of texts that lies in memory from base on, or is none -/
def OwnStrs (base : Nat) (w : World) (v : Value) (l : List (List UInt8)) : Prop :=
  (v = .slice none 0 0 ∧ l = []) ∨ ∃ b c, (v = .slice (some ⟨b, 0, none⟩) l.length c ∧ l.length ≤ maxLen) ∧ base ≤ b ∧ b < w.heap.size ∧ ∀ i (h : i < l.length), w.cell? ⟨b, i, none⟩ = some (.string ⟨l[i].toArray⟩)
theorem add_off (b i : Nat) : (⟨b, 0, none⟩ : Addr).add i = ⟨b, i, none⟩ := by unfold Addr.add; split <;> simp_all
theorem OwnStrs.texts {base : Nat} {w : World} {v : Value} {l : List (List UInt8)} (h : OwnStrs base w v l) : TextsIs w v l := by
  rcases h with h | ⟨b, c, h1, _, _, h2⟩
  · exact Or.inl h
  · exact Or.inr ⟨_, c, h1, fun i hi => by rw [add_off]; exact h2 i hi⟩
theorem OwnStrs.call {base : Nat} {w w' : World} {v : Value} {l : List (List UInt8)} (h : OwnStrs base w v l) (hb : Below w.heap.size w w') : OwnStrs base w' v l := by
  rcases h with h | ⟨b, c, h1, h2, h3, h4⟩
  · exact Or.inl h
  · exact Or.inr ⟨b, c, h1, h2, Nat.lt_of_lt_of_le h3 hb.size, fun i hi => by rw [hb.cell (p := ⟨b, i, none⟩) h3]; exact h4 i hi⟩
theorem OwnStrs.alloc {base : Nat} {w : World} {v : Value} {l : List (List UInt8)} (h : OwnStrs base w v l) (o : Obj) : OwnStrs base (w.alloc o) v l := h.call ((Below.refl _ _).alloc (Nat.le_refl _) o)
theorem OwnStrs.mono {base base' : Nat} {w : World} {v : Value} {l : List (List UInt8)} (h : OwnStrs base w v l) (hb : base' ≤ base) : OwnStrs base' w v l := by
  rcases h with h | ⟨b, c, h1, h2, h3, h4⟩
  · exact Or.inl h
  · exact Or.inr ⟨b, c, h1, Nat.le_trans hb h2, h3, h4⟩
theorem OwnStrs.some {base : Nat} {w : World} {p : Option Addr} {n c : Nat} {l : List (List UInt8)} (h : OwnStrs base w (.slice p n c) l) (hne : 0 < l.length) :
    ∃ b, p = some ⟨b, 0, none⟩ ∧ base ≤ b ∧ b < w.heap.size ∧ ∀ i (h : i < l.length), w.cell? ⟨b, i, none⟩ = some (.string ⟨l[i].toArray⟩) := by
  rcases h with ⟨_, h⟩ | ⟨b, c', ⟨e, _⟩, h1, h2, h3⟩
  · rw [h] at hne; exact absurd hne (by decide)
  · injection e with e1 e2 e3
    exact ⟨b, e1, h1, h2, h3⟩
/-- a store ahead of base leaves it -/
theorem OwnStrs.set {base : Nat} {w : World} {v : Value} {l : List (List UInt8)} (h : OwnStrs base w v l) {p : Addr} (hp : p.block < base) (u : Value) : OwnStrs base (w.setCell p u) v l := by
  rcases h with h | ⟨b, c, h1, h2, h3, h4⟩
  · exact Or.inl h
  · refine Or.inr ⟨b, c, h1, h2, by simpa [World.setCell] using h3, fun i hi => ?_⟩
    rw [World.cell?_of_block (w := w) (a := ⟨b, i, none⟩) (Below.heap_setCell w p u b (by omega))]
    exact h4 i hi
theorem OwnStrs.nil (base : Nat) (w : World) : OwnStrs base w (.slice none 0 0) [] := Or.inl ⟨rfl, rfl⟩
/-- what was appended to, one text a cell -/
theorem own_texts {base : Nat} {w : World} {t : TypeId} {v : Value} {l : List (List UInt8)} (h : w.ownsRow base t 1 v l.length (l.map fun s => Value.string ⟨s.toArray⟩)) : OwnStrs base w v l := by
  have h0 := h.2
  rcases h0 with ⟨rfl, h'⟩ | ⟨g, cap, cur, rfl, hg, hh, hn, hm, _⟩
  · have : l = [] := List.length_eq_zero_iff.1 h'
    subst this
    exact Or.inl ⟨rfl, rfl⟩
  · refine Or.inr ⟨g, cap, ⟨rfl, Nat.le_trans hn hm⟩, hg, lt_of_block hh, fun i hi => ?_⟩
    rw [h.cellAt i (by simpa using hi)]
    simp [hi]

abbrev strV (s : List UInt8) : Value := .string ⟨s.toArray⟩
theorem own_add {w : World} {base : Nat} {e : TypeId} {v : Value} {done : List (List UInt8)} {k : Nat} {x : List UInt8} (hk : done.length = k) (h : w.ownsRow base e 1 v (k + 1) (done.map strV ++ [.string ⟨x.toArray⟩])) :
    w.ownsRow base e 1 v (done ++ [x]).length ((done ++ [x]).map strV) := by
  subst hk
  simpa using h
theorem info_string : (Tryz.prog.info? 9).map (fun i => (i.zero, i.size, i.bytes)) = some (some (.string ByteArray.empty), 1, 16) := by kernel_rfl

#print axioms own_texts
end Go.Proofs.YtdimfppijcebjaaGreatDoor
