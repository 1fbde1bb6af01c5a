/- Lists of texts as package path hands them about: one that Split made (its room is full), one that a part was cut off of by three indices, one of one's own; and what append makes of each. -/
import Derived.Test.YtmodmfkcigibpaaDoorPlains
import Derived.Test.YtmodmfkcigibpaaDoorTexts
import Derived.Test.YtmodmfkcigibpaaDoorMem
import Derived.Test.YtmodmfkcigibpaaDoorOwnTexts
import Derived.Laws.OwnMore
import Derived.WalkKit
namespace Go.Proofs.YtmodmfkcigibpaaDoor.Pt
open Go.Proofs.YtmodmfkcigibpaaDoor
open Go Go.ChangeShapes Go.WideShapes Go.ChangeAt Go.RowKit
set_option maxRecDepth 100000

theorem own_call' {w w' : World} {base : Nat} {t : TypeId} {size : Nat} {v : Value} {n : Nat} {xs : List Value} (h : w.ownsRow base t size v n xs) (hb : Below w.heap.size w w') : w'.ownsRow base t size v n xs := by
  refine ⟨h.1, ?_⟩
  rcases h.2 with h0 | ⟨g, cap, cur, h1, h2, h3, h4⟩
  · exact Or.inl h0
  · exact Or.inr ⟨g, cap, cur, h1, h2, by rw [hb.block g (lt_of_block h3)]; exact h3, h4⟩

/-- a list that was made whole, from base on, its room full; or none -/
def Made (base : Nat) (w : World) (v : Value) (L : Ps) : Prop :=
  (v = .slice none 0 0 ∧ L = []) ∨ ∃ g, v = .slice (some ⟨g, 0, none⟩) L.length L.length ∧ L.length ≤ maxLen ∧ base ≤ g ∧ g < w.heap.size ∧ ∀ i (h : i < L.length), w.cell? ⟨g, i, none⟩ = some (.string ⟨L[i].toArray⟩)
theorem Made.own {base : Nat} {w : World} {v : Value} {L : Ps} (h : Made base w v L) : OwnStrs base w v L := by
  rcases h with h | ⟨g, h1, h2, h3, h4, h5⟩
  · exact Or.inl h
  · exact Or.inr ⟨g, _, ⟨h1, h2⟩, h3, h4, h5⟩
theorem Made.call {base : Nat} {w w' : World} {v : Value} {L : Ps} (h : Made base w v L) (hb : Below w.heap.size w w') : Made base w' v L := by
  rcases h with h | ⟨g, h1, h2, h3, h4, h5⟩
  · exact Or.inl h
  · exact Or.inr ⟨g, h1, h2, h3, Nat.lt_of_lt_of_le h4 hb.size, fun i hi => by rw [hb.cell (p := ⟨g, i, none⟩) h4]; exact h5 i hi⟩
theorem Made.form {base : Nat} {w : World} {v : Value} {L : Ps} (h : Made base w v L) : ∃ p n c, v = .slice p n c ∧ n = L.length := by
  rcases h with ⟨h, h'⟩ | ⟨g, h1, _⟩
  · exact ⟨none, 0, 0, h, by rw [h']; rfl⟩
  · exact ⟨_, _, _, h1, rfl⟩

/-- the list of a trail: one of one's own from K on, or one whose room is full, in a block that isn't B -/
def Strand (B K : Nat) (w : World) (v : Value) (L : Ps) : Prop :=
  w.ownsRow K 9 1 v L.length (L.map strV) ∨ ∃ g, v = .slice (some ⟨g, 0, none⟩) L.length L.length ∧ g ≠ B ∧ g < w.heap.size ∧ L.length ≤ maxLen ∧ ∀ i (h : i < L.length), w.cell? ⟨g, i, none⟩ = some (.string ⟨L[i].toArray⟩)
theorem Made.strand {base B K : Nat} {w : World} {v : Value} {L : Ps} (h : Made base w v L) (hB : ∀ g, base ≤ g → g < w.heap.size → g ≠ B) : Strand B K w v L := by
  rcases h with ⟨rfl, rfl⟩ | ⟨g, h1, h2, h3, h4, h5⟩
  · exact Or.inl (World.ownsRow_nil _ _ _ _)
  · exact Or.inr ⟨g, h1, hB g h3 h4, h4, h2, h5⟩
theorem Strand.call {B K : Nat} {w w' : World} {v : Value} {L : Ps} (h : Strand B K w v L) (hb : Below w.heap.size w w') : Strand B K w' v L := by
  rcases h with h | ⟨g, h1, h2, h3, h4, h5⟩
  · exact Or.inl (own_call' h hb)
  · exact Or.inr ⟨g, h1, h2, Nat.lt_of_lt_of_le h3 hb.size, h4, fun i hi => by rw [hb.cell (p := ⟨g, i, none⟩) h3]; exact h5 i hi⟩
theorem Strand.alloc {B K : Nat} {w : World} {v : Value} {L : Ps} (h : Strand B K w v L) (o : Obj) : Strand B K (w.alloc o) v L := h.call ((Below.refl _ _).alloc (Nat.le_refl _) o)
/-- a store into B, or into a block made since -/
theorem Strand.set {B K : Nat} {w : World} {v : Value} {L : Ps} (h : Strand B K w v L) (hK : B < K) {a : Addr} (ha : a.block = B) (u : Value) : Strand B K (w.setCell a u) v L := by
  rcases h with h | ⟨g, h1, h2, h3, h4, h5⟩
  · exact Or.inl (own_other h (by omega) u)
  · refine Or.inr ⟨g, h1, h2, by simpa [World.setCell] using h3, h4, fun i hi => ?_⟩
    rw [World.cell?_of_block (w := w) (a := ⟨g, i, none⟩) (Below.heap_setCell w a u g (by omega))]
    exact h5 i hi
theorem Strand.form {B K : Nat} {w : World} {v : Value} {L : Ps} (h : Strand B K w v L) : ∃ p n c, v = .slice p n c ∧ n = L.length := by
  rcases h with h | ⟨g, h1, _⟩
  · obtain ⟨p, c, e⟩ := own_form h
    exact ⟨p, _, c, e, rfl⟩
  · exact ⟨_, _, _, h1, rfl⟩
/-- where it lies, if it has texts -/
theorem Strand.lies {B K : Nat} {w : World} {p : Option Addr} {n c : Nat} {L : Ps} (h : Strand B K w (.slice p n c) L) (hne : 0 < L.length) :
    ∃ g, p = some ⟨g, 0, none⟩ ∧ g < w.heap.size ∧ L.length ≤ c ∧ ∀ i (h : i < L.length), w.cell? ⟨g, i, none⟩ = some (.string ⟨L[i].toArray⟩) := by
  rcases h with h | ⟨g, h1, h2, h3, h4, h5⟩
  · rcases h.2 with ⟨_, h0⟩ | ⟨g, cap, cur, e, h1, h2, h3, h4, _⟩
    · omega
    · injection e with e1 e2 e3
      subst e1; subst e2; subst e3
      refine ⟨g, rfl, lt_of_block h2, h3, fun i hi => ?_⟩
      rw [World.ownsRow.cellAt (g := g) (cap := c) h i (by omega)]
      simp [hi]
  · injection h1 with e1 e2 e3
    exact ⟨g, e1, h3, by omega, h5⟩
/-- its last part cut off by three indices: the room goes, too -/
theorem Strand.cut {B K : Nat} (hK : B < K) {w : World} {p : Option Addr} {n c : Nat} {L : Ps} (h : Strand B K w (.slice p n c) L) (k : Nat) (hk : k + 1 = L.length) :
    ∃ g, p = some ⟨g, 0, none⟩ ∧ n = k + 1 ∧ k ≤ c ∧ Strand B K w (.slice (some ⟨g, 0, none⟩) k k) L.dropLast := by
  have hd : L.dropLast.length = k := by rw [List.length_dropLast]; omega
  have hget : ∀ i (h : i < L.dropLast.length), L.dropLast[i] = L[i]'(by omega) := fun i h => List.getElem_dropLast ..
  rcases h with h | ⟨g, h1, h2, h3, h4, h5⟩
  · rcases h.2 with ⟨_, h0⟩ | ⟨g, cap, cur, e, h1, h2, h3, h4, _⟩
    · omega
    · injection e with e1 e2 e3
      subst e1; subst e2; subst e3
      refine ⟨g, rfl, by omega, by omega, Or.inr ⟨g, by rw [hd], by omega, lt_of_block h2, by omega, fun i hi => ?_⟩⟩
      rw [hget i hi, World.ownsRow.cellAt (g := g) (cap := c) h i (by omega)]
      simp [show i < L.length by omega]
  · injection h1 with e1 e2 e3
    refine ⟨g, e1, by omega, by omega, Or.inr ⟨g, by rw [hd], h2, h3, by omega, fun i hi => ?_⟩⟩
    rw [hget i hi]
    exact h5 i (by omega)

theorem Strand.lt {B K : Nat} {w : World} {v : Value} {L : Ps} (h : Strand B K w v L) : ∀ g, v.ownBlock = some g → g < w.heap.size := by
  intro g hg
  rcases h with h | ⟨g', rfl, h2, h3, _⟩
  · exact (h.lt g hg).2
  · simp only [Value.ownBlock, Option.some.injEq] at hg
    omega
/-- a store into another block -/
theorem Strand.apart {B K : Nat} {w : World} {v : Value} {L : Ps} (h : Strand B K w v L) {a : Addr} (ha : ∀ g, v.ownBlock = some g → g ≠ a.block) (u : Value) : Strand B K (w.setCell a u) v L := by
  rcases h with h | ⟨g, rfl, h2, h3, h4, h5⟩
  · left
    refine ⟨h.1, ?_⟩
    rcases h.2 with h0 | ⟨g, cap, cur, rfl, h1, h2, h3⟩
    · exact Or.inl h0
    · exact Or.inr ⟨g, cap, cur, rfl, h1, by rw [Below.heap_setCell _ _ _ _ (ha g rfl)]; exact h2, h3⟩
  · refine Or.inr ⟨g, rfl, h2, by simpa [World.setCell] using h3, h4, fun i hi => ?_⟩
    rw [World.cell?_of_block (w := w) (a := ⟨g, i, none⟩) (Below.heap_setCell w a u g (ha g rfl))]
    exact h5 i hi

/-- what an append leaves of the blocks that were there, and where the new list lies -/
structure Grew (B K : Nat) (w : World) (v : Value) (w' : World) (v' : Value) (L : Ps) : Prop where
  strand : Strand B K w' v' L
  below : Below K w w'
  kept : ∀ b, b < w.heap.size → (∀ g, v.ownBlock = some g → g ≠ b) → w'.heap[b]? = w.heap[b]?
  lies : ∀ g, v'.ownBlock = some g → v.ownBlock = some g ∨ w.heap.size ≤ g
  size : w.heap.size ≤ w'.heap.size
/-- append to a trail's list: in place where it is one's own and has room, else in a new block -/
theorem run_append_strand {B K : Nat} {w : World} {v : Value} {L : Ps} (h : Strand B K w v L) (a : Addr) (c : Nat) (x : List UInt8) (hx : w.cell? a = some (.string ⟨x.toArray⟩)) (hn : L.length ≤ 1000000) (hK : K ≤ w.heap.size) (ty : TypeId) :
    ∃ p n k w', (Builtin.append_ #[98, 98] ty #[v, .slice (some a) 1 c]).run Tryd.prog w = .ok (.slice p n k) w' ∧ n = (L ++ [x]).length ∧ Grew B K w v w' (.slice p n k) (L ++ [x]) := by
  obtain ⟨i0, hi, hz0, hz1, hz2⟩ := info_parts info_string
  have hnews : ∀ j u, ([strV x] : List Value)[j]? = some u → w.cell? (a.add j) = some u := by
    intro j u hj
    obtain rfl : j = 0 := by have := (List.getElem?_eq_some_iff.1 hj).1; simpa using this
    have e : strV x = u := by simpa using hj
    rw [← e]; exact hx
  have hone : ∀ u ∈ ([strV x] : List Value), u.oneCell' = true := by intro u hu; rw [List.mem_singleton] at hu; subst hu; rfl
  have hll : (L ++ [x]).length = L.length + 1 := by simp
  rcases h with h | ⟨g, rfl, h2, h3, h4, h5⟩
  · obtain ⟨v', w', hr, k2, k3, k4⟩ := run_append_text h a c (strV x) hx rfl hn hK ty
    obtain ⟨p, k, rfl⟩ := own_form k2
    refine ⟨p, _, k, w', hr, hll.symm, Or.inl ?_, (Below.refl _ _).grown k3 hK (own_ge h), fun b hb hne => k3.block b hb (fun e => hne b e.symm rfl), ?_, k3.size⟩
    · rw [hll, List.map_append]; exact k2
    · intro g hg
      rcases k4 with e | ⟨g', e, hge⟩
      · left; rw [← e]; exact hg
      · right; rw [e] at hg; injection hg with e2; omega
  · have holds : ∀ j u, (L.map strV)[j]? = some u → w.cell? ((⟨g, 0, none⟩ : Addr).add j) = some u := by
      intro j u hj
      have hjl : j < L.length := by have := (List.getElem?_eq_some_iff.1 hj).1; simpa using this
      rw [add_off, h5 j hjl]
      rw [List.getElem?_map, List.getElem?_eq_getElem hjl, Option.map_some] at hj
      exact hj
    have hr := run_append_grow (P := Tryd.prog) w 98 ty 9 i0 (.string ByteArray.empty) Tryd.underlying98 hi hz0 ⟨g, 0, none⟩ L.length L.length (L.map strV) (by rw [hz1]; simp) holds a 1 c [strV x] (by rw [hz1]; rfl) hnews (by omega) (by omega) (growslice_fits (by omega) (by rw [hz2]; omega))
    have hge := grownCap_ge w (L.length + 1) L.length 9
    have hcm := grownCap_le_maxLen w (L.length + 1) L.length 9 (by unfold maxLen; omega)
    refine ⟨_, _, _, _, hr, hll.symm, Or.inl ?_, ((Below.refl K w).drew).alloc (by show K ≤ w.heap.size; exact hK) _, fun b hb _ => Below.heap_alloc w.drew _ b hb, ?_, by show w.heap.size ≤ (w.drew.heap.push _).size; rw [Array.size_push]; exact Nat.le_succ _⟩
    rotate_left
    · intro g' hg'
      right
      simp only [Value.ownBlock, Option.some.injEq] at hg'
      omega
    rw [hll]
    refine ⟨by simp, Or.inr ⟨w.heap.size, _, _, rfl, hK, heap_alloc_new w.drew _, hge, hcm, ?_, ?_⟩⟩
    · rw [Array.size_append, Array.size_append, size_zeroCells]; simp [Value.cells]; omega
    · rw [Array.toList_append, Array.toList_append, List.map_append]
      refine List.take_left' ?_
      simp

theorem wpList_append_strand {B K : Nat} {w : World} {ops : Array Oper} {rest : List Oper} {o : Oper} {a : Act} {Q : Exit → Act → World → Prop} (hgd : o.guard = none) (s x : Operand)
    (ho : o.op = .call { callee := .builtin .append, args := #[s, x], argTypes := #[98, 98] })
    (v : Value) (L : Ps) (hs : a.eval s = v) (hown : Strand B K w v L)
    (ad : Addr) (c : Nat) (y : List UInt8) (hx : a.eval x = .slice (some ad) 1 c) (hy : w.cell? ad = some (.string ⟨y.toArray⟩)) (hn : L.length ≤ 1000000) (hK : K ≤ w.heap.size)
    (h : ∀ p n k w', n = (L ++ [y]).length → Grew B K w v w' (.slice p n k) (L ++ [y]) → wpList Tryd.prog ops Q rest (a.put o.dst (.slice p n k)) w') : wpList Tryd.prog ops Q (o :: rest) a w := by
  refine wpList_plain hgd fun Z hZ => ?_
  obtain ⟨p, n, k, w', hr, h2, h3⟩ := run_append_strand hown ad c y hy hn hK o.type
  unfold Oper.wp execOp
  simp only [ho, resolve, invoke, builtin, Sem.run_bind, Sem.run_pure, Result.andThen_ok, List.map_toArray, List.map_cons, List.map_nil, hs, hx, hr]
  exact hZ _ _ (h p n k w' h2 h3)

#print axioms wpList_append_strand
end Go.Proofs.YtmodmfkcigibpaaDoor.Pt
