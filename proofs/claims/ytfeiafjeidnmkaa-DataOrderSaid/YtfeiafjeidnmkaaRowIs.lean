/- Lists of anything of m cells in memory, said once for every type: what a slice of them reads as; pieces; rows of one's own; append. -/
import Derived.Test.YtfeiafjeidnmkaaMem
import Derived.Maps.AppendAt
import Derived.OwnWalk
import Derived.RegionTactic
import Derived.BigFrame
import Derived.Lib.Hide
import Derived.Below
import Derived.Deep.Slices
import Derived.ChangeSame
import Derived.Carry
namespace Go.Proofs.Ytfeiafjeidnmkaa
open Go Go.ChangeShapes Go.WideShapes Go.ChangeAt Go.RowKit
set_option maxRecDepth 100000
set_option linter.unusedVariables false

/-- how something lies in memory: its cells, and what holds besides in the world it lies in -/
structure Lay (α : Type) where
  m : Nat
  pos : 0 < m
  cs : α → List Value
  len : ∀ x, (cs x).length = m
  ok : World → α → Prop
  keep : ∀ (w w' : World) (x : α), ok w x → Below w.heap.size w w' → ok w' x
  one : ∀ (w : World) (x : α), ok w x → ∀ u ∈ cs x, u.oneCell' = true
variable {α : Type} {L : Lay α}

def flatL (L : Lay α) (l : List α) : List Value := l.flatMap L.cs
theorem flatL_append (l m : List α) : flatL L (l ++ m) = flatL L l ++ flatL L m := List.flatMap_append
theorem flatL_length : ∀ l : List α, (flatL L l).length = l.length * L.m
  | [] => by simp [flatL]
  | x :: l => by
    have := flatL_length l
    show (L.cs x ++ flatL L l).length = (l.length + 1) * L.m
    rw [List.length_append, this, L.len, Nat.add_mul, Nat.one_mul]; omega
theorem flatL_at : ∀ (l : List α) (i : Nat) (h : i < l.length) (j : Nat), j < L.m → (flatL L l)[i * L.m + j]? = (L.cs l[i])[j]?
  | x :: r, 0, _, j, hj => by
    unfold flatL
    rw [Nat.zero_mul, Nat.zero_add, List.flatMap_cons, List.getElem?_append_left (by rw [L.len]; exact hj)]
    rfl
  | x :: r, i + 1, h, j, hj => by
    have e : (i + 1) * L.m + j = L.m + (i * L.m + j) := by rw [Nat.add_mul, Nat.one_mul]; omega
    unfold flatL
    rw [e, List.flatMap_cons, List.getElem?_append_right (by rw [L.len]; omega), L.len, Nat.add_sub_cancel_left]
    exact flatL_at r i (by simpa using h) j hj
theorem flatL_one {w : World} {l : List α} (h : ∀ x ∈ l, L.ok w x) : ∀ u ∈ flatL L l, u.oneCell' = true := by
  intro u hu
  obtain ⟨x, hx, hr⟩ := List.mem_flatMap.1 hu
  exact L.one w x (h x hx) u hr

def AtIs (L : Lay α) (w : World) (a : Addr) (l : List α) : Prop := ∀ i (h : i < l.length), ∀ j, j < L.m → w.cell? (a.add (i * L.m + j)) = (L.cs l[i])[j]?
def RowIs (L : Lay α) (w : World) (v : Value) (l : List α) : Prop :=
  (∀ x ∈ l, L.ok w x) ∧ ((v = .slice none 0 0 ∧ l = []) ∨ ∃ a c, v = .slice (some a) l.length c ∧ l.length ≤ c ∧ c ≤ maxLen ∧ AtIs L w a l)
/-- one of them at a place -/
def OneAt (L : Lay α) (w : World) (b o : Nat) (x : α) : Prop := b < w.heap.size ∧ ∀ j, j < L.m → w.cell? ⟨b, o + j, none⟩ = (L.cs x)[j]?
theorem OneAt.call {w w' : World} {b o : Nat} {x : α} (h : OneAt L w b o x) (hb : Below w.heap.size w w') : OneAt L w' b o x :=
  ⟨Nat.lt_of_lt_of_le h.1 hb.size, fun j hj => by rw [hb.cell (p := ⟨b, o + j, none⟩) h.1]; exact h.2 j hj⟩
theorem AtIs.lt {w : World} {a : Addr} {l : List α} (h : AtIs L w a l) (hp : 0 < l.length) : a.block < w.heap.size := by
  have q := h 0 hp 0 L.pos
  rw [List.getElem?_eq_getElem (by rw [L.len]; exact L.pos)] at q
  have := World.block_lt_of_cell? w _ q
  rwa [add_block] at this
theorem AtIs.keep {w w' : World} {a : Addr} {l : List α} (h : AtIs L w a l) (hk : ∀ p : Addr, p.block < w.heap.size → w'.cell? p = w.cell? p) : AtIs L w' a l := by
  intro i hi j hj
  rw [hk _ (by rw [add_block]; exact h.lt (by omega))]
  exact h i hi j hj
theorem RowIs.nil (L : Lay α) (w : World) : RowIs L w (.slice none 0 0) [] := ⟨fun _ h => (by cases h), Or.inl ⟨rfl, rfl⟩⟩
theorem RowIs.call {w w' : World} {v : Value} {l : List α} (h : RowIs L w v l) (hb : Below w.heap.size w w') : RowIs L w' v l := by
  refine ⟨fun x hx => L.keep w w' x (h.1 x hx) hb, ?_⟩
  rcases h.2 with h | ⟨a, c, rfl, h1, h2, h3⟩
  · exact Or.inl h
  · exact Or.inr ⟨a, c, rfl, h1, h2, h3.keep fun p hp => hb.cell hp⟩
theorem RowIs.alloc {w : World} {v : Value} {l : List α} (h : RowIs L w v l) (o : Obj) : RowIs L (w.alloc o) v l := h.call ((Below.refl _ _).alloc (Nat.le_refl _) o)
theorem RowIs.drew {w : World} {v : Value} {l : List α} (h : RowIs L w v l) : RowIs L w.drew v l := h.call ((Below.refl _ _).drew)
theorem RowIs.form {w : World} {v : Value} {l : List α} (h : RowIs L w v l) : ∃ p n c, v = .slice p n c ∧ n = l.length := by
  rcases h.2 with ⟨rfl, rfl⟩ | ⟨a, c, rfl, _⟩
  · exact ⟨none, 0, 0, rfl, rfl⟩
  · exact ⟨some a, _, c, rfl, rfl⟩
theorem RowIs.len {w : World} {p : Option Addr} {n c : Nat} {l : List α} (h : RowIs L w (.slice p n c) l) : n = l.length := by
  obtain ⟨p', n', c', e, hn⟩ := h.form
  injection e with _ e2 _
  rw [e2, hn]
theorem RowIs.max {w : World} {v : Value} {l : List α} (h : RowIs L w v l) : l.length ≤ 9223372036854775807 := by
  rcases h.2 with ⟨_, rfl⟩ | ⟨a, c, _, h1, h2, _⟩
  · exact Nat.zero_le _
  · unfold maxLen at h2; omega
theorem RowIs.some {w : World} {p : Option Addr} {n c : Nat} {l : List α} (h : RowIs L w (.slice p n c) l) (hne : 0 < l.length) :
    ∃ b o, p = some ⟨b, o, none⟩ ∧ b < w.heap.size ∧ ∀ i (h : i < l.length), OneAt L w b (o + i * L.m) l[i] := by
  rcases h.2 with ⟨_, h⟩ | ⟨a, c', e, _, _, h3⟩
  · rw [h] at hne; exact absurd hne (Nat.lt_irrefl 0)
  · injection e with e1 e2 e3
    subst e1
    have hl := h3.lt hne
    have h0 := h3 0 hne 0 L.pos
    rw [List.getElem?_eq_getElem (by rw [L.len]; exact L.pos)] at h0
    have ha : a = ⟨a.block, a.off, none⟩ := by
      have := World.cell?_spot h0
      rw [Nat.zero_mul, Nat.zero_add, add_zero'] at this
      cases a
      simp_all
    refine ⟨a.block, a.off, by rw [← ha], hl, fun i hi => ⟨hl, fun j hj => ?_⟩⟩
    have e : ∀ k, a.add k = ⟨a.block, a.off + k, none⟩ := by
      intro k
      generalize hb : a.block = b at *
      generalize ho : a.off = o at *
      rw [ha]; unfold Addr.add; split <;> simp_all
    have := h3 i hi j hj
    rw [e, show a.off + (i * L.m + j) = a.off + i * L.m + j from by omega] at this
    exact this
theorem AtIs.flat {w : World} {a : Addr} {l : List α} (h : AtIs L w a l) : ∀ j u, (flatL L l)[j]? = some u → w.cell? (a.add j) = some u := by
  intro j u hj
  have hl : j < l.length * L.m := by rw [← flatL_length]; exact (List.getElem?_eq_some_iff.1 hj).1
  have hi : j / L.m < l.length := by rw [Nat.div_lt_iff_lt_mul L.pos]; exact hl
  have hm : j % L.m < L.m := Nat.mod_lt _ L.pos
  have e : j / L.m * L.m + j % L.m = j := by rw [Nat.mul_comm]; exact Nat.div_add_mod _ _
  have q := h (j / L.m) hi (j % L.m) hm
  have k := flatL_at (L := L) l _ hi _ hm
  rw [e] at q k
  rw [q, ← k, hj]
theorem at_flat {w : World} {a : Addr} {l : List α} (h : ∀ j u, (flatL L l)[j]? = some u → w.cell? (a.add j) = some u) : AtIs L w a l := by
  intro i hi j hj
  have hx : ∃ u, (L.cs l[i])[j]? = some u := ⟨_, List.getElem?_eq_getElem (by rw [L.len]; exact hj)⟩
  obtain ⟨u, hu⟩ := hx
  rw [hu]
  exact h _ _ (by rw [flatL_at (L := L) l i hi j hj]; exact hu)

/-! ### of one's own -/
def OwnRow (L : Lay α) (t : TypeId) (base : Nat) (w : World) (v : Value) (l : List α) : Prop := w.ownsRow base t L.m v l.length (flatL L l)
variable {t : TypeId}
theorem OwnRow.nil (base : Nat) (w : World) : OwnRow L t base w (.slice none 0 0) [] := World.ownsRow_nil _ _ _ _
theorem OwnRow.row {base : Nat} {w : World} {v : Value} {l : List α} (h : OwnRow L t base w v l) (hr : ∀ x ∈ l, L.ok w x) : RowIs L w v l := by
  refine ⟨hr, ?_⟩
  rcases h.2 with ⟨rfl, h'⟩ | ⟨g, cap, cur, rfl, hg, hh, hn, hm, _⟩
  · exact Or.inl ⟨rfl, List.length_eq_zero_iff.1 h'⟩
  · exact Or.inr ⟨⟨g, 0, none⟩, cap, rfl, hn, hm, at_flat (World.ownsRow.cells h (g := g) rfl)⟩
theorem OwnRow.form {base : Nat} {w : World} {v : Value} {l : List α} (h : OwnRow L t base w v l) : ∃ p n c, v = .slice p n c ∧ n = l.length := by
  rcases h.2 with ⟨rfl, h'⟩ | ⟨g, cap, cur, rfl, hg, hh, hn, hm, _⟩
  · exact ⟨none, 0, 0, rfl, h'.symm⟩
  · exact ⟨_, _, _, rfl, rfl⟩
theorem OwnRow.kept {base : Nat} {w w' : World} {v : Value} {l : List α} (h : OwnRow L t base w v l) (hb : Below w.heap.size w w') : OwnRow L t base w' v l := by
  refine ⟨h.1, ?_⟩
  rcases h.2 with h' | ⟨g, cap, cur, rfl, hg, hh, hr⟩
  · exact Or.inl h'
  · exact Or.inr ⟨g, cap, cur, rfl, hg, by rw [hb.block g (lt_of_block hh)]; exact hh, hr⟩
theorem OwnRow.alloc {base : Nat} {w : World} {v : Value} {l : List α} (h : OwnRow L t base w v l) (o : Obj) : OwnRow L t base (w.alloc o) v l := h.kept ((Below.refl _ _).alloc (Nat.le_refl _) o)
theorem OwnRow.call {base : Nat} {w w' : World} {v : Value} {l : List α} (h : OwnRow L t base w v l) (hb : Below w.heap.size w w') : OwnRow L t base w' v l := h.kept hb
theorem OwnRow.drew {base : Nat} {w : World} {v : Value} {l : List α} (h : OwnRow L t base w v l) : OwnRow L t base w.drew v l := h.kept ((Below.refl _ _).drew)
theorem OwnRow.other {base : Nat} {w : World} {v : Value} {l : List α} (h : OwnRow L t base w v l) {a : Addr} (ha : a.block < base) (u : Value) : OwnRow L t base (w.setCell a u) v l := own_other h ha u
theorem OwnRow.ge {base : Nat} {w : World} {v : Value} {l : List α} (h : OwnRow L t base w v l) : ∀ k, v.ownBlock = some k → base ≤ k := fun k hk => (World.ownsRow.lt h k hk).1
theorem OwnRow.mono {base base' : Nat} {w : World} {v : Value} {l : List α} (h : OwnRow L t base w v l) (hb : base' ≤ base) : OwnRow L t base' w v l := by
  refine ⟨h.1, ?_⟩
  rcases h.2 with h' | ⟨g, cap, cur, rfl, hg, hr⟩
  · exact Or.inl h'
  · exact Or.inr ⟨g, cap, cur, rfl, Nat.le_trans hb hg, hr⟩
/-- rows of two types are not one -/
theorem own_apart {w : World} {base base' : Nat} {e e' : TypeId} {size size' : Nat} {v v' : Value} {n n' : Nat} {xs xs' : List Value} (h : w.ownsRow base e size v n xs) (h' : w.ownsRow base' e' size' v' n' xs') (hne : e ≠ e') : v.ownBlock = none ∨ v.ownBlock ≠ v'.ownBlock := by
  rcases h.2 with ⟨rfl, _⟩ | ⟨g, cap, cur, rfl, _, hh, _⟩
  · exact Or.inl rfl
  · right
    intro he
    rcases h'.2 with ⟨rfl, _⟩ | ⟨g', cap', cur', rfl, _, hh', _⟩
    · cases he
    · have : g = g' := by simpa [Value.ownBlock] using he
      subst this
      rw [hh] at hh'
      injection hh' with hh'
      injection hh' with _ ht
      exact hne ht

/-- append(x, y...), x of one's own, y any of them -/
theorem run_append_row {w : World} {base : Nat} {v : Value} {l1 : List α} (T : TypeId) (zero : Value) (bytes : Nat) (hT : Try.prog.underlying T = some (.slice t)) (hI : (Try.prog.info? t).map (fun i => (i.zero, i.size, i.bytes)) = some (some zero, L.m, bytes)) (hz : zero.cells.size = L.m) (hbb : bytes ≤ 1000)
    (hown : OwnRow L t base w v l1) {u : Value} {l2 : List α} (hu : RowIs L w u l2) (hlim : l1.length + l2.length ≤ 1000000) (hbase : base ≤ w.heap.size) (ty : TypeId) :
    ∃ v' w', (Builtin.append_ #[T, T] ty #[v, u]).run Try.prog w = .ok v' w' ∧ OwnRow L t base w' v' (l1 ++ l2) ∧ w.grownBy w' v.ownBlock ∧ (v'.ownBlock = v.ownBlock ∨ v'.ownBlock = some w.heap.size) := by
  obtain ⟨i0, hi, hz0, hz1, hz2⟩ := info_parts hI
  have hone := flatL_one (L := L) hu.1
  rcases hu.2 with ⟨rfl, rfl⟩ | ⟨ad, c, rfl, h1, h2, h3⟩
  · refine ⟨v, w, run_append_owned_none (P := Try.prog) (w := w) base T ty t i0 L.m hT hi v l1.length (flatL L l1) hown, by simpa using hown, ⟨rfl, rfl, rfl, Nat.le_refl _, fun _ _ _ => rfl⟩, Or.inl rfl⟩
  · have hlo : (l1.length + l2.length) * bytes ≤ 1000000 * 1000 := Nat.mul_le_mul hlim hbb
    obtain ⟨v', w', hr, k1, k2, _, k3⟩ := run_append_own_at (P := Try.prog) w base T ty t i0 zero L.m bytes hT hi hz0 hz1 hz2 hz L.pos v l1.length (flatL L l1) hown ad l2.length c (flatL L l2) (flatL_length l2) h3.flat hone (by unfold maxLen; omega) (by omega) hbase
    refine ⟨v', w', hr, ?_, k2, k3⟩
    unfold OwnRow
    rw [List.length_append, flatL_append]
    exact k1
/-- a row of one's own that a new block holds: n of them, one behind the other -/
theorem row_made (w : World) (t : TypeId) (l : List α) (hm : l.length ≤ maxLen) (cs : Array Value) (hc : cs = (flatL L l).toArray) : AtIs L (w.alloc (.cells cs t)) ⟨w.heap.size, 0, none⟩ l := by
  subst hc
  refine at_flat fun j u hj => ?_
  have e : (⟨w.heap.size, 0, none⟩ : Addr).add j = ⟨w.heap.size, j, none⟩ := by unfold Addr.add; split <;> simp_all
  rw [e, (IsRow.made w t (flatL L l).toArray).cell j]
  simpa using hj

#print axioms run_append_row
#print axioms row_made
end Go.Proofs.Ytfeiafjeidnmkaa
