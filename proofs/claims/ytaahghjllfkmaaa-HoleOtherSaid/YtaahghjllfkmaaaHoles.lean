/- Pinholes ([]api.Hole) in memory: what a slice of them reads as; pieces; rows of one's own; append; compared; as arguments. -/
import Derived.Test.YtaahghjllfkmaaaHolePlain
import Derived.Test.YtaahghjllfkmaaaMem
import Derived.Maps.AppendAt
import Derived.OwnWalk
import Derived.RegionTactic
import Derived.BigFrame
import Derived.Laws.StructEq
import Derived.Lib.Hide
import Derived.Below
import Derived.Deep.Slices
import Derived.ChangeSame
import Derived.Carry
namespace Go.Proofs.Ytaahghjllfkmaaa.Hl
open Go.Proofs.Ytaahghjllfkmaaa
open Go Go.ChangeShapes Go.WideShapes Go.ChangeAt Go.RowKit
set_option maxRecDepth 100000
set_option linter.unusedVariables false

abbrev holeCs (x : Ho) : List Value := [.int .i64 x.port, .int .i64 x.sess, .int .i64 x.ten, .int .u8 x.a, .int .u8 x.b, .int .u8 x.c, .int .u8 x.d, .int .u8 x.e, .int .u8 x.f, .int .u8 x.g, .int .u8 x.h, .int .i64 x.tport, .int .i64 x.dead]
abbrev holeV (x : Ho) : Value := .agg #[.int .i64 x.port, .int .i64 x.sess, .int .i64 x.ten, .int .u8 x.a, .int .u8 x.b, .int .u8 x.c, .int .u8 x.d, .int .u8 x.e, .int .u8 x.f, .int .u8 x.g, .int .u8 x.h, .int .i64 x.tport, .int .i64 x.dead]
abbrev peV (x : Pe) : Value := .agg #[.int .u8 x.a, .int .u8 x.b, .int .u8 x.c, .int .u8 x.d]
def flatT (l : List Ho) : List Value := l.flatMap holeCs
theorem flat_at {α : Type} (f : α → List Value) (m : Nat) (hf : ∀ x, (f x).length = m) : ∀ (l : List α) (i : Nat) (h : i < l.length) (j : Nat), j < m → (l.flatMap f)[i * m + j]? = (f l[i])[j]?
  | x :: r, 0, _, j, hj => by
    rw [Nat.zero_mul, Nat.zero_add, List.flatMap_cons, List.getElem?_append_left (by rw [hf]; exact hj)]
    rfl
  | x :: r, i + 1, h, j, hj => by
    have e : (i + 1) * m + j = m + (i * m + j) := by rw [Nat.add_mul, Nat.one_mul]; omega
    rw [e, List.flatMap_cons, List.getElem?_append_right (by rw [hf]; omega), hf, Nat.add_sub_cancel_left]
    exact flat_at f m hf r i (by simpa using h) j hj
theorem flatT_append (l m : List Ho) : flatT (l ++ m) = flatT l ++ flatT m := List.flatMap_append
theorem flatT_length : ∀ l : List Ho, (flatT l).length = l.length * 13
  | [] => rfl
  | r :: l => by
    have := flatT_length l
    show (holeCs r ++ flatT l).length = (l.length + 1) * 13
    rw [List.length_append, this]
    show 13 + l.length * 13 = _
    omega
theorem flatT_at {l : List Ho} {i : Nat} (h : i < l.length) {j : Nat} (hj : j < 13) : (flatT l)[i * 13 + j]? = (holeCs l[i])[j]? := flat_at holeCs 13 (fun _ => rfl) l i h j hj
theorem flatT_one {l : List Ho} : ∀ u ∈ flatT l, u.oneCell' = true := by
  intro u hu
  obtain ⟨r, hr0, hr⟩ := List.mem_flatMap.1 hu
  simp only [holeCs, List.mem_cons, List.mem_nil_iff, or_false] at hr
  rcases hr with rfl | rfl | rfl | rfl | rfl | rfl | rfl | rfl | rfl | rfl | rfl | rfl | rfl
  all_goals rfl

def HolesAt (w : World) (a : Addr) (l : List Ho) : Prop := ∀ i (h : i < l.length), ∀ j, j < 13 → w.cell? (a.add (i * 13 + j)) = (holeCs l[i])[j]?
def HolesIs (w : World) (v : Value) (l : List Ho) : Prop :=
  (v = .slice none 0 0 ∧ l = []) ∨ ∃ a c, v = .slice (some a) l.length c ∧ l.length ≤ c ∧ c ≤ maxLen ∧ HolesAt w a l
/-- one pinhole at a place -/
structure HoleAt (w : World) (b o : Nat) (x : Ho) : Prop where
  lt : b < w.heap.size
  c0 : w.cell? ⟨b, o, none⟩ = some (.int .i64 x.port)
  c1 : w.cell? ⟨b, o + 1, none⟩ = some (.int .i64 x.sess)
  c2 : w.cell? ⟨b, o + 2, none⟩ = some (.int .i64 x.ten)
  c3 : w.cell? ⟨b, o + 3, none⟩ = some (.int .u8 x.a)
  c4 : w.cell? ⟨b, o + 4, none⟩ = some (.int .u8 x.b)
  c5 : w.cell? ⟨b, o + 5, none⟩ = some (.int .u8 x.c)
  c6 : w.cell? ⟨b, o + 6, none⟩ = some (.int .u8 x.d)
  c7 : w.cell? ⟨b, o + 7, none⟩ = some (.int .u8 x.e)
  c8 : w.cell? ⟨b, o + 8, none⟩ = some (.int .u8 x.f)
  c9 : w.cell? ⟨b, o + 9, none⟩ = some (.int .u8 x.g)
  c10 : w.cell? ⟨b, o + 10, none⟩ = some (.int .u8 x.h)
  c11 : w.cell? ⟨b, o + 11, none⟩ = some (.int .i64 x.tport)
  c12 : w.cell? ⟨b, o + 12, none⟩ = some (.int .i64 x.dead)
theorem HoleAt.call {w w' : World} {b o : Nat} {t : Ho} (h : HoleAt w b o t) (hb : Below w.heap.size w w') : HoleAt w' b o t := by
  have k : ∀ m, w'.cell? ⟨b, m, none⟩ = w.cell? ⟨b, m, none⟩ := fun m => hb.cell (p := ⟨b, m, none⟩) h.lt
  exact ⟨Nat.lt_of_lt_of_le h.lt hb.size, by rw [k]; exact h.c0, by rw [k]; exact h.c1, by rw [k]; exact h.c2, by rw [k]; exact h.c3, by rw [k]; exact h.c4, by rw [k]; exact h.c5, by rw [k]; exact h.c6, by rw [k]; exact h.c7, by rw [k]; exact h.c8, by rw [k]; exact h.c9, by rw [k]; exact h.c10, by rw [k]; exact h.c11, by rw [k]; exact h.c12⟩
theorem HolesAt.lt {w : World} {a : Addr} {l : List Ho} (h : HolesAt w a l) (hp : 0 < l.length) : a.block < w.heap.size := by
  have := World.block_lt_of_cell? w _ (h 0 hp 0 (by omega))
  rwa [add_block] at this
theorem HolesAt.keep {w w' : World} {a : Addr} {l : List Ho} (h : HolesAt w a l) (hk : ∀ p : Addr, p.block < w.heap.size → w'.cell? p = w.cell? p) : HolesAt w' a l := by
  intro i hi j hj
  rw [hk _ (by rw [add_block]; exact h.lt (by omega))]
  exact h i hi j hj
theorem HolesIs.nil (w : World) : HolesIs w (.slice none 0 0) [] := Or.inl ⟨rfl, rfl⟩
theorem HolesIs.call {w w' : World} {v : Value} {l : List Ho} (h : HolesIs w v l) (hb : Below w.heap.size w w') : HolesIs w' v l := by
  rcases h with h | ⟨a, c, rfl, h1, h2, h3⟩
  · exact Or.inl h
  · exact Or.inr ⟨a, c, rfl, h1, h2, h3.keep fun p hp => hb.cell hp⟩
theorem HolesIs.alloc {w : World} {v : Value} {l : List Ho} (h : HolesIs w v l) (o : Obj) : HolesIs (w.alloc o) v l := h.call ((Below.refl _ _).alloc (Nat.le_refl _) o)
theorem HolesIs.drew {w : World} {v : Value} {l : List Ho} (h : HolesIs w v l) : HolesIs w.drew v l := h
theorem HolesIs.form {w : World} {v : Value} {l : List Ho} (h : HolesIs w v l) : ∃ p n c, v = .slice p n c ∧ n = l.length := by
  rcases h with ⟨rfl, rfl⟩ | ⟨a, c, rfl, _⟩
  · exact ⟨none, 0, 0, rfl, rfl⟩
  · exact ⟨some a, _, c, rfl, rfl⟩
theorem HolesIs.max {w : World} {v : Value} {l : List Ho} (h : HolesIs w v l) : l.length ≤ 9223372036854775807 := by
  rcases h with ⟨_, rfl⟩ | ⟨a, c, _, h1, h2, _⟩
  · exact Nat.zero_le _
  · unfold maxLen at h2; omega
/-- tenants lie at a plain address -/
theorem HolesIs.some {w : World} {p : Option Addr} {n c : Nat} {l : List Ho} (h : HolesIs w (.slice p n c) l) (hne : 0 < l.length) :
    ∃ b o, p = some ⟨b, o, none⟩ ∧ b < w.heap.size ∧ ∀ i (h : i < l.length), HoleAt w b (o + i * 13) l[i] := by
  rcases h with ⟨_, h⟩ | ⟨a, c', e, _, _, h3⟩
  · rw [h] at hne; exact absurd hne (by decide)
  · injection e with e1 e2 e3
    subst e1
    have hl := h3.lt hne
    have h0 := h3 0 hne 0 (by omega)
    have ha : a = ⟨a.block, a.off, none⟩ := by
      have := World.cell?_spot h0
      rw [Nat.zero_mul, Nat.zero_add, add_zero'] at this
      cases a
      simp_all
    refine ⟨a.block, a.off, by rw [← ha], hl, fun i hi => ?_⟩
    have e : ∀ k, a.add k = ⟨a.block, a.off + k, none⟩ := by
      intro k
      generalize hb : a.block = b at *
      generalize ho : a.off = o at *
      rw [ha]; unfold Addr.add; split <;> simp_all
    have k : ∀ j, j < 13 → w.cell? ⟨a.block, a.off + i * 13 + j, none⟩ = (holeCs l[i])[j]? := fun j hj => by
      have := h3 i hi j hj
      rw [e, show a.off + (i * 13 + j) = a.off + i * 13 + j from by omega] at this
      exact this
    exact ⟨hl, k 0 (by omega), k 1 (by omega), k 2 (by omega), k 3 (by omega), k 4 (by omega), k 5 (by omega), k 6 (by omega), k 7 (by omega), k 8 (by omega), k 9 (by omega), k 10 (by omega), k 11 (by omega), k 12 (by omega)⟩
theorem HolesAt.flat {w : World} {a : Addr} {l : List Ho} (h : HolesAt w a l) : ∀ j u, (flatT l)[j]? = some u → w.cell? (a.add j) = some u := by
  intro j u hj
  have hl : j < l.length * 13 := by rw [← flatT_length]; exact (List.getElem?_eq_some_iff.1 hj).1
  have hi : j / 13 < l.length := by omega
  have hm : j % 13 < 13 := by omega
  have e : j / 13 * 13 + j % 13 = j := by omega
  have q := h (j / 13) hi (j % 13) hm
  have k := flatT_at hi hm
  rw [e] at q k
  rw [q, ← k, hj]
theorem holes_flat {w : World} {a : Addr} {l : List Ho} (h : ∀ j u, (flatT l)[j]? = some u → w.cell? (a.add j) = some u) : HolesAt w a l := by
  intro i hi j hj
  have hx : ∃ u, (holeCs l[i])[j]? = some u := ⟨_, List.getElem?_eq_getElem (by exact hj)⟩
  obtain ⟨u, hu⟩ := hx
  rw [hu]
  exact h _ _ (by rw [flatT_at hi hj]; exact hu)

/-! ### pieces -/
theorem holes_sub {w : World} {a : Addr} {c : Nat} {l : List Ho} (h1 : l.length ≤ c) (h2 : c ≤ maxLen) (h3 : HolesAt w a l) (i j : Nat) (hij : i ≤ j) (hj : j ≤ l.length) :
    HolesIs w (.slice (if c = i then some a else (some a).map (·.add (i * 13))) (j - i) (c - i)) ((l.drop i).take (j - i)) := by
  have hL : ((l.drop i).take (j - i)).length = j - i := by rw [List.length_take, List.length_drop]; omega
  refine Or.inr ⟨if c = i then a else a.add (i * 13), c - i, ?_, by omega, by omega, fun k hk m hm => ?_⟩
  · rw [hL]; split <;> simp
  · rw [hL] at hk
    have hci : ¬ c = i := by omega
    rw [if_neg hci]
    have e : ∀ m, (a.add (i * 13)).add m = a.add (i * 13 + m) := fun m => by
      by_cases hi : i = 0
      · subst hi; simp [add_zero']
      · exact add_add' a (i * 13) m (by omega)
    have hx : ((l.drop i).take (j - i))[k]'(by rw [hL]; exact hk) = l[i + k]'(by omega) := by simp [List.getElem_take, List.getElem_drop]
    rw [hx, e]
    have q := h3 (i + k) (by omega) m hm
    rw [show i * 13 + (k * 13 + m) = (i + k) * 13 + m from by omega]
    exact q
theorem info_hole : (Try.prog.info? 28).map (fun i => (i.zero, i.size, i.bytes)) = some (some (.agg #[.int .i64 0, .int .i64 0, .int .i64 0, .int .u8 0, .int .u8 0, .int .u8 0, .int .u8 0, .int .u8 0, .int .u8 0, .int .u8 0, .int .u8 0, .int .i64 0, .int .i64 0]), 13, 56) := by kernel_rfl
theorem size_hole : ∀ w, (Go.sizeOf 28).run Try.prog w = .ok 13 w := fun w => by
  obtain ⟨i0, hi, hz0, hz1, hz2⟩ := info_parts info_hole
  simp [Go.sizeOf, typeInfo, hi, hz1]
theorem elem_hole : Try.prog.elem 22 = 28 := by simp [Program.elem, Try.underlying22]
theorem under_holes : Try.prog.underlying 22 = some (.slice (Try.prog.elem 22)) := by rw [elem_hole]; exact Try.underlying22
theorem holes_l {w : World} {v : Value} {l : List Ho} (h : HolesIs w v l) (i : Nat) (hi : i ≤ l.length) :
    ∃ p n c, n = l.length - i ∧ (∀ W, (Instr.slice 22 v (some (.int .i64 (i : Int))) none none).run Try.prog W = .ok (.slice p n c) W) ∧ HolesIs w (.slice p n c) (l.drop i) := by
  rcases h with ⟨rfl, rfl⟩ | ⟨a, c, rfl, h1, h2, h3⟩
  · obtain rfl : i = 0 := by simpa using hi
    refine ⟨none, 0, 0, rfl, fun W => ?_, HolesIs.nil _⟩
    rw [run_slice_l W 22 none 0 0 under_holes .i64 _ (by omega) (by omega), elem_hole, size_hole]
    rfl
  · have hb := holes_sub h1 h2 h3 i l.length hi (Nat.le_refl _)
    rw [List.take_of_length_le (by simp)] at hb
    refine ⟨_, _, _, rfl, fun W => ?_, hb⟩
    rw [run_slice_l W 22 (some a) l.length c under_holes .i64 _ (by omega) (by omega), elem_hole, size_hole]
    simp [Result.andThen, sliced]
theorem holes_h {w : World} {v : Value} {l : List Ho} (h : HolesIs w v l) (j : Nat) (hj : j ≤ l.length) :
    ∃ p n c, n = j ∧ (∀ W, (Instr.slice 22 v none (some (.int .i64 (j : Int))) none).run Try.prog W = .ok (.slice p n c) W) ∧ HolesIs w (.slice p n c) (l.take j) := by
  rcases h with ⟨rfl, rfl⟩ | ⟨a, c, rfl, h1, h2, h3⟩
  · obtain rfl : j = 0 := by simpa using hj
    refine ⟨none, 0, 0, rfl, fun W => ?_, HolesIs.nil _⟩
    rw [run_slice_h W 22 none 0 0 under_holes .i64 _ (by omega) (by omega), elem_hole, size_hole]
    rfl
  · have hb := holes_sub h1 h2 h3 0 j (Nat.zero_le _) hj
    rw [List.drop_zero, Nat.sub_zero] at hb
    refine ⟨_, _, _, rfl, fun W => ?_, hb⟩
    rw [run_slice_h W 22 (some a) l.length c under_holes .i64 _ (by omega) (by omega), elem_hole, size_hole]
    simp [Result.andThen, sliced]

/-! ### tenants of one's own -/
def OwnHoles (base : Nat) (w : World) (v : Value) (l : List Ho) : Prop := w.ownsRow base 28 13 v l.length (flatT l)
theorem OwnHoles.nil (base : Nat) (w : World) : OwnHoles base w (.slice none 0 0) [] := World.ownsRow_nil _ _ _ _
theorem OwnHoles.holes {base : Nat} {w : World} {v : Value} {l : List Ho} (h : OwnHoles base w v l) : HolesIs w v l := by
  rcases h.2 with ⟨rfl, h'⟩ | ⟨g, cap, cur, rfl, hg, hh, hn, hm, _⟩
  · exact Or.inl ⟨rfl, List.length_eq_zero_iff.1 h'⟩
  · exact Or.inr ⟨⟨g, 0, none⟩, cap, rfl, hn, hm, holes_flat (World.ownsRow.cells h (g := g) rfl)⟩
theorem OwnHoles.form {base : Nat} {w : World} {v : Value} {l : List Ho} (h : OwnHoles base w v l) : ∃ p n c, v = .slice p n c ∧ n = l.length := by
  rcases h.2 with ⟨rfl, h'⟩ | ⟨g, cap, cur, rfl, hg, hh, hn, hm, _⟩
  · exact ⟨none, 0, 0, rfl, h'.symm⟩
  · exact ⟨_, _, _, rfl, rfl⟩
theorem OwnHoles.other {base : Nat} {w : World} {v : Value} {l : List Ho} (h : OwnHoles base w v l) {a : Addr} (ha : a.block < base) (u : Value) : OwnHoles base (w.setCell a u) v l := own_other h ha u
theorem OwnHoles.kept {base : Nat} {w w' : World} {v : Value} {l : List Ho} (h : OwnHoles base w v l) (hb : Below w.heap.size w w') : OwnHoles base w' v l := by
  refine ⟨h.1, ?_⟩
  rcases h.2 with h' | ⟨g, cap, cur, rfl, hg, hh, hr⟩
  · exact Or.inl h'
  · exact Or.inr ⟨g, cap, cur, rfl, hg, by rw [hb.block g (lt_of_block hh)]; exact hh, hr⟩
theorem OwnHoles.alloc {base : Nat} {w : World} {v : Value} {l : List Ho} (h : OwnHoles base w v l) (o : Obj) : OwnHoles base (w.alloc o) v l := h.kept ((Below.refl _ _).alloc (Nat.le_refl _) o)
theorem OwnHoles.ge {base : Nat} {w : World} {v : Value} {l : List Ho} (h : OwnHoles base w v l) : ∀ k, v.ownBlock = some k → base ≤ k := fun k hk => (World.ownsRow.lt h k hk).1

/-- append(x, y...), x tenants of one's own, y any tenants -/
theorem run_append_holes {w : World} {base : Nat} {v : Value} {l1 : List Ho} (hown : OwnHoles base w v l1) {u : Value} {l2 : List Ho} (hu : HolesIs w u l2) (hlim : l1.length + l2.length ≤ 1000000) (hbase : base ≤ w.heap.size) (ty : TypeId) :
    ∃ v' w', (Builtin.append_ #[22, 22] ty #[v, u]).run Try.prog w = .ok v' w' ∧ OwnHoles base w' v' (l1 ++ l2) ∧ w.grownBy w' v.ownBlock ∧ (v'.ownBlock = v.ownBlock ∨ v'.ownBlock = some w.heap.size) := by
  obtain ⟨i0, hi, hz0, hz1, hz2⟩ := info_parts info_hole
  have hone := flatT_one (l := l2)
  rcases hu with ⟨rfl, rfl⟩ | ⟨ad, c, rfl, h1, h2, h3⟩
  · refine ⟨v, w, run_append_owned_none (P := Try.prog) (w := w) base 22 ty 28 i0 13 Try.underlying22 hi v l1.length (flatT l1) hown, by simpa using hown, ⟨rfl, rfl, rfl, Nat.le_refl _, fun _ _ _ => rfl⟩, Or.inl rfl⟩
  · obtain ⟨v', w', hr, k1, k2, _, k3⟩ := run_append_own_at (P := Try.prog) w base 22 ty 28 i0 _ 13 56 Try.underlying22 hi hz0 hz1 hz2 rfl (by decide) v l1.length (flatT l1) hown ad l2.length c (flatT l2) (flatT_length l2) h3.flat hone (by unfold maxLen; omega) (by omega) hbase
    refine ⟨v', w', hr, ?_, k2, k3⟩
    unfold OwnHoles
    rw [List.length_append, flatT_append]
    exact k1
theorem wp_append_holes {w : World} {o : Oper} {a : Act} {K : Act → World → Prop} {Q : Exit → Act → World → Prop} (s x : Operand)
    (ho : o.op = .call { callee := .builtin .append, args := #[s, x], argTypes := #[22, 22] })
    (base : Nat) (v : Value) (l1 : List Ho) (hs : a.eval s = v) (hown : OwnHoles base w v l1) (u : Value) (l2 : List Ho) (hx : a.eval x = u) (hu : HolesIs w u l2) (hlim : l1.length + l2.length ≤ 1000000) (hbase : base ≤ w.heap.size)
    (h : ∀ v' w', OwnHoles base w' v' (l1 ++ l2) → w.grownBy w' v.ownBlock → (v'.ownBlock = v.ownBlock ∨ v'.ownBlock = some w.heap.size) → K (a.put o.dst v') w') : Oper.wp Try.prog o a w K Q := by
  obtain ⟨v', w', hr, h2, h3, h4⟩ := run_append_holes hown hu hlim hbase o.type
  unfold Oper.wp execOp
  simp only [ho, resolve, invoke, builtin, Sem.run_bind, Sem.run_pure, Result.andThen_ok, List.map_toArray, List.map_cons, List.map_nil, hs, hx, hr]
  exact h v' w' h2 h3 h4
theorem wpList_append_holes {w : World} {ops : Array Oper} {rest : List Oper} {o : Oper} {a : Act} {Q : Exit → Act → World → Prop} (hgd : o.guard = none) (s x : Operand)
    (ho : o.op = .call { callee := .builtin .append, args := #[s, x], argTypes := #[22, 22] })
    (base : Nat) (v : Value) (l1 : List Ho) (hs : a.eval s = v) (hown : OwnHoles base w v l1) (u : Value) (l2 : List Ho) (hx : a.eval x = u) (hu : HolesIs w u l2) (hlim : l1.length + l2.length ≤ 1000000) (hbase : base ≤ w.heap.size)
    (h : ∀ v' w', OwnHoles base w' v' (l1 ++ l2) → w.grownBy w' v.ownBlock → (v'.ownBlock = v.ownBlock ∨ v'.ownBlock = some w.heap.size) → wpList Try.prog ops Q rest (a.put o.dst v') w') : wpList Try.prog ops Q (o :: rest) a w :=
  wpList_plain hgd fun _ hK => wp_append_holes s x ho base v l1 hs hown u l2 hx hu hlim hbase fun v' w' h2 h3 h4 => hK _ _ (h v' w' h2 h3 h4)
theorem step_append_holes {w : World} {ops : Array Oper} {o : Oper} {a : Act} {K : Act → World → Prop} {Q : Exit → Act → World → Prop} {E : Prop} (hgd : o.guard = none) (s x : Operand)
    (ho : o.op = .call { callee := .builtin .append, args := #[s, x], argTypes := #[22, 22] })
    (base : Nat) (v : Value) (l1 : List Ho) (hs : a.eval s = v) (hown : OwnHoles base w v l1) (u : Value) (l2 : List Ho) (hx : a.eval x = u) (hu : HolesIs w u l2) (hlim : l1.length + l2.length ≤ 1000000) (hbase : base ≤ w.heap.size)
    (h : ∀ v' w', OwnHoles base w' v' (l1 ++ l2) → w.grownBy w' v.ownBlock → (v'.ownBlock = v.ownBlock ∨ v'.ownBlock = some w.heap.size) → K (a.put o.dst v') w') :
    if Region.wanted o (yielded ops a.tmps) = true then Oper.wp Try.prog o a w K Q else E := by
  have hw : Region.wanted o (yielded ops a.tmps) = true := by simp [Region.wanted, hgd]
  rw [if_pos hw]
  exact wp_append_holes s x ho base v l1 hs hown u l2 hx hu hlim hbase h


/-! ### compared -/
theorem range4 : List.range' 0 ((4 - 0 + 1 - 1) / 1) = [0, 1, 2, 3] := rfl
theorem equal_four {P : Program} (d : Nat) (t el : TypeId) (xs ys : Array Value) (x0 x1 x2 x3 y0 y1 y2 y3 : Value) (r0 r1 r2 r3 : Bool) (w : World)
    (hu : P.underlying t = some (.array 4 el)) (hs : ∀ w, (sizeOf el).run P w = .ok 1 w)
    (p0 : ∀ w, (part el xs (0 * 1)).run P w = .ok x0 w) (p1 : ∀ w, (part el xs (1 * 1)).run P w = .ok x1 w) (p2 : ∀ w, (part el xs (2 * 1)).run P w = .ok x2 w) (p3 : ∀ w, (part el xs (3 * 1)).run P w = .ok x3 w)
    (q0 : ∀ w, (part el ys (0 * 1)).run P w = .ok y0 w) (q1 : ∀ w, (part el ys (1 * 1)).run P w = .ok y1 w) (q2 : ∀ w, (part el ys (2 * 1)).run P w = .ok y2 w) (q3 : ∀ w, (part el ys (3 * 1)).run P w = .ok y3 w)
    (e0 : ∀ w, (Op.equalIn d el x0 y0).run P w = .ok r0 w) (e1 : ∀ w, (Op.equalIn d el x1 y1).run P w = .ok r1 w) (e2 : ∀ w, (Op.equalIn d el x2 y2).run P w = .ok r2 w) (e3 : ∀ w, (Op.equalIn d el x3 y3).run P w = .ok r3 w) :
    (Op.equalIn (d + 1) t (.agg xs) (.agg ys)).run P w = .ok (r0 && r1 && r2 && r3) w := by
  rw [Op.equalIn]
  simp only [Sem.run_bind, run_underlying hu, Result.andThen_ok, hs]
  simp only [Std.Legacy.Range.forIn_eq_forIn_range', Std.Legacy.Range.size, range4]
  cases r0
  · simp only [List.forIn_cons, Sem.run_bind, p0, q0, e0, Result.andThen_ok, Bool.not_false, if_true, Sem.run_pure, Bool.false_and]
  cases r1
  · simp only [List.forIn_cons, Sem.run_bind, p0, q0, e0, p1, q1, e1, Result.andThen_ok, Bool.not_false, Bool.not_true, Bool.false_eq_true, if_true, if_false, Sem.run_pure, Bool.false_and, Bool.true_and]
  cases r2
  · simp only [List.forIn_cons, Sem.run_bind, p0, q0, e0, p1, q1, e1, p2, q2, e2, Result.andThen_ok, Bool.not_false, Bool.not_true, Bool.false_eq_true, if_true, if_false, Sem.run_pure, Bool.false_and, Bool.true_and]
  cases r3
  · simp only [List.forIn_cons, Sem.run_bind, p0, q0, e0, p1, q1, e1, p2, q2, e2, p3, q3, e3, Result.andThen_ok, Bool.not_false, Bool.not_true, Bool.false_eq_true, if_true, if_false, Sem.run_pure, Bool.true_and]
  · simp only [List.forIn_cons, List.forIn_nil, Sem.run_bind, p0, q0, e0, p1, q1, e1, p2, q2, e2, p3, q3, e3, Result.andThen_ok, Bool.not_true, Bool.false_eq_true, if_false, Sem.run_pure, Bool.true_and]
theorem equal_host_at (d : Nat) (a b c e a' b' c' e' : Int) (w : World) :
    (Op.equalIn (d + 2) 24 (.agg #[.int .u8 a, .int .u8 b, .int .u8 c, .int .u8 e]) (.agg #[.int .u8 a', .int .u8 b', .int .u8 c', .int .u8 e'])).run Try.prog w = .ok (a == a' && b == b' && c == c' && e == e') w :=
  equal_four (d + 1) 24 5 _ _ (.int .u8 a) (.int .u8 b) (.int .u8 c) (.int .u8 e) (.int .u8 a') (.int .u8 b') (.int .u8 c') (.int .u8 e') _ _ _ _ w Try.underlying24 (fun _ => by kernel_rfl)
    (fun _ => by kernel_rfl) (fun _ => by kernel_rfl) (fun _ => by kernel_rfl) (fun _ => by kernel_rfl) (fun _ => by kernel_rfl) (fun _ => by kernel_rfl) (fun _ => by kernel_rfl) (fun _ => by kernel_rfl)
    (fun w => run_equalIn_int w d _ _ _ _ _ Try.underlying5) (fun w => run_equalIn_int w d _ _ _ _ _ Try.underlying5) (fun w => run_equalIn_int w d _ _ _ _ _ Try.underlying5) (fun w => run_equalIn_int w d _ _ _ _ _ Try.underlying5)
theorem eq_field {P : Program} (d : Nat) (xs ys : Array Value) (f : Field) (fs : List Field) (x y : Value) (r rs : Bool) (w : World) (n : (f.name != "_") = true)
    (p : ∀ w, (part f.type xs f.offset).run P w = .ok x w) (q : ∀ w, (part f.type ys f.offset).run P w = .ok y w) (e : ∀ w, (Op.equalIn d f.type x y).run P w = .ok r w)
    (h : (Op.eqFields d xs ys fs).run P w = .ok rs w) : (Op.eqFields d xs ys (f :: fs)).run P w = .ok (r && rs) w := by
  have m : f.name ≠ "_" := by simpa using n
  simp only [Op.eqFields, if_pos m, Sem.run_bind, p, q, e, Result.andThen_ok, Sem.run_ite, Sem.run_pure]
  cases r
  · simp
  · simp only [Bool.not_true, Bool.false_eq_true, if_false, Bool.true_and]; exact h
theorem eq_last {P : Program} (d : Nat) (xs ys : Array Value) (f : Field) (x y : Value) (r : Bool) (w : World) (n : (f.name != "_") = true)
    (p : ∀ w, (part f.type xs f.offset).run P w = .ok x w) (q : ∀ w, (part f.type ys f.offset).run P w = .ok y w) (e : ∀ w, (Op.equalIn d f.type x y).run P w = .ok r w) : (Op.eqFields d xs ys [f]).run P w = .ok r w := by
  have := eq_field d xs ys f [] x y r true w n p q e (by simp [Op.eqFields])
  rw [Bool.and_true] at this; exact this
theorem equal_struct {P : Program} (d : Nat) (t : TypeId) (fs : Array Field) (xs ys : Array Value) (r : Bool) (w : World) (hu : P.underlying t = some (.struct fs)) (hp : P.stoodInHeld t = false)
    (h : (Op.eqFields d xs ys fs.toList).run P w = .ok r w) : (Op.equalIn (d + 1) t (.agg xs) (.agg ys)).run P w = .ok r w := by
  have hf : P.fieldsOf t = fs := by unfold Program.fieldsOf; rw [hu]
  rw [run_equalIn_struct w d t xs ys (by rw [hf]; exact hu) hp, hf]
  exact h
theorem equal_end_at (d : Nat) (a b c e p a' b' c' e' p' : Int) (w : World) :
    (Op.equalIn (d + 3) 26 (.agg #[.int .u8 a, .int .u8 b, .int .u8 c, .int .u8 e, .int .i64 p]) (.agg #[.int .u8 a', .int .u8 b', .int .u8 c', .int .u8 e', .int .i64 p'])).run Try.prog w = .ok ((a == a' && b == b' && c == c' && e == e') && p == p') w :=
  equal_struct (d + 2) 26 _ _ _ _ w Try.underlying26 (by kernel_rfl)
    (eq_field _ _ _ _ _ (.agg #[.int .u8 a, .int .u8 b, .int .u8 c, .int .u8 e]) (.agg #[.int .u8 a', .int .u8 b', .int .u8 c', .int .u8 e']) _ _ w (by kernel_rfl) (fun _ => by kernel_rfl) (fun _ => by kernel_rfl) (equal_host_at d a b c e a' b' c' e')
    (eq_last _ _ _ _ (.int .i64 p) (.int .i64 p') _ w (by kernel_rfl) (fun _ => by kernel_rfl) (fun _ => by kernel_rfl) (fun w => run_equalIn_int w (d + 1) _ _ _ _ _ Try.underlying3)))
theorem equal_holes (x y : Ho) (w : World) : (Op.equalIn 10000 28 (holeV x) (holeV y)).run Try.prog w = .ok (eqH x y) w :=
  equal_struct 9999 28 _ _ _ _ w Try.underlying28 (by kernel_rfl)
    (eq_field _ _ _ _ _ (.int .i64 x.port) (.int .i64 y.port) _ _ w (by kernel_rfl) (fun _ => by kernel_rfl) (fun _ => by kernel_rfl) (fun w => run_equalIn_int w 9998 _ _ _ _ _ Try.underlying3)
    (eq_field _ _ _ _ _ (.int .i64 x.sess) (.int .i64 y.sess) _ _ w (by kernel_rfl) (fun _ => by kernel_rfl) (fun _ => by kernel_rfl) (fun w => run_equalIn_int w 9998 _ _ _ _ _ Try.underlying3)
    (eq_field _ _ _ _ _ (.int .i64 x.ten) (.int .i64 y.ten) _ _ w (by kernel_rfl) (fun _ => by kernel_rfl) (fun _ => by kernel_rfl) (fun w => run_equalIn_int w 9998 _ _ _ _ _ Try.underlying3)
    (eq_field _ _ _ _ _ (.agg #[.int .u8 x.a, .int .u8 x.b, .int .u8 x.c, .int .u8 x.d]) (.agg #[.int .u8 y.a, .int .u8 y.b, .int .u8 y.c, .int .u8 y.d]) _ _ w (by kernel_rfl) (fun _ => by kernel_rfl) (fun _ => by kernel_rfl) (equal_host_at 9997 _ _ _ _ _ _ _ _)
    (eq_field _ _ _ _ _ (.agg #[.int .u8 x.e, .int .u8 x.f, .int .u8 x.g, .int .u8 x.h, .int .i64 x.tport]) (.agg #[.int .u8 y.e, .int .u8 y.f, .int .u8 y.g, .int .u8 y.h, .int .i64 y.tport]) _ _ w (by kernel_rfl) (fun _ => by kernel_rfl) (fun _ => by kernel_rfl) (equal_end_at 9996 _ _ _ _ _ _ _ _ _ _)
    (eq_last _ _ _ _ (.int .i64 x.dead) (.int .i64 y.dead) _ w (by kernel_rfl) (fun _ => by kernel_rfl) (fun _ => by kernel_rfl) (fun w => run_equalIn_int w 9998 _ _ _ _ _ Try.underlying3)))))))
theorem equal_peers (x y : Pe) (w : World) : (Op.equalIn 10000 24 (peV x) (peV y)).run Try.prog w = .ok (eqP x y) w := equal_host_at 9998 _ _ _ _ _ _ _ _ w

#print axioms equal_holes
#print axioms step_append_holes
#print axioms HolesIs.some
end Go.Proofs.Ytaahghjllfkmaaa.Hl
