/- Tenants ([]api.Tenant) in memory, whole: what a slice of them reads as; pieces; rows of one's own; append. -/
import Derived.Test.YtmodmfkcigibpaaDoorPlains
import Derived.Test.YtmodmfkcigibpaaDoorRules
import Derived.BigFrame
namespace Go.Proofs.YtmodmfkcigibpaaDoor.Co
open Go.Proofs.YtmodmfkcigibpaaDoor Go.Proofs.YtmodmfkcigibpaaDoor.Ac
open Go Go.ChangeShapes Go.WideShapes Go.ChangeAt Go.RowKit
set_option maxRecDepth 100000
set_option linter.unusedVariables false

abbrev tenCs (t : Tn) : List Value := [.string ⟨t.name.toArray⟩, .string ⟨t.host.toArray⟩, .int .u8 t.a, .int .u8 t.b, .int .u8 t.c, .int .u8 t.d, .int .i64 t.port, .int .i64 t.low, .int .i64 t.high, t.rv, .int .i64 t.sess, .int .i64 t.holes, .int .i64 t.quota, .int .i64 t.each]
abbrev tenV (t : Tn) : Value := .agg #[.string ⟨t.name.toArray⟩, .string ⟨t.host.toArray⟩, .int .u8 t.a, .int .u8 t.b, .int .u8 t.c, .int .u8 t.d, .int .i64 t.port, .int .i64 t.low, .int .i64 t.high, t.rv, .int .i64 t.sess, .int .i64 t.holes, .int .i64 t.quota, .int .i64 t.each]
def flatT (l : List Tn) : List Value := l.flatMap tenCs
theorem flat_at {α : Type} (f : α → List Value) (m : Nat) (hf : ∀ x, (f x).length = m) : ∀ (l : List α) (i : Nat) (h : i < l.length) (j : Nat), j < m → (l.flatMap f)[i * m + j]? = (f l[i])[j]?
  | x :: r, 0, _, j, hj => by
    rw [Nat.zero_mul, Nat.zero_add, List.flatMap_cons, List.getElem?_append_left (by rw [hf]; exact hj)]
    rfl
  | x :: r, i + 1, h, j, hj => by
    have e : (i + 1) * m + j = m + (i * m + j) := by rw [Nat.add_mul, Nat.one_mul]; omega
    rw [e, List.flatMap_cons, List.getElem?_append_right (by rw [hf]; omega), hf, Nat.add_sub_cancel_left]
    exact flat_at f m hf r i (by simpa using h) j hj
theorem flatT_append (l m : List Tn) : flatT (l ++ m) = flatT l ++ flatT m := List.flatMap_append
theorem flatT_length : ∀ l : List Tn, (flatT l).length = l.length * 14
  | [] => rfl
  | r :: l => by
    have := flatT_length l
    show (tenCs r ++ flatT l).length = (l.length + 1) * 14
    rw [List.length_append, this]
    show 14 + l.length * 14 = _
    omega
theorem flatT_at {l : List Tn} {i : Nat} (h : i < l.length) {j : Nat} (hj : j < 14) : (flatT l)[i * 14 + j]? = (tenCs l[i])[j]? := flat_at tenCs 14 (fun _ => rfl) l i h j hj
theorem flatT_one {l : List Tn} (h : ∀ t ∈ l, t.rv.oneCell' = true) : ∀ u ∈ flatT l, u.oneCell' = true := by
  intro u hu
  obtain ⟨r, hr0, hr⟩ := List.mem_flatMap.1 hu
  simp only [tenCs, List.mem_cons, List.mem_nil_iff, or_false] at hr
  rcases hr with rfl | rfl | rfl | rfl | rfl | rfl | rfl | rfl | rfl | rfl | rfl | rfl | rfl | rfl
  all_goals first | rfl | exact h r hr0
theorem rules_one {w : World} {v : Value} {l : List Rl} (h : RulesIs w v l) : v.oneCell' = true := by
  obtain ⟨p, n, c, rfl, _⟩ := h.form
  rfl

/-- the cells of the tenants l lie from a on, and their rules where these say -/
def TensAt (w : World) (a : Addr) (l : List Tn) : Prop := ∀ i (h : i < l.length), ∀ j, j < 14 → w.cell? (a.add (i * 14 + j)) = (tenCs l[i])[j]?
def RulesOf (w : World) (l : List Tn) : Prop := ∀ t ∈ l, RulesIs w t.rv t.rs
def TensIs (w : World) (v : Value) (l : List Tn) : Prop :=
  RulesOf w l ∧ ((v = .slice none 0 0 ∧ l = []) ∨ ∃ a c, v = .slice (some a) l.length c ∧ l.length ≤ c ∧ c ≤ maxLen ∧ TensAt w a l)
/-- one tenant at a place -/
structure TenAt (w : World) (b o : Nat) (t : Tn) : Prop where
  lt : b < w.heap.size
  c0 : w.cell? ⟨b, o, none⟩ = some (.string ⟨t.name.toArray⟩)
  c1 : w.cell? ⟨b, o + 1, none⟩ = some (.string ⟨t.host.toArray⟩)
  c2 : w.cell? ⟨b, o + 2, none⟩ = some (.int .u8 t.a)
  c3 : w.cell? ⟨b, o + 3, none⟩ = some (.int .u8 t.b)
  c4 : w.cell? ⟨b, o + 4, none⟩ = some (.int .u8 t.c)
  c5 : w.cell? ⟨b, o + 5, none⟩ = some (.int .u8 t.d)
  c6 : w.cell? ⟨b, o + 6, none⟩ = some (.int .i64 t.port)
  c7 : w.cell? ⟨b, o + 7, none⟩ = some (.int .i64 t.low)
  c8 : w.cell? ⟨b, o + 8, none⟩ = some (.int .i64 t.high)
  c9 : w.cell? ⟨b, o + 9, none⟩ = some t.rv
  c10 : w.cell? ⟨b, o + 10, none⟩ = some (.int .i64 t.sess)
  c11 : w.cell? ⟨b, o + 11, none⟩ = some (.int .i64 t.holes)
  c12 : w.cell? ⟨b, o + 12, none⟩ = some (.int .i64 t.quota)
  c13 : w.cell? ⟨b, o + 13, none⟩ = some (.int .i64 t.each)
theorem TenAt.call {w w' : World} {b o : Nat} {t : Tn} (h : TenAt w b o t) (hb : Below w.heap.size w w') : TenAt w' b o t := by
  have k : ∀ m, w'.cell? ⟨b, m, none⟩ = w.cell? ⟨b, m, none⟩ := fun m => hb.cell (p := ⟨b, m, none⟩) h.lt
  exact ⟨Nat.lt_of_lt_of_le h.lt hb.size, by rw [k]; exact h.c0, by rw [k]; exact h.c1, by rw [k]; exact h.c2, by rw [k]; exact h.c3, by rw [k]; exact h.c4, by rw [k]; exact h.c5, by rw [k]; exact h.c6, by rw [k]; exact h.c7, by rw [k]; exact h.c8, by rw [k]; exact h.c9, by rw [k]; exact h.c10, by rw [k]; exact h.c11, by rw [k]; exact h.c12, by rw [k]; exact h.c13⟩

theorem TensAt.lt {w : World} {a : Addr} {l : List Tn} (h : TensAt w a l) (hp : 0 < l.length) : a.block < w.heap.size := by
  have := World.block_lt_of_cell? w _ (h 0 hp 0 (by omega))
  rwa [add_block] at this
theorem TensAt.keep {w w' : World} {a : Addr} {l : List Tn} (h : TensAt w a l) (hk : ∀ p : Addr, p.block < w.heap.size → w'.cell? p = w.cell? p) : TensAt w' a l := by
  intro i hi j hj
  rw [hk _ (by rw [add_block]; exact h.lt (by omega))]
  exact h i hi j hj
theorem RulesOf.call {w w' : World} {l : List Tn} (h : RulesOf w l) (hb : Below w.heap.size w w') : RulesOf w' l := fun t ht => (h t ht).call hb
theorem TensIs.nil (w : World) : TensIs w (.slice none 0 0) [] := ⟨fun _ h => (by cases h), Or.inl ⟨rfl, rfl⟩⟩
theorem TensIs.call {w w' : World} {v : Value} {l : List Tn} (h : TensIs w v l) (hb : Below w.heap.size w w') : TensIs w' v l := by
  refine ⟨h.1.call hb, ?_⟩
  rcases h.2 with h | ⟨a, c, rfl, h1, h2, h3⟩
  · exact Or.inl h
  · exact Or.inr ⟨a, c, rfl, h1, h2, h3.keep fun p hp => hb.cell hp⟩
theorem TensIs.alloc {w : World} {v : Value} {l : List Tn} (h : TensIs w v l) (o : Obj) : TensIs (w.alloc o) v l := h.call ((Below.refl _ _).alloc (Nat.le_refl _) o)
theorem TensIs.drew {w : World} {v : Value} {l : List Tn} (h : TensIs w v l) : TensIs w.drew v l := h
theorem TensIs.form {w : World} {v : Value} {l : List Tn} (h : TensIs w v l) : ∃ p n c, v = .slice p n c ∧ n = l.length := by
  rcases h.2 with ⟨rfl, rfl⟩ | ⟨a, c, rfl, _⟩
  · exact ⟨none, 0, 0, rfl, rfl⟩
  · exact ⟨some a, _, c, rfl, rfl⟩
theorem TensIs.max {w : World} {v : Value} {l : List Tn} (h : TensIs w v l) : l.length ≤ 9223372036854775807 := by
  rcases h.2 with ⟨_, rfl⟩ | ⟨a, c, _, h1, h2, _⟩
  · exact Nat.zero_le _
  · unfold maxLen at h2; omega
/-- tenants lie at a plain address -/
theorem TensIs.some {w : World} {p : Option Addr} {n c : Nat} {l : List Tn} (h : TensIs w (.slice p n c) l) (hne : 0 < l.length) :
    ∃ b o, p = some ⟨b, o, none⟩ ∧ b < w.heap.size ∧ ∀ i (h : i < l.length), TenAt w b (o + i * 14) l[i] := by
  rcases h.2 with ⟨_, h⟩ | ⟨a, c', e, _, _, h3⟩
  · rw [h] at hne; exact absurd hne (by decide)
  · injection e with e1 e2 e3
    subst e1
    have hl := h3.lt hne
    have h0 := h3 0 hne 0 (by omega)
    have ha : a = ⟨a.block, a.off, none⟩ := by
      have := World.cell?_spot h0
      rw [Nat.zero_mul, Nat.zero_add, add_zero'] at this
      cases a
      simp_all
    refine ⟨a.block, a.off, by rw [← ha], hl, fun i hi => ?_⟩
    have e : ∀ k, a.add k = ⟨a.block, a.off + k, none⟩ := by
      intro k
      generalize hb : a.block = b at *
      generalize ho : a.off = o at *
      rw [ha]; unfold Addr.add; split <;> simp_all
    have k : ∀ j, j < 14 → w.cell? ⟨a.block, a.off + i * 14 + j, none⟩ = (tenCs l[i])[j]? := fun j hj => by
      have := h3 i hi j hj
      rw [e, show a.off + (i * 14 + j) = a.off + i * 14 + j from by omega] at this
      exact this
    exact ⟨hl, k 0 (by omega), k 1 (by omega), k 2 (by omega), k 3 (by omega), k 4 (by omega), k 5 (by omega), k 6 (by omega), k 7 (by omega), k 8 (by omega), k 9 (by omega), k 10 (by omega), k 11 (by omega), k 12 (by omega), k 13 (by omega)⟩
theorem TensAt.flat {w : World} {a : Addr} {l : List Tn} (h : TensAt w a l) : ∀ j u, (flatT l)[j]? = some u → w.cell? (a.add j) = some u := by
  intro j u hj
  have hl : j < l.length * 14 := by rw [← flatT_length]; exact (List.getElem?_eq_some_iff.1 hj).1
  have hi : j / 14 < l.length := by omega
  have hm : j % 14 < 14 := by omega
  have e : j / 14 * 14 + j % 14 = j := by omega
  have q := h (j / 14) hi (j % 14) hm
  have k := flatT_at hi hm
  rw [e] at q k
  rw [q, ← k, hj]
theorem tens_flat {w : World} {a : Addr} {l : List Tn} (h : ∀ j u, (flatT l)[j]? = some u → w.cell? (a.add j) = some u) : TensAt w a l := by
  intro i hi j hj
  have hx : ∃ u, (tenCs l[i])[j]? = some u := ⟨_, List.getElem?_eq_getElem (by exact hj)⟩
  obtain ⟨u, hu⟩ := hx
  rw [hu]
  exact h _ _ (by rw [flatT_at hi hj]; exact hu)

/-! ### pieces -/
theorem tens_sub {w : World} {a : Addr} {c : Nat} {l : List Tn} (h0 : RulesOf w l) (h1 : l.length ≤ c) (h2 : c ≤ maxLen) (h3 : TensAt w a l) (i j : Nat) (hij : i ≤ j) (hj : j ≤ l.length) :
    TensIs w (.slice (if c = i then some a else (some a).map (·.add (i * 14))) (j - i) (c - i)) ((l.drop i).take (j - i)) := by
  have hL : ((l.drop i).take (j - i)).length = j - i := by rw [List.length_take, List.length_drop]; omega
  refine ⟨fun t ht => h0 t (List.mem_of_mem_drop (List.mem_of_mem_take ht)), Or.inr ⟨if c = i then a else a.add (i * 14), c - i, ?_, by omega, by omega, fun k hk m hm => ?_⟩⟩
  · rw [hL]; split <;> simp
  · rw [hL] at hk
    have hci : ¬ c = i := by omega
    rw [if_neg hci]
    have e : ∀ m, (a.add (i * 14)).add m = a.add (i * 14 + m) := fun m => by
      by_cases hi : i = 0
      · subst hi; simp [add_zero']
      · exact add_add' a (i * 14) m (by omega)
    have hx : ((l.drop i).take (j - i))[k]'(by rw [hL]; exact hk) = l[i + k]'(by omega) := by simp [List.getElem_take, List.getElem_drop]
    rw [hx, e]
    have q := h3 (i + k) (by omega) m hm
    rw [show i * 14 + (k * 14 + m) = (i + k) * 14 + m from by omega]
    exact q
theorem info_ten : (Tryd.prog.info? 40).map (fun i => (i.zero, i.size, i.bytes)) = some (some (.agg #[.string ByteArray.empty, .string ByteArray.empty, .int .u8 0, .int .u8 0, .int .u8 0, .int .u8 0, .int .i64 0, .int .i64 0, .int .i64 0, .slice none 0 0, .int .i64 0, .int .i64 0, .int .i64 0, .int .i64 0]), 14, 120) := by kernel_rfl
theorem size_ten : ∀ w, (Go.sizeOf 40).run Tryd.prog w = .ok 14 w := fun w => by
  obtain ⟨i0, hi, hz0, hz1, hz2⟩ := info_parts info_ten
  simp [Go.sizeOf, typeInfo, hi, hz1]
theorem elem_ten : Tryd.prog.elem 24 = 40 := by simp [Program.elem, Tryd.underlying24]
theorem under_tens : Tryd.prog.underlying 24 = some (.slice (Tryd.prog.elem 24)) := by rw [elem_ten]; exact Tryd.underlying24
theorem tens_l {w : World} {v : Value} {l : List Tn} (h : TensIs w v l) (i : Nat) (hi : i ≤ l.length) :
    ∃ p n c, n = l.length - i ∧ (∀ W, (Instr.slice 24 v (some (.int .i64 (i : Int))) none none).run Tryd.prog W = .ok (.slice p n c) W) ∧ TensIs w (.slice p n c) (l.drop i) := by
  have h0 := h.1
  rcases h.2 with ⟨rfl, rfl⟩ | ⟨a, c, rfl, h1, h2, h3⟩
  · obtain rfl : i = 0 := by simpa using hi
    refine ⟨none, 0, 0, rfl, fun W => ?_, TensIs.nil _⟩
    rw [run_slice_l W 24 none 0 0 under_tens .i64 _ (by omega) (by omega), elem_ten, size_ten]
    rfl
  · have hb := tens_sub h0 h1 h2 h3 i l.length hi (Nat.le_refl _)
    rw [List.take_of_length_le (by simp)] at hb
    refine ⟨_, _, _, rfl, fun W => ?_, hb⟩
    rw [run_slice_l W 24 (some a) l.length c under_tens .i64 _ (by omega) (by omega), elem_ten, size_ten]
    simp [Result.andThen, sliced]
theorem tens_h {w : World} {v : Value} {l : List Tn} (h : TensIs w v l) (j : Nat) (hj : j ≤ l.length) :
    ∃ p n c, n = j ∧ (∀ W, (Instr.slice 24 v none (some (.int .i64 (j : Int))) none).run Tryd.prog W = .ok (.slice p n c) W) ∧ TensIs w (.slice p n c) (l.take j) := by
  have h0 := h.1
  rcases h.2 with ⟨rfl, rfl⟩ | ⟨a, c, rfl, h1, h2, h3⟩
  · obtain rfl : j = 0 := by simpa using hj
    refine ⟨none, 0, 0, rfl, fun W => ?_, TensIs.nil _⟩
    rw [run_slice_h W 24 none 0 0 under_tens .i64 _ (by omega) (by omega), elem_ten, size_ten]
    rfl
  · have hb := tens_sub h0 h1 h2 h3 0 j (Nat.zero_le _) hj
    rw [List.drop_zero, Nat.sub_zero] at hb
    refine ⟨_, _, _, rfl, fun W => ?_, hb⟩
    rw [run_slice_h W 24 (some a) l.length c under_tens .i64 _ (by omega) (by omega), elem_ten, size_ten]
    simp [Result.andThen, sliced]

/-! ### tenants of one's own -/
def OwnTens (base : Nat) (w : World) (v : Value) (l : List Tn) : Prop := w.ownsRow base 40 14 v l.length (flatT l)
theorem OwnTens.nil (base : Nat) (w : World) : OwnTens base w (.slice none 0 0) [] := World.ownsRow_nil _ _ _ _
theorem OwnTens.tens {base : Nat} {w : World} {v : Value} {l : List Tn} (h : OwnTens base w v l) (hr : RulesOf w l) : TensIs w v l := by
  refine ⟨hr, ?_⟩
  rcases h.2 with ⟨rfl, h'⟩ | ⟨g, cap, cur, rfl, hg, hh, hn, hm, _⟩
  · exact Or.inl ⟨rfl, List.length_eq_zero_iff.1 h'⟩
  · exact Or.inr ⟨⟨g, 0, none⟩, cap, rfl, hn, hm, tens_flat (World.ownsRow.cells h (g := g) rfl)⟩
theorem OwnTens.form {base : Nat} {w : World} {v : Value} {l : List Tn} (h : OwnTens base w v l) : ∃ p n c, v = .slice p n c ∧ n = l.length := by
  rcases h.2 with ⟨rfl, h'⟩ | ⟨g, cap, cur, rfl, hg, hh, hn, hm, _⟩
  · exact ⟨none, 0, 0, rfl, h'.symm⟩
  · exact ⟨_, _, _, rfl, rfl⟩
theorem OwnTens.other {base : Nat} {w : World} {v : Value} {l : List Tn} (h : OwnTens base w v l) {a : Addr} (ha : a.block < base) (u : Value) : OwnTens base (w.setCell a u) v l := own_other h ha u
theorem OwnTens.kept {base : Nat} {w w' : World} {v : Value} {l : List Tn} (h : OwnTens base w v l) (hb : Below w.heap.size w w') : OwnTens base w' v l := by
  refine ⟨h.1, ?_⟩
  rcases h.2 with h' | ⟨g, cap, cur, rfl, hg, hh, hr⟩
  · exact Or.inl h'
  · exact Or.inr ⟨g, cap, cur, rfl, hg, by rw [hb.block g (lt_of_block hh)]; exact hh, hr⟩
theorem OwnTens.alloc {base : Nat} {w : World} {v : Value} {l : List Tn} (h : OwnTens base w v l) (o : Obj) : OwnTens base (w.alloc o) v l := h.kept ((Below.refl _ _).alloc (Nat.le_refl _) o)
theorem OwnTens.ge {base : Nat} {w : World} {v : Value} {l : List Tn} (h : OwnTens base w v l) : ∀ k, v.ownBlock = some k → base ≤ k := fun k hk => (World.ownsRow.lt h k hk).1

/-- append(x, y...), x tenants of one's own, y any tenants -/
theorem run_append_tens {w : World} {base : Nat} {v : Value} {l1 : List Tn} (hown : OwnTens base w v l1) {u : Value} {l2 : List Tn} (hu : TensIs w u l2) (hlim : l1.length + l2.length ≤ 1000000) (hbase : base ≤ w.heap.size) (ty : TypeId) :
    ∃ v' w', (Builtin.append_ #[24, 24] ty #[v, u]).run Tryd.prog w = .ok v' w' ∧ OwnTens base w' v' (l1 ++ l2) ∧ w.grownBy w' v.ownBlock ∧ (v'.ownBlock = v.ownBlock ∨ v'.ownBlock = some w.heap.size) := by
  obtain ⟨i0, hi, hz0, hz1, hz2⟩ := info_parts info_ten
  have hone := flatT_one (l := l2) (fun t ht => rules_one (hu.1 t ht))
  rcases hu.2 with ⟨rfl, rfl⟩ | ⟨ad, c, rfl, h1, h2, h3⟩
  · refine ⟨v, w, run_append_owned_none (P := Tryd.prog) (w := w) base 24 ty 40 i0 14 Tryd.underlying24 hi v l1.length (flatT l1) hown, by simpa using hown, ⟨rfl, rfl, rfl, Nat.le_refl _, fun _ _ _ => rfl⟩, Or.inl rfl⟩
  · obtain ⟨v', w', hr, k1, k2, _, k3⟩ := run_append_own_at (P := Tryd.prog) w base 24 ty 40 i0 _ 14 120 Tryd.underlying24 hi hz0 hz1 hz2 rfl (by decide) v l1.length (flatT l1) hown ad l2.length c (flatT l2) (flatT_length l2) h3.flat hone (by unfold maxLen; omega) (by omega) hbase
    refine ⟨v', w', hr, ?_, k2, k3⟩
    unfold OwnTens
    rw [List.length_append, flatT_append]
    exact k1
theorem wp_append_tens {w : World} {o : Oper} {a : Act} {K : Act → World → Prop} {Q : Exit → Act → World → Prop} (s x : Operand)
    (ho : o.op = .call { callee := .builtin .append, args := #[s, x], argTypes := #[24, 24] })
    (base : Nat) (v : Value) (l1 : List Tn) (hs : a.eval s = v) (hown : OwnTens base w v l1) (u : Value) (l2 : List Tn) (hx : a.eval x = u) (hu : TensIs w u l2) (hlim : l1.length + l2.length ≤ 1000000) (hbase : base ≤ w.heap.size)
    (h : ∀ v' w', OwnTens base w' v' (l1 ++ l2) → w.grownBy w' v.ownBlock → (v'.ownBlock = v.ownBlock ∨ v'.ownBlock = some w.heap.size) → K (a.put o.dst v') w') : Oper.wp Tryd.prog o a w K Q := by
  obtain ⟨v', w', hr, h2, h3, h4⟩ := run_append_tens hown hu hlim hbase o.type
  unfold Oper.wp execOp
  simp only [ho, resolve, invoke, builtin, Sem.run_bind, Sem.run_pure, Result.andThen_ok, List.map_toArray, List.map_cons, List.map_nil, hs, hx, hr]
  exact h v' w' h2 h3 h4
theorem wpList_append_tens {w : World} {ops : Array Oper} {rest : List Oper} {o : Oper} {a : Act} {Q : Exit → Act → World → Prop} (hgd : o.guard = none) (s x : Operand)
    (ho : o.op = .call { callee := .builtin .append, args := #[s, x], argTypes := #[24, 24] })
    (base : Nat) (v : Value) (l1 : List Tn) (hs : a.eval s = v) (hown : OwnTens base w v l1) (u : Value) (l2 : List Tn) (hx : a.eval x = u) (hu : TensIs w u l2) (hlim : l1.length + l2.length ≤ 1000000) (hbase : base ≤ w.heap.size)
    (h : ∀ v' w', OwnTens base w' v' (l1 ++ l2) → w.grownBy w' v.ownBlock → (v'.ownBlock = v.ownBlock ∨ v'.ownBlock = some w.heap.size) → wpList Tryd.prog ops Q rest (a.put o.dst v') w') : wpList Tryd.prog ops Q (o :: rest) a w :=
  wpList_plain hgd fun _ hK => wp_append_tens s x ho base v l1 hs hown u l2 hx hu hlim hbase fun v' w' h2 h3 h4 => hK _ _ (h v' w' h2 h3 h4)
theorem step_append_tens {w : World} {ops : Array Oper} {o : Oper} {a : Act} {K : Act → World → Prop} {Q : Exit → Act → World → Prop} {E : Prop} (hgd : o.guard = none) (s x : Operand)
    (ho : o.op = .call { callee := .builtin .append, args := #[s, x], argTypes := #[24, 24] })
    (base : Nat) (v : Value) (l1 : List Tn) (hs : a.eval s = v) (hown : OwnTens base w v l1) (u : Value) (l2 : List Tn) (hx : a.eval x = u) (hu : TensIs w u l2) (hlim : l1.length + l2.length ≤ 1000000) (hbase : base ≤ w.heap.size)
    (h : ∀ v' w', OwnTens base w' v' (l1 ++ l2) → w.grownBy w' v.ownBlock → (v'.ownBlock = v.ownBlock ∨ v'.ownBlock = some w.heap.size) → K (a.put o.dst v') w') :
    if Region.wanted o (yielded ops a.tmps) = true then Oper.wp Tryd.prog o a w K Q else E := by
  have hw : Region.wanted o (yielded ops a.tmps) = true := by simp [Region.wanted, hgd]
  rw [if_pos hw]
  exact wp_append_tens s x ho base v l1 hs hown u l2 hx hu hlim hbase h

#print axioms step_append_tens
#print axioms TensIs.some
end Go.Proofs.YtmodmfkcigibpaaDoor.Co
