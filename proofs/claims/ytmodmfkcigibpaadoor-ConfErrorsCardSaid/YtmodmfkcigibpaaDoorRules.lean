/- Lists of rules (api.Rule) in memory: what a slice of them reads as; pieces of it; one that a call made itself; append onto that. -/
import Derived.Test.YtmodmfkcigibpaaDoorPlains
import Derived.Test.YtmodmfkcigibpaaDoorBytes
import Derived.Maps.AppendAt
import Derived.OwnWalk
import Derived.RegionTactic
import Derived.Lib.Hide
namespace Go.Proofs.YtmodmfkcigibpaaDoor.Ac
open Go.Proofs.YtmodmfkcigibpaaDoor
open Go Go.ChangeShapes Go.WideShapes Go.ChangeAt Go.RowKit
set_option maxRecDepth 100000

abbrev ruleCs (r : Rl) : List Value := [.bool r.a, .string ⟨r.v.toArray⟩, .string ⟨r.p.toArray⟩]
abbrev ruleV (r : Rl) : Value := .agg #[.bool r.a, .string ⟨r.v.toArray⟩, .string ⟨r.p.toArray⟩]
def flatR (l : List Rl) : List Value := l.flatMap ruleCs
theorem flatR_append (l m : List Rl) : flatR (l ++ m) = flatR l ++ flatR m := List.flatMap_append
theorem flatR_length : ∀ l : List Rl, (flatR l).length = l.length * 3
  | [] => rfl
  | r :: l => by
    have := flatR_length l
    show (ruleCs r ++ flatR l).length = (l.length + 1) * 3
    rw [List.length_append, this]
    show 3 + l.length * 3 = _
    omega
theorem flat3 : ∀ (l : List Rl) (i : Nat) (h : i < l.length), (flatR l)[i * 3]? = some (.bool l[i].a) ∧ (flatR l)[i * 3 + 1]? = some (.string ⟨l[i].v.toArray⟩) ∧ (flatR l)[i * 3 + 2]? = some (.string ⟨l[i].p.toArray⟩)
  | x :: r, 0, _ => ⟨rfl, rfl, rfl⟩
  | x :: r, i + 1, h => by
    have := flat3 r i (by simpa using h)
    rw [show (i + 1) * 3 = i * 3 + 3 from by omega]
    exact this
theorem flat_one {l : List Rl} : ∀ u ∈ flatR l, u.oneCell' = true := by
  intro u hu
  obtain ⟨r, _, hr⟩ := List.mem_flatMap.1 hu
  simp only [ruleCs, List.mem_cons, List.mem_nil_iff, or_false] at hr
  rcases hr with rfl | rfl | rfl <;> rfl

/-- the cells of the rules l lie from a on -/
def RulesAt (w : World) (a : Addr) (l : List Rl) : Prop :=
  ∀ i (h : i < l.length), w.cell? (a.add (i * 3)) = some (.bool l[i].a) ∧ w.cell? (a.add (i * 3 + 1)) = some (.string ⟨l[i].v.toArray⟩) ∧ w.cell? (a.add (i * 3 + 2)) = some (.string ⟨l[i].p.toArray⟩)
/-- the slice v reads as the rules l -/
def RulesIs (w : World) (v : Value) (l : List Rl) : Prop :=
  (v = .slice none 0 0 ∧ l = []) ∨ ∃ a c, v = .slice (some a) l.length c ∧ l.length ≤ c ∧ c ≤ maxLen ∧ RulesAt w a l
theorem RulesAt.lt {w : World} {a : Addr} {l : List Rl} (h : RulesAt w a l) (hp : 0 < l.length) : a.block < w.heap.size := by
  have := World.block_lt_of_cell? w _ (h 0 hp).1
  rwa [add_block] at this
theorem RulesAt.keep {w w' : World} {a : Addr} {l : List Rl} (h : RulesAt w a l) (hk : ∀ p : Addr, p.block < w.heap.size → w'.cell? p = w.cell? p) : RulesAt w' a l := by
  intro i hi
  have hb := h.lt (by omega)
  obtain ⟨q0, q1, q2⟩ := h i hi
  exact ⟨by rw [hk _ (by rw [add_block]; exact hb)]; exact q0, by rw [hk _ (by rw [add_block]; exact hb)]; exact q1, by rw [hk _ (by rw [add_block]; exact hb)]; exact q2⟩
theorem RulesIs.nil (w : World) : RulesIs w (.slice none 0 0) [] := Or.inl ⟨rfl, rfl⟩
theorem RulesIs.call {w w' : World} {v : Value} {l : List Rl} (h : RulesIs w v l) (hb : Below w.heap.size w w') : RulesIs w' v l := by
  rcases h with h | ⟨a, c, rfl, h1, h2, h3⟩
  · exact Or.inl h
  · exact Or.inr ⟨a, c, rfl, h1, h2, h3.keep fun p hp => hb.cell hp⟩
theorem RulesIs.alloc {w : World} {v : Value} {l : List Rl} (h : RulesIs w v l) (o : Obj) : RulesIs (w.alloc o) v l := h.call ((Below.refl _ _).alloc (Nat.le_refl _) o)
theorem RulesIs.drew {w : World} {v : Value} {l : List Rl} (h : RulesIs w v l) : RulesIs w.drew v l := h
theorem RulesIs.form {w : World} {v : Value} {l : List Rl} (h : RulesIs w v l) : ∃ p n c, v = .slice p n c ∧ n = l.length := by
  rcases h with ⟨rfl, rfl⟩ | ⟨a, c, rfl, _⟩
  · exact ⟨none, 0, 0, rfl, rfl⟩
  · exact ⟨some a, _, c, rfl, rfl⟩
theorem RulesIs.max {w : World} {v : Value} {l : List Rl} (h : RulesIs w v l) : l.length ≤ 9223372036854775807 := by
  rcases h with ⟨_, rfl⟩ | ⟨a, c, _, h1, h2, _⟩
  · exact Nat.zero_le _
  · unfold maxLen at h2; omega
/-- a list that has rules has a plain address, and they lie there -/
theorem RulesIs.some {w : World} {p : Option Addr} {n c : Nat} {l : List Rl} (h : RulesIs w (.slice p n c) l) (hne : 0 < l.length) :
    ∃ b o, p = some ⟨b, o, none⟩ ∧ b < w.heap.size ∧ ∀ i (h : i < l.length), w.cell? ⟨b, o + i * 3, none⟩ = some (.bool l[i].a) ∧ w.cell? ⟨b, o + i * 3 + 1, none⟩ = some (.string ⟨l[i].v.toArray⟩) ∧ w.cell? ⟨b, o + i * 3 + 2, none⟩ = some (.string ⟨l[i].p.toArray⟩) := by
  rcases h with ⟨_, h⟩ | ⟨a, c', e, _, _, h3⟩
  · rw [h] at hne; exact absurd hne (by decide)
  · injection e with e1 e2 e3
    subst e1
    have hl := h3.lt hne
    have h0 := (h3 0 hne).1
    have ha : a = ⟨a.block, a.off, none⟩ := by
      have := World.cell?_spot h0
      rw [Nat.zero_mul, add_zero'] at this
      cases a
      simp_all
    refine ⟨a.block, a.off, by rw [← ha], hl, fun i hi => ?_⟩
    have e : ∀ k, a.add k = ⟨a.block, a.off + k, none⟩ := by
      intro k
      generalize hb : a.block = b at *
      generalize ho : a.off = o at *
      rw [ha]; unfold Addr.add; split <;> simp_all
    have := h3 i hi
    rw [e, e, e] at this
    exact this
theorem RulesAt.flat {w : World} {a : Addr} {l : List Rl} (h : RulesAt w a l) : ∀ j u, (flatR l)[j]? = some u → w.cell? (a.add j) = some u := by
  intro j u hj
  have hl : j < l.length * 3 := by rw [← flatR_length]; exact (List.getElem?_eq_some_iff.1 hj).1
  have hi : j / 3 < l.length := by omega
  obtain ⟨q0, q1, q2⟩ := h (j / 3) hi
  obtain ⟨k0, k1, k2⟩ := flat3 l (j / 3) hi
  have h3 : j % 3 = 0 ∨ j % 3 = 1 ∨ j % 3 = 2 := by omega
  rcases h3 with h3 | h3 | h3
  · rw [show j / 3 * 3 = j from by omega] at q0 k0
    rw [hj] at k0; rw [q0, ← k0]
  · rw [show j / 3 * 3 + 1 = j from by omega] at q1 k1
    rw [hj] at k1; rw [q1, ← k1]
  · rw [show j / 3 * 3 + 2 = j from by omega] at q2 k2
    rw [hj] at k2; rw [q2, ← k2]
theorem rules_flat {w : World} {a : Addr} {l : List Rl} (h : ∀ j u, (flatR l)[j]? = some u → w.cell? (a.add j) = some u) : RulesAt w a l := by
  intro i hi
  obtain ⟨k0, k1, k2⟩ := flat3 l i hi
  exact ⟨h _ _ k0, h _ _ k1, h _ _ k2⟩

/-! ### pieces -/
theorem rules_sub {w : World} {a : Addr} {c : Nat} {l : List Rl} (h1 : l.length ≤ c) (h2 : c ≤ maxLen) (h3 : RulesAt w a l) (i j : Nat) (hij : i ≤ j) (hj : j ≤ l.length) :
    RulesIs w (.slice (if c = i then some a else (some a).map (·.add (i * 3))) (j - i) (c - i)) ((l.drop i).take (j - i)) := by
  have hL : ((l.drop i).take (j - i)).length = j - i := by rw [List.length_take, List.length_drop]; omega
  refine Or.inr ⟨if c = i then a else a.add (i * 3), c - i, ?_, by omega, by omega, fun k hk => ?_⟩
  · rw [hL]; split <;> simp
  · rw [hL] at hk
    have hci : ¬ c = i := by omega
    rw [if_neg hci]
    have e : ∀ m, (a.add (i * 3)).add m = a.add (i * 3 + m) := fun m => by
      by_cases hi : i = 0
      · subst hi; simp [add_zero']
      · exact add_add' a (i * 3) m (by omega)
    have hx : ((l.drop i).take (j - i))[k]'(by rw [hL]; exact hk) = l[i + k]'(by omega) := by simp [List.getElem_take, List.getElem_drop]
    rw [hx, e, e, e]
    obtain ⟨q0, q1, q2⟩ := h3 (i + k) (by omega)
    rw [show i * 3 + k * 3 = (i + k) * 3 from by omega, show i * 3 + (k * 3 + 1) = (i + k) * 3 + 1 from by omega, show i * 3 + (k * 3 + 2) = (i + k) * 3 + 2 from by omega]
    exact ⟨q0, q1, q2⟩
theorem info_rule : (Tryd.prog.info? 44).map (fun i => (i.zero, i.size, i.bytes)) = some (some (.agg #[.bool false, .string ByteArray.empty, .string ByteArray.empty]), 3, 40) := by kernel_rfl
theorem size_rule : ∀ w, (Go.sizeOf 44).run Tryd.prog w = .ok 3 w := fun w => by
  obtain ⟨i0, hi, hz0, hz1, hz2⟩ := info_parts info_rule
  simp [Go.sizeOf, typeInfo, hi, hz1]
theorem elem_rule : Tryd.prog.elem 38 = 44 := by simp [Program.elem, Tryd.underlying38]
theorem under_rules : Tryd.prog.underlying 38 = some (.slice (Tryd.prog.elem 38)) := by rw [elem_rule]; exact Tryd.underlying38
theorem rules_l {w : World} {v : Value} {l : List Rl} (h : RulesIs w v l) (i : Nat) (hi : i ≤ l.length) :
    ∃ p n c, n = l.length - i ∧ (∀ W, (Instr.slice 38 v (some (.int .i64 (i : Int))) none none).run Tryd.prog W = .ok (.slice p n c) W) ∧ RulesIs w (.slice p n c) (l.drop i) := by
  rcases h with ⟨rfl, rfl⟩ | ⟨a, c, rfl, h1, h2, h3⟩
  · obtain rfl : i = 0 := by simpa using hi
    refine ⟨none, 0, 0, rfl, fun W => ?_, Or.inl ⟨rfl, rfl⟩⟩
    rw [run_slice_l W 38 none 0 0 under_rules .i64 _ (by omega) (by omega), elem_rule, size_rule]
    rfl
  · have hb := rules_sub h1 h2 h3 i l.length hi (Nat.le_refl _)
    rw [List.take_of_length_le (by simp)] at hb
    refine ⟨_, _, _, rfl, fun W => ?_, hb⟩
    rw [run_slice_l W 38 (some a) l.length c under_rules .i64 _ (by omega) (by omega), elem_rule, size_rule]
    simp [Result.andThen, sliced]
theorem rules_h {w : World} {v : Value} {l : List Rl} (h : RulesIs w v l) (j : Nat) (hj : j ≤ l.length) :
    ∃ p n c, n = j ∧ (∀ W, (Instr.slice 38 v none (some (.int .i64 (j : Int))) none).run Tryd.prog W = .ok (.slice p n c) W) ∧ RulesIs w (.slice p n c) (l.take j) := by
  rcases h with ⟨rfl, rfl⟩ | ⟨a, c, rfl, h1, h2, h3⟩
  · obtain rfl : j = 0 := by simpa using hj
    refine ⟨none, 0, 0, rfl, fun W => ?_, Or.inl ⟨rfl, rfl⟩⟩
    rw [run_slice_h W 38 none 0 0 under_rules .i64 _ (by omega) (by omega), elem_rule, size_rule]
    rfl
  · have hb := rules_sub h1 h2 h3 0 j (Nat.zero_le _) hj
    rw [List.drop_zero, Nat.sub_zero] at hb
    refine ⟨_, _, _, rfl, fun W => ?_, hb⟩
    rw [run_slice_h W 38 (some a) l.length c under_rules .i64 _ (by omega) (by omega), elem_rule, size_rule]
    simp [Result.andThen, sliced]

/-! ### rules of one's own -/
/-- what a call made itself, from base on -/
def OwnRules (base : Nat) (w : World) (v : Value) (l : List Rl) : Prop := w.ownsRow base 44 3 v l.length (flatR l)
theorem OwnRules.nil (base : Nat) (w : World) : OwnRules base w (.slice none 0 0) [] := World.ownsRow_nil _ _ _ _
theorem OwnRules.rules {base : Nat} {w : World} {v : Value} {l : List Rl} (h : OwnRules base w v l) : RulesIs w v l := by
  rcases h.2 with ⟨rfl, h'⟩ | ⟨g, cap, cur, rfl, hg, hh, hn, hm, _⟩
  · exact Or.inl ⟨rfl, List.length_eq_zero_iff.1 h'⟩
  · exact Or.inr ⟨⟨g, 0, none⟩, cap, rfl, hn, hm, rules_flat (World.ownsRow.cells h (g := g) rfl)⟩
theorem OwnRules.kept {base : Nat} {w w' : World} {v : Value} {l : List Rl} (h : OwnRules base w v l) (hb : Below w.heap.size w w') : OwnRules base w' v l := by
  refine ⟨h.1, ?_⟩
  rcases h.2 with h' | ⟨g, cap, cur, rfl, hg, hh, hr⟩
  · exact Or.inl h'
  · exact Or.inr ⟨g, cap, cur, rfl, hg, by rw [hb.block g (lt_of_block hh)]; exact hh, hr⟩
theorem OwnRules.alloc {base : Nat} {w : World} {v : Value} {l : List Rl} (h : OwnRules base w v l) (o : Obj) : OwnRules base (w.alloc o) v l := h.kept ((Below.refl _ _).alloc (Nat.le_refl _) o)
theorem OwnRules.drew {base : Nat} {w : World} {v : Value} {l : List Rl} (h : OwnRules base w v l) : OwnRules base w.drew v l := h
theorem OwnRules.ge {base : Nat} {w : World} {v : Value} {l : List Rl} (h : OwnRules base w v l) : ∀ k, v.ownBlock = some k → base ≤ k := fun k hk => (World.ownsRow.lt h k hk).1
theorem OwnRules.form {base : Nat} {w : World} {v : Value} {l : List Rl} (h : OwnRules base w v l) : ∃ p n c, v = .slice p n c ∧ n = l.length := h.rules.form
/-- one rule in a new block -/
theorem own_lit {base : Nat} {w : World} (r : Rl) (hb : base ≤ w.heap.size) : OwnRules base (w.alloc (.cells #[.bool r.a, .string ⟨r.v.toArray⟩, .string ⟨r.p.toArray⟩] 44)) (.slice (some ⟨w.heap.size, 0, none⟩) 1 1) [r] :=
  World.ownsRow_lit w #[.bool r.a, .string ⟨r.v.toArray⟩, .string ⟨r.p.toArray⟩] 1 hb (by unfold maxLen; omega) rfl
/-- what lies below a row's base stays as the row grows -/
theorem RulesIs.grown {w w' : World} {v : Value} {l : List Rl} {row : Option Nat} (h : RulesIs w v l) (hg : w.grownBy w' row) (hne : ∀ p n c, v = .slice (Option.some p) n c → 0 < l.length → Option.some p.block ≠ row) : RulesIs w' v l := by
  rcases h with h | ⟨a, c, rfl, h1, h2, h3⟩
  · exact Or.inl h
  · refine Or.inr ⟨a, c, rfl, h1, h2, fun i hi => ?_⟩
    have hb := h3.lt (by omega)
    have hn := hne a _ c rfl (by omega)
    have k : ∀ m, w'.cell? (a.add m) = w.cell? (a.add m) := fun m => World.cell?_of_block (by rw [add_block]; exact hg.block _ hb hn)
    rw [k, k, k]
    exact h3 i hi

/-- what lay there ahead of a new block stays as that grows -/
theorem RulesIs.past {w w' : World} {v : Value} {l : List Rl} {o : Obj} (h : RulesIs w v l) (hg : (w.alloc o).grownBy w' (Option.some w.heap.size)) : RulesIs w' v l :=
  (h.alloc o).grown hg fun p n c hv hp e => by
    rcases h with ⟨rfl, rfl⟩ | ⟨a, c', rfl, _, _, h3⟩
    · exact absurd hp (by decide)
    · injection hv with e1
      injection e1 with e1
      subst e1
      have := h3.lt hp
      injection e with e
      omega

/-- append(x, y...), x rules of one's own, y any rules -/
theorem run_append_rules {w : World} {base : Nat} {v : Value} {l1 : List Rl} (hown : OwnRules base w v l1) {u : Value} {l2 : List Rl} (hu : RulesIs w u l2) (hlim : l1.length + l2.length ≤ 1000000) (hbase : base ≤ w.heap.size) (ty : TypeId) :
    ∃ v' w', (Builtin.append_ #[38, 38] ty #[v, u]).run Tryd.prog w = .ok v' w' ∧ OwnRules base w' v' (l1 ++ l2) ∧ w.grownBy w' v.ownBlock ∧ (v'.ownBlock = v.ownBlock ∨ v'.ownBlock = some w.heap.size) := by
  obtain ⟨i0, hi, hz0, hz1, hz2⟩ := info_parts info_rule
  rcases hu with ⟨rfl, rfl⟩ | ⟨ad, c, rfl, h1, h2, h3⟩
  · refine ⟨v, w, run_append_owned_none (P := Tryd.prog) (w := w) base 38 ty 44 i0 3 Tryd.underlying38 hi v l1.length (flatR l1) hown, by simpa using hown, ⟨rfl, rfl, rfl, Nat.le_refl _, fun _ _ _ => rfl⟩, Or.inl rfl⟩
  · obtain ⟨v', w', hr, k1, k2, _, k3⟩ := run_append_own_at (P := Tryd.prog) w base 38 ty 44 i0 _ 3 40 Tryd.underlying38 hi hz0 hz1 hz2 rfl (by decide) v l1.length (flatR l1) hown ad l2.length c (flatR l2) (flatR_length l2) h3.flat flat_one (by unfold maxLen; omega) (by omega) hbase
    refine ⟨v', w', hr, ?_, k2, k3⟩
    unfold OwnRules
    rw [List.length_append, flatR_append]
    exact k1
theorem wp_append_rules {w : World} {o : Oper} {a : Act} {K : Act → World → Prop} {Q : Exit → Act → World → Prop} (s x : Operand)
    (ho : o.op = .call { callee := .builtin .append, args := #[s, x], argTypes := #[38, 38] })
    (base : Nat) (v : Value) (l1 : List Rl) (hs : a.eval s = v) (hown : OwnRules base w v l1) (u : Value) (l2 : List Rl) (hx : a.eval x = u) (hu : RulesIs w u l2) (hlim : l1.length + l2.length ≤ 1000000) (hbase : base ≤ w.heap.size)
    (h : ∀ v' w', OwnRules base w' v' (l1 ++ l2) → w.grownBy w' v.ownBlock → (v'.ownBlock = v.ownBlock ∨ v'.ownBlock = some w.heap.size) → K (a.put o.dst v') w') : Oper.wp Tryd.prog o a w K Q := by
  obtain ⟨v', w', hr, h2, h3, h4⟩ := run_append_rules hown hu hlim hbase o.type
  unfold Oper.wp execOp
  simp only [ho, resolve, invoke, builtin, Sem.run_bind, Sem.run_pure, Result.andThen_ok, List.map_toArray, List.map_cons, List.map_nil, hs, hx, hr]
  exact h v' w' h2 h3 h4
theorem wpList_append_rules {w : World} {ops : Array Oper} {rest : List Oper} {o : Oper} {a : Act} {Q : Exit → Act → World → Prop} (hgd : o.guard = none) (s x : Operand)
    (ho : o.op = .call { callee := .builtin .append, args := #[s, x], argTypes := #[38, 38] })
    (base : Nat) (v : Value) (l1 : List Rl) (hs : a.eval s = v) (hown : OwnRules base w v l1) (u : Value) (l2 : List Rl) (hx : a.eval x = u) (hu : RulesIs w u l2) (hlim : l1.length + l2.length ≤ 1000000) (hbase : base ≤ w.heap.size)
    (h : ∀ v' w', OwnRules base w' v' (l1 ++ l2) → w.grownBy w' v.ownBlock → (v'.ownBlock = v.ownBlock ∨ v'.ownBlock = some w.heap.size) → wpList Tryd.prog ops Q rest (a.put o.dst v') w') : wpList Tryd.prog ops Q (o :: rest) a w :=
  wpList_plain hgd fun _ hK => wp_append_rules s x ho base v l1 hs hown u l2 hx hu hlim hbase fun v' w' h2 h3 h4 => hK _ _ (h v' w' h2 h3 h4)
theorem step_append_rules {w : World} {ops : Array Oper} {o : Oper} {a : Act} {K : Act → World → Prop} {Q : Exit → Act → World → Prop} {E : Prop} (hgd : o.guard = none) (s x : Operand)
    (ho : o.op = .call { callee := .builtin .append, args := #[s, x], argTypes := #[38, 38] })
    (base : Nat) (v : Value) (l1 : List Rl) (hs : a.eval s = v) (hown : OwnRules base w v l1) (u : Value) (l2 : List Rl) (hx : a.eval x = u) (hu : RulesIs w u l2) (hlim : l1.length + l2.length ≤ 1000000) (hbase : base ≤ w.heap.size)
    (h : ∀ v' w', OwnRules base w' v' (l1 ++ l2) → w.grownBy w' v.ownBlock → (v'.ownBlock = v.ownBlock ∨ v'.ownBlock = some w.heap.size) → K (a.put o.dst v') w') :
    if Region.wanted o (yielded ops a.tmps) = true then Oper.wp Tryd.prog o a w K Q else E := by
  have hw : Region.wanted o (yielded ops a.tmps) = true := by simp [Region.wanted, hgd]
  rw [if_pos hw]
  exact wp_append_rules s x ho base v l1 hs hown u l2 hx hu hlim hbase h

#print axioms step_append_rules
#print axioms RulesIs.some
end Go.Proofs.YtmodmfkcigibpaaDoor.Ac
