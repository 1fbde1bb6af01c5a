/- Lists of lines (api.Line) in memory: a slice holds such a list; kept by every call that only makes memory; append. -/
import Derived.Test.YtampgoicogfccaaBytes
import Derived.Laws.StructEq
import Derived.Laws.Small
namespace Go.Proofs.Ytampgoicogfccaa
open Go.ChangeShapes Go.WideShapes Go.ChangeAt Go.RowKit

/-- a line's two cells -/
abbrev lineCs (x : List UInt8 × Bool) : List Value := [.string ⟨x.1.toArray⟩, .bool x.2]
/-- the slice v holds the lines l -/
def LinesIs (w : World) (v : Value) (l : List (List UInt8 × Bool)) : Prop :=
  (v = .slice none 0 0 ∧ l = []) ∨ ∃ a c, v = .slice (some a) l.length c ∧ l.length ≤ c ∧ c ≤ maxLen ∧ ∀ j u, (l.flatMap lineCs)[j]? = some u → w.cell? (a.add j) = some u

theorem line_cells : Try.prog.cellsOf 37 = 2 := by kernel_rfl
theorem flat_length : ∀ (l : List (List UInt8 × Bool)), (l.flatMap lineCs).length = l.length * 2
  | [] => rfl
  | x :: r => by simp only [List.flatMap_cons, List.length_append, List.length_cons, List.length_nil, flat_length r]; omega
theorem flat_text : ∀ (l : List (List UInt8 × Bool)) (i : Nat) (h : i < l.length), (l.flatMap lineCs)[2 * i]? = some (.string ⟨l[i].1.toArray⟩)
  | x :: r, 0, _ => rfl
  | x :: r, i + 1, h => by
    rw [show 2 * (i + 1) = 2 * i + 2 from by omega]
    exact flat_text r i (by simpa using h)
theorem flat_over : ∀ (l : List (List UInt8 × Bool)) (i : Nat) (h : i < l.length), (l.flatMap lineCs)[2 * i + 1]? = some (.bool l[i].2)
  | x :: r, 0, _ => rfl
  | x :: r, i + 1, h => by
    rw [show 2 * (i + 1) + 1 = 2 * i + 1 + 2 from by omega]
    exact flat_over r i (by simpa using h)
theorem flat_one (l : List (List UInt8 × Bool)) : ∀ u ∈ l.flatMap lineCs, u.oneCell' = true := by
  intro u hu
  obtain ⟨x, _, hx⟩ := List.mem_flatMap.1 hu
  simp only [List.mem_cons, List.mem_nil_iff, or_false] at hx
  rcases hx with rfl | rfl <;> rfl

theorem LinesIs.nil (w : World) : LinesIs w (.slice none 0 0) [] := Or.inl ⟨rfl, rfl⟩
theorem LinesIs.call {w w' : World} {v : Value} {l : List (List UInt8 × Bool)} (h : LinesIs w v l) (hb : Below w.heap.size w w') : LinesIs w' v l := by
  rcases h with h | ⟨a, c, rfl, h1, h2, h3⟩
  · exact Or.inl h
  · refine Or.inr ⟨a, c, rfl, h1, h2, fun j u hj => ?_⟩
    have := h3 j u hj
    rw [hb.cell (World.block_lt_of_cell? w _ this)]; exact this
theorem LinesIs.form {w : World} {v : Value} {l : List (List UInt8 × Bool)} (h : LinesIs w v l) : ∃ p c, v = .slice p l.length c := by
  rcases h with ⟨rfl, rfl⟩ | ⟨a, c, rfl, _⟩
  · exact ⟨none, 0, rfl⟩
  · exact ⟨some a, c, rfl⟩
/-- the cells of one of them -/
theorem lines_some {w : World} {p : Option Addr} {n c : Nat} {l : List (List UInt8 × Bool)} (h : LinesIs w (.slice p n c) l) (hne : l ≠ []) :
    ∃ b o, p = some ⟨b, o, none⟩ ∧ b < w.heap.size ∧ ∀ i (h : i < l.length), w.cell? ⟨b, o + i * 2, none⟩ = some (.string ⟨l[i].1.toArray⟩) ∧ w.cell? ⟨b, o + i * 2 + 1, none⟩ = some (.bool l[i].2) := by
  rcases h with ⟨_, h⟩ | ⟨a, c', e, _, _, h3⟩
  · exact absurd h hne
  · injection e with e1 e2 e3
    subst e1
    have hp : 0 < l.length := List.length_pos_iff.2 hne
    have h0 := h3 0 _ (flat_text l 0 hp)
    have hc := World.block_lt_of_cell? w _ h0
    have ha : a = ⟨a.block, a.off, none⟩ := by
      have := World.cell?_spot h0
      rw [add_zero'] at this
      cases a
      simp_all
    rw [add_block] at hc
    refine ⟨a.block, a.off, by rw [← ha], hc, fun i hi => ?_⟩
    have e : ∀ j, a.add j = ⟨a.block, a.off + j, none⟩ := fun j => by
      generalize hb : a.block = b at *
      generalize ho : a.off = o at *
      rw [ha]; unfold Addr.add; split <;> simp_all
    have t := h3 _ _ (flat_text l i hi)
    have q := h3 _ _ (flat_over l i hi)
    rw [e, Nat.mul_comm] at t
    rw [e, Nat.mul_comm] at q
    exact ⟨t, q⟩
theorem lines_of_own {w : World} {base : Nat} {v : Value} {l : List (List UInt8 × Bool)} (h : w.ownsRow base 37 2 v l.length (l.flatMap lineCs)) : LinesIs w v l := by
  have h0 := h
  rcases h.2 with ⟨rfl, hn⟩ | ⟨g, cap, cur, rfl, _, _, hn, hm, _, _⟩
  · exact Or.inl ⟨rfl, List.length_eq_zero_iff.1 hn⟩
  · refine Or.inr ⟨⟨g, 0, none⟩, cap, rfl, hn, hm, fun j u hj => ?_⟩
    have hjl := (List.getElem?_eq_some_iff.1 hj).1
    rw [flat_length] at hjl
    have e : (⟨g, 0, none⟩ : Addr).add j = ⟨g, j, none⟩ := by unfold Addr.add; split <;> simp_all
    rw [e, h0.cellAt j hjl]
    exact hj
theorem info_line : (Try.prog.info? 37).map (fun i => (i.zero, i.size, i.bytes)) = some (some (.agg #[.string ByteArray.empty, .bool false]), 2, 24) := by kernel_rfl
theorem lown_ge {w : World} {base : Nat} {e : TypeId} {v : Value} {n : Nat} {xs : List Value} (h : w.ownsRow base e 2 v n xs) : ∀ k, v.ownBlock = some k → base ≤ k := by
  intro k hk
  exact (h.lt k hk).1
theorem lown_form {w : World} {base : Nat} {e : TypeId} {v : Value} {n : Nat} {xs : List Value} (h : w.ownsRow base e 2 v n xs) : ∃ p c, v = .slice p n c := by
  rcases h.2 with ⟨rfl, rfl⟩ | ⟨g, cap, cur, rfl, _⟩
  · exact ⟨none, 0, rfl⟩
  · exact ⟨_, cap, rfl⟩
/-- a new block of one line -/
theorem line_new (wr : World) (x : List UInt8 × Bool) : LinesIs (wr.alloc (.cells #[.string ⟨x.1.toArray⟩, .bool x.2] 37)) (.slice (some ⟨wr.heap.size, 0, none⟩) 1 1) [x] := by
  refine Or.inr ⟨_, _, rfl, Nat.le_refl _, by show 1 ≤ maxLen; decide, fun j u hj => ?_⟩
  have e : (⟨wr.heap.size, 0, none⟩ : Addr).add j = ⟨wr.heap.size, j, none⟩ := by unfold Addr.add; split <;> simp_all
  rw [e, (IsRow.made wr 37 #[.string ⟨x.1.toArray⟩, .bool x.2]).cell j]
  simpa using hj

/-- append(x, y...), x a row of lines of its own, y any lines: a row of its own again -/
theorem wpList_append_lines {w : World} {ops : Array Oper} {rest : List Oper} {o : Oper} {a : Act} {Q : Exit → Act → World → Prop} (hgd : o.guard = none) (s x : Operand)
    (ho : o.op = .call { callee := .builtin .append, args := #[s, x], argTypes := #[26, 26] })
    (base : Nat) (v : Value) (l1 : List (List UInt8 × Bool)) (hs : a.eval s = v) (hown : w.ownsRow base 37 2 v l1.length (l1.flatMap lineCs))
    (u : Value) (l2 : List (List UInt8 × Bool)) (hx : a.eval x = u) (hu : LinesIs w u l2) (hlim : l1.length + l2.length ≤ 1000000000) (hbase : base ≤ w.heap.size)
    (h : ∀ v' w', w'.ownsRow base 37 2 v' (l1 ++ l2).length ((l1 ++ l2).flatMap lineCs) → w.grownBy w' v.ownBlock → wpList Try.prog ops Q rest (a.put o.dst v') w') : wpList Try.prog ops Q (o :: rest) a w := by
  obtain ⟨i0, hi, hz0, hz1, hz2⟩ := info_parts info_line
  rcases hu with ⟨rfl, rfl⟩ | ⟨ad, c, rfl, h1, h2, h3⟩
  · refine wpList_append_own_none hgd s x 26 ho base 37 i0 2 Try.underlying26 hi v l1.length (l1.flatMap lineCs) hs hown hx (h v w (by simpa using hown) ⟨rfl, rfl, rfl, Nat.le_refl _, fun _ _ _ => rfl⟩)
  · refine wpList_append_own w hgd s x 26 ho base 37 i0 (.agg #[.string ByteArray.empty, .bool false]) 2 24 Try.underlying26 hi hz0 hz1 hz2 rfl (by decide) v l1.length (l1.flatMap lineCs) hs hown ad l2.length c (l2.flatMap lineCs) hx (flat_length l2) h3 (flat_one l2) ?_ ?_ hbase ?_
    · unfold maxLen; omega
    · omega
    · intro v' w' hown' hg _
      exact h v' w' (by rw [List.length_append, List.flatMap_append]; exact hown') hg

theorem equal_pair {P : Program} (d : Nat) (t : TypeId) (f0 f1 : Field) (xs ys : Array Value) (x0 x1 y0 y1 : Value) (r0 r1 : Bool) (w : World)
    (hu : P.underlying t = some (.struct #[f0, f1])) (hp : P.stoodInHeld t = false) (n0 : (f0.name != "_") = true) (n1 : (f1.name != "_") = true)
    (p0 : ∀ w, (part f0.type xs f0.offset).run P w = .ok x0 w) (p1 : ∀ w, (part f1.type xs f1.offset).run P w = .ok x1 w)
    (q0 : ∀ w, (part f0.type ys f0.offset).run P w = .ok y0 w) (q1 : ∀ w, (part f1.type ys f1.offset).run P w = .ok y1 w)
    (e0 : ∀ w, (Op.equalIn d f0.type x0 y0).run P w = .ok r0 w) (e1 : ∀ w, (Op.equalIn d f1.type x1 y1).run P w = .ok r1 w) :
    (Op.equalIn (d + 1) t (.agg xs) (.agg ys)).run P w = .ok (r0 && r1) w := by
  have hf : P.fieldsOf t = #[f0, f1] := by unfold Program.fieldsOf; rw [hu]
  rw [run_equalIn_struct w d t xs ys (by rw [hf]; exact hu) hp, hf]
  have m0 : f0.name ≠ "_" := by simpa using n0
  have m1 : f1.name ≠ "_" := by simpa using n1
  show (Op.eqFields d xs ys [f0, f1]).run P w = _
  simp only [Op.eqFields, if_pos m0, if_pos m1, Sem.run_bind, p0, q0, e0, Result.andThen_ok, Sem.run_ite, Sem.run_pure]
  cases r0
  · simp
  · simp only [Bool.not_true, Bool.false_eq_true, if_false, p1, q1, e1, Result.andThen_ok, Bool.true_and]
    cases r1 <;> simp
/-- two lines compared -/
theorem equal_lines (a b : List UInt8) (o q : Bool) (w : World) :
    (Op.equalIn 10000 37 (.agg #[.string ⟨a.toArray⟩, .bool o]) (.agg #[.string ⟨b.toArray⟩, .bool q])).run Try.prog w = .ok (a == b && o == q) w := by
  have h := equal_pair (P := Try.prog) 9999 37 _ _ #[.string ⟨a.toArray⟩, .bool o] #[.string ⟨b.toArray⟩, .bool q] (.string ⟨a.toArray⟩) (.bool o) (.string ⟨b.toArray⟩) (.bool q) _ _ w Try.underlying37 (by kernel_rfl) (by kernel_rfl) (by kernel_rfl)
    (fun _ => by kernel_rfl) (fun _ => by kernel_rfl) (fun _ => by kernel_rfl) (fun _ => by kernel_rfl)
    (fun w => run_equalIn_string w 9998 _ _ _ Try.underlying9) (fun w => run_equalIn_bool w 9998 _ _ _ Try.underlying4)
  rw [h]
  simp

#print axioms wpList_append_lines
end Go.Proofs.Ytampgoicogfccaa
