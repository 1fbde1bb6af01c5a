/- Numbers in memory ([]int): what a slice of them reads as; rows of one's own; append; an argument. -/
import Derived.Test.YtaahghjllfkmaaaMem
import Derived.Laws.AppendOwn
import Derived.Laws.AppendOwnNone
import Derived.Maps.AppendAt
import Derived.OwnWalk
import Derived.RegionTactic
import Derived.BigFrame
import Derived.Below
import Derived.ChangeSlices
import Derived.ChangeSame
import Derived.Carry
namespace Go.Proofs.Ytaahghjllfkmaaa
open Go Go.ChangeShapes Go.WideShapes Go.ChangeAt Go.RowKit
set_option maxRecDepth 100000

abbrev intV (n : Int) : Value := .int .i64 n
/-- the slice v holds the numbers l -/
def IntsIs (w : World) (v : Value) (l : List Int) : Prop :=
  (v = .slice none 0 0 ∧ l = []) ∨ ∃ a c, v = .slice (some a) l.length c ∧ l.length ≤ c ∧ c ≤ maxLen ∧ ∀ i (h : i < l.length), w.cell? (a.add i) = some (intV l[i])

theorem IntsIs.nil (w : World) : IntsIs w (.slice none 0 0) [] := Or.inl ⟨rfl, rfl⟩
theorem IntsIs.call {w w' : World} {v : Value} {l : List Int} (h : IntsIs w v l) (hb : Below w.heap.size w w') : IntsIs w' v l := by
  rcases h with h | ⟨a, c, rfl, h1, h2, h3⟩
  · exact Or.inl h
  · refine Or.inr ⟨a, c, rfl, h1, h2, fun i hi => ?_⟩
    rw [← h3 i hi]
    exact hb.cell (World.block_lt_of_cell? w _ (h3 i hi) |> fun h => by first | exact h | (rw [add_block]; rwa [add_block] at h))
theorem IntsIs.alloc {w : World} {v : Value} {l : List Int} (h : IntsIs w v l) (o : Obj) : IntsIs (w.alloc o) v l := h.call ((Below.refl _ _).alloc (Nat.le_refl _) o)
theorem IntsIs.form {w : World} {v : Value} {l : List Int} (h : IntsIs w v l) : ∃ p n c, v = .slice p n c ∧ n = l.length := by
  rcases h with ⟨rfl, rfl⟩ | ⟨a, c, rfl, _⟩
  · exact ⟨none, 0, 0, rfl, rfl⟩
  · exact ⟨some a, _, c, rfl, rfl⟩
theorem IntsIs.max {w : World} {v : Value} {l : List Int} (h : IntsIs w v l) : l.length ≤ maxLen := by
  rcases h with ⟨_, rfl⟩ | ⟨a, c, _, h1, h2, _⟩
  · simp
  · omega
/-- the numbers at a plain address -/
theorem IntsIs.plain {w : World} {p : Option Addr} {n c : Nat} {l : List Int} (h : IntsIs w (.slice p n c) l) (hne : 0 < l.length) : ∃ b o, p = some ⟨b, o, none⟩ ∧ b < w.heap.size ∧ ∀ i (h : i < l.length), w.cell? ⟨b, o + i, none⟩ = some (intV l[i]) := by
  rcases h with ⟨_, h⟩ | ⟨a, c', e, _, _, hc⟩
  · rw [h] at hne; exact absurd hne (by decide)
  · injection e with e1 e2 e3
    subst e1
    have h0 := hc 0 hne
    have hl := World.block_lt_of_cell? w _ h0
    rw [add_block] at hl
    have ha : a = ⟨a.block, a.off, none⟩ := by
      have := World.cell?_spot h0
      rw [add_zero'] at this
      cases a
      simp_all
    refine ⟨a.block, a.off, by rw [← ha], hl, fun i hi => ?_⟩
    have e : a.add i = ⟨a.block, a.off + i, none⟩ := by
      generalize hb : a.block = b at *
      generalize ho : a.off = o at *
      rw [ha]; unfold Addr.add; split <;> simp_all
    rw [← e]; exact hc i hi

def OwnInts (base : Nat) (w : World) (v : Value) (l : List Int) : Prop := w.ownsRow base 3 1 v l.length (l.map intV)
theorem OwnInts.nil (base : Nat) (w : World) : OwnInts base w (.slice none 0 0) [] := World.ownsRow_nil _ _ _ _
theorem OwnInts.ints {base : Nat} {w : World} {v : Value} {l : List Int} (h : OwnInts base w v l) : IntsIs w v l := by
  have h0 := h
  rcases h.2 with ⟨rfl, hn⟩ | ⟨g, cap, cur, rfl, _, _, hn, hm, _, _⟩
  · exact Or.inl ⟨rfl, List.length_eq_zero_iff.1 hn⟩
  · refine Or.inr ⟨⟨g, 0, none⟩, cap, rfl, hn, hm, fun i hi => ?_⟩
    have e : (⟨g, 0, none⟩ : Addr).add i = ⟨g, i, none⟩ := by unfold Addr.add; split <;> simp_all
    rw [e, World.ownsRow.cellAt h0 i (by omega)]
    simp [hi]
theorem OwnInts.kept {base : Nat} {w w' : World} {v : Value} {l : List Int} (h : OwnInts base w v l) (hb : Below w.heap.size w w') : OwnInts base w' v l := by
  refine ⟨h.1, ?_⟩
  rcases h.2 with ⟨rfl, hn⟩ | ⟨g, cap, cur, rfl, hg, hh, hr⟩
  · exact Or.inl ⟨rfl, hn⟩
  · exact Or.inr ⟨g, cap, cur, rfl, hg, by rw [hb.block g ((Array.getElem?_eq_some_iff.1 hh).1)]; exact hh, hr⟩
theorem OwnInts.alloc {base : Nat} {w : World} {v : Value} {l : List Int} (h : OwnInts base w v l) (o : Obj) : OwnInts base (w.alloc o) v l := h.kept ((Below.refl _ _).alloc (Nat.le_refl _) o)
theorem OwnInts.ge {base : Nat} {w : World} {v : Value} {l : List Int} (h : OwnInts base w v l) : ∀ k, v.ownBlock = some k → base ≤ k := fun k hk => (World.ownsRow.lt h k hk).1
theorem OwnInts.form {base : Nat} {w : World} {v : Value} {l : List Int} (h : OwnInts base w v l) : ∃ p n c, v = .slice p n c ∧ n = l.length := h.ints.form
/-- another row of one's own grew -/
theorem OwnInts.other {base : Nat} {w w' : World} {v : Value} {l : List Int} {row : Option Nat} (h : OwnInts base w v l) (hg : w.grownBy w' row) (hne : ∀ k, v.ownBlock = some k → row ≠ some k) : OwnInts base w' v l := by
  refine ⟨h.1, ?_⟩
  rcases h.2 with ⟨rfl, hn⟩ | ⟨g, cap, cur, rfl, hb, hh, hr⟩
  · exact Or.inl ⟨rfl, hn⟩
  · refine Or.inr ⟨g, cap, cur, rfl, hb, ?_, hr⟩
    rw [hg.block g ((Array.getElem?_eq_some_iff.1 hh).1) (fun e => hne g rfl e.symm)]; exact hh

theorem info_int : (Try.prog.info? 3).map (fun i => (i.zero, i.size, i.bytes)) = some (some (.int .i64 0), 1, 8) := by kernel_rfl
/-- the numbers that a new block holds -/
theorem ints_new (wr : World) (l : List Int) (hm : l.length ≤ maxLen) : IntsIs (wr.alloc (.cells (l.map intV).toArray 3)) (.slice (some ⟨wr.heap.size, 0, none⟩) l.length l.length) l := by
  refine Or.inr ⟨_, _, rfl, Nat.le_refl _, hm, fun i hi => ?_⟩
  have e : (⟨wr.heap.size, 0, none⟩ : Addr).add i = ⟨wr.heap.size, i, none⟩ := by unfold Addr.add; split <;> simp_all
  rw [e, (IsRow.made wr 3 (l.map intV).toArray).cell i]
  simp [hi]
theorem ints_one (wr : World) (n : Int) : IntsIs (wr.alloc (.cells #[.int .i64 n] 3)) (.slice (some ⟨wr.heap.size, 0, none⟩) 1 1) [n] := ints_new wr [n] (by show 1 ≤ maxLen; decide)

/-- append(x, y...), x a row of its own, y any numbers -/
theorem run_append_ints {w : World} {base : Nat} {v : Value} {l1 : List Int} (hown : OwnInts base w v l1) {u : Value} {l2 : List Int} (hu : IntsIs w u l2) (hlim : l1.length + l2.length ≤ 1000000) (hbase : base ≤ w.heap.size) (ty : TypeId) :
    ∃ v' w', (Builtin.append_ #[38, 38] ty #[v, u]).run Try.prog w = .ok v' w' ∧ OwnInts base w' v' (l1 ++ l2) ∧ w.grownBy w' v.ownBlock ∧ (v'.ownBlock = v.ownBlock ∨ v'.ownBlock = some w.heap.size) := by
  obtain ⟨i0, hi, hz0, hz1, hz2⟩ := info_parts info_int
  rcases hu with ⟨rfl, rfl⟩ | ⟨ad, c, rfl, h1, h2, h3⟩
  · refine ⟨v, w, run_append_owned_none (P := Try.prog) (w := w) base 38 ty 3 i0 1 Try.underlying38 hi v l1.length (l1.map intV) hown, by simpa using hown, ⟨rfl, rfl, rfl, Nat.le_refl _, fun _ _ _ => rfl⟩, Or.inl rfl⟩
  · obtain ⟨v', w', hr, k1, k2, _, k3⟩ := run_append_own_at (P := Try.prog) w base 38 ty 3 i0 _ 1 8 Try.underlying38 hi hz0 hz1 hz2 rfl (by decide) v l1.length (l1.map intV) hown ad l2.length c (l2.map intV) (by simp)
      (by
        intro j u hj
        have hjl : j < l2.length := by simpa using (List.getElem?_eq_some_iff.1 hj).1
        rw [h3 j hjl]
        simpa [hjl] using hj)
      (by intro u hu; obtain ⟨y, _, rfl⟩ := List.mem_map.1 hu; rfl) (by unfold maxLen; omega) (by omega) hbase
    refine ⟨v', w', hr, ?_, k2, k3⟩
    unfold OwnInts
    rw [List.length_append, List.map_append]
    exact k1
theorem wp_append_ints {w : World} {o : Oper} {a : Act} {K : Act → World → Prop} {Q : Exit → Act → World → Prop} (s x : Operand)
    (ho : o.op = .call { callee := .builtin .append, args := #[s, x], argTypes := #[38, 38] })
    (base : Nat) (v : Value) (l1 : List Int) (hs : a.eval s = v) (hown : OwnInts base w v l1) (u : Value) (l2 : List Int) (hx : a.eval x = u) (hu : IntsIs w u l2) (hlim : l1.length + l2.length ≤ 1000000) (hbase : base ≤ w.heap.size)
    (h : ∀ v' w', OwnInts base w' v' (l1 ++ l2) → w.grownBy w' v.ownBlock → (v'.ownBlock = v.ownBlock ∨ v'.ownBlock = some w.heap.size) → K (a.put o.dst v') w') : Oper.wp Try.prog o a w K Q := by
  obtain ⟨v', w', hr, h2, h3, h4⟩ := run_append_ints hown hu hlim hbase o.type
  unfold Oper.wp execOp
  simp only [ho, resolve, invoke, builtin, Sem.run_bind, Sem.run_pure, Result.andThen_ok, List.map_toArray, List.map_cons, List.map_nil, hs, hx, hr]
  exact h v' w' h2 h3 h4
theorem wpList_append_ints {w : World} {ops : Array Oper} {rest : List Oper} {o : Oper} {a : Act} {Q : Exit → Act → World → Prop} (hgd : o.guard = none) (s x : Operand)
    (ho : o.op = .call { callee := .builtin .append, args := #[s, x], argTypes := #[38, 38] })
    (base : Nat) (v : Value) (l1 : List Int) (hs : a.eval s = v) (hown : OwnInts base w v l1) (u : Value) (l2 : List Int) (hx : a.eval x = u) (hu : IntsIs w u l2) (hlim : l1.length + l2.length ≤ 1000000) (hbase : base ≤ w.heap.size)
    (h : ∀ v' w', OwnInts base w' v' (l1 ++ l2) → w.grownBy w' v.ownBlock → (v'.ownBlock = v.ownBlock ∨ v'.ownBlock = some w.heap.size) → wpList Try.prog ops Q rest (a.put o.dst v') w') : wpList Try.prog ops Q (o :: rest) a w :=
  wpList_plain hgd fun _ hK => wp_append_ints s x ho base v l1 hs hown u l2 hx hu hlim hbase fun v' w' h2 h3 h4 => hK _ _ (h v' w' h2 h3 h4)
/-- the same, where a guard said yes -/
theorem wpList_append_ints_on {w : World} {ops : Array Oper} {rest : List Oper} {o : Oper} {a : Act} {Q : Exit → Act → World → Prop} (hw : Region.wanted o (yielded ops a.tmps) = true) (s x : Operand)
    (ho : o.op = .call { callee := .builtin .append, args := #[s, x], argTypes := #[38, 38] })
    (base : Nat) (v : Value) (l1 : List Int) (hs : a.eval s = v) (hown : OwnInts base w v l1) (u : Value) (l2 : List Int) (hx : a.eval x = u) (hu : IntsIs w u l2) (hlim : l1.length + l2.length ≤ 1000000) (hbase : base ≤ w.heap.size)
    (h : ∀ v' w', OwnInts base w' v' (l1 ++ l2) → w.grownBy w' v.ownBlock → (v'.ownBlock = v.ownBlock ∨ v'.ownBlock = some w.heap.size) → wpList Try.prog ops Q rest (a.put o.dst v') w') : wpList Try.prog ops Q (o :: rest) a w :=
  BigFrame.wpList_want hw fun _ hK => wp_append_ints s x ho base v l1 hs hown u l2 hx hu hlim hbase fun v' w' h2 h3 h4 => hK _ _ (h v' w' h2 h3 h4)
theorem step_append_ints {w : World} {ops : Array Oper} {o : Oper} {a : Act} {K : Act → World → Prop} {Q : Exit → Act → World → Prop} {E : Prop} (hgd : o.guard = none) (s x : Operand)
    (ho : o.op = .call { callee := .builtin .append, args := #[s, x], argTypes := #[38, 38] })
    (base : Nat) (v : Value) (l1 : List Int) (hs : a.eval s = v) (hown : OwnInts base w v l1) (u : Value) (l2 : List Int) (hx : a.eval x = u) (hu : IntsIs w u l2) (hlim : l1.length + l2.length ≤ 1000000) (hbase : base ≤ w.heap.size)
    (h : ∀ v' w', OwnInts base w' v' (l1 ++ l2) → w.grownBy w' v.ownBlock → (v'.ownBlock = v.ownBlock ∨ v'.ownBlock = some w.heap.size) → K (a.put o.dst v') w') :
    if Region.wanted o (yielded ops a.tmps) = true then Oper.wp Try.prog o a w K Q else E := by
  have hw : Region.wanted o (yielded ops a.tmps) = true := by simp [Region.wanted, hgd]
  rw [if_pos hw]
  exact wp_append_ints s x ho base v l1 hs hown u l2 hx hu hlim hbase h

section
variable {H : Type} {enc : TypeId × Value → H}
theorem laid_out : laidOutB Try.prog = true := by kernel_rfl
theorem cells_int : Try.prog.cellsOf 3 = 1 := by kernel_rfl
/-- an argument of numbers: what it holds -/
theorem open_ints_arg {r : Reach} {W : World} {b0 : Nat} {v : Value} {d : DataW H} {ps : List MemPlace} (hval : Value.okWide Try.prog W r b0 38 v)
    (hd : DataW.Trod enc Try.prog W 0 (fun _ => true) true 38 v d ps) : ∃ l, IntsIs W v l ∧ ∀ x ∈ l, -9223372036854775808 ≤ x ∧ x ≤ 9223372036854775807 := by
  obtain ⟨a, n, c, rfl⟩ := okWide_slice Try.underlying38 hval
  obtain ⟨fuel, hf⟩ := hd
  rcases open_ints Try.underlying38 Try.underlying3 cells_int hf with ⟨hc, _⟩ | ⟨a', len, cap, zs, hc, hb, hl, hm, hz, _, hcell, hw⟩
  · have e : Value.slice a n c = .slice none 0 0 := by simpa [Value.cells] using hc
    rw [e]
    exact ⟨[], IntsIs.nil _, by simp⟩
  · have e : Value.slice a n c = .slice (some a') len cap := by simpa [Value.cells] using hc
    rw [e]
    rw [if_pos rfl] at hz
    have hlen : (zs.take len).length = len := by rw [List.length_take]; omega
    refine ⟨zs.take len, Or.inr ⟨a', cap, by rw [hlen], by rw [hlen]; exact hl, hm, fun i hi => ?_⟩, fun x hx => ?_⟩
    · rw [hlen] at hi
      have hiz : i < zs.length := by omega
      have h := hcell i hiz
      rw [List.getD_eq_getElem?_getD, List.getElem?_eq_getElem hiz] at h
      rw [h, List.getElem_take]
      rfl
    · have h := hw x (List.mem_of_mem_take hx)
      have e : (Lit.int .i64 x).wf = (decide (-9223372036854775808 ≤ x) && decide (x ≤ 9223372036854775807)) := rfl
      rw [e] at h
      simpa using h
end

#print axioms open_ints_arg
#print axioms step_append_ints
end Go.Proofs.Ytaahghjllfkmaaa
