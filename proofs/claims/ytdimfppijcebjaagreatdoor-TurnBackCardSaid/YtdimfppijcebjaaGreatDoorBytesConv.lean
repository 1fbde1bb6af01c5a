/- A string turned into bytes of its own, and bytes appended to it: with room, or without. -/
import Derived.Test.YtdimfppijcebjaaGreatDoorBytes
import Derived.ArgAppend
import Derived.Laws.IdiomCopy
import Derived.Below
namespace Go.Proofs.YtdimfppijcebjaaGreatDoor
open Go.ChangeShapes Go.WideShapes Go.ChangeAt Go.RowKit
set_option maxRecDepth 100000

/-- bytes in a block from base on, of which nothing is frozen -/
def FreshIs (w : World) (base : Nat) (v : Value) (l : List UInt8) : Prop :=
  ∃ g cap cur fz, v = .slice (some ⟨g, 0, none⟩) l.length cap ∧ base ≤ g ∧ w.heap[g]? = some (.cells cur 5 fz) ∧ cap ≤ fz.1 ∧ cur.size = cap ∧ l.length ≤ cap ∧ cap ≤ maxLen ∧ ∀ i (h : i < l.length), cur[i]? = some (byteV l[i])

theorem cell_block {w : World} {g : Nat} {cur : Array Value} {t : TypeId} {fz : Nat × Nat} (h : w.heap[g]? = some (.cells cur t fz)) (i : Nat) : w.cell? ⟨g, i, none⟩ = cur[i]? := by simp [World.cell?, h]

theorem below_setCells0 {B : Nat} {a : World} (b : Nat) (hb : B ≤ b) : ∀ (vs : List Value) (o : Nat) {w : World}, Below B a w → Below B a (w.setCells b o vs)
  | [], _, _, h => h
  | v :: r, o, _, h => below_setCells0 b hb r (o + 1) (h.setCell (p := ⟨b, o, none⟩) hb v)
theorem FreshIs.bytes {w : World} {base : Nat} {v : Value} {l : List UInt8} (h : FreshIs w base v l) : BytesIs w v l := by
  obtain ⟨g, cap, cur, fz, rfl, _, hh, _, hs, hl, hm, hc⟩ := h
  refine Or.inr ⟨⟨g, 0, none⟩, cap, rfl, hl, hm, fun i hi => ?_⟩
  have e : (⟨g, 0, none⟩ : Addr).add i = ⟨g, i, none⟩ := by unfold Addr.add; split <;> simp_all
  rw [e, cell_block hh]
  exact hc i hi

/-- []byte(s) -/
theorem conv_bytes (w : World) (l : List UInt8) (hl : l.length ≤ 140737488355328) :
    ∃ v w', (convert 9 108 (.string ⟨l.toArray⟩)).run Tryz.prog w = .ok v w' ∧ FreshIs w' w.heap.size v l ∧ Below w.heap.size w w' := by
  have hr := run_bytes_of_string w 9 108 5 ⟨l.toArray⟩ Tryz.underlying9 Tryz.underlying108 Tryz.underlying5
  have hsz : (ByteArray.mk l.toArray).size = l.length := by simp [ByteArray.size]
  rw [hsz] at hr
  have hge := grownCap_ge w l.length 0 5
  have hle := grownCap_le_maxLen w l.length 0 5 (by unfold maxLen; omega)
  generalize grownCap w l.length 0 5 = cap at *
  have hrow : (bytesRow ⟨l.toArray⟩ cap).size = cap := by simp [bytesRow, hsz]; omega
  refine ⟨_, _, hr, ⟨w.heap.size, cap, _, _, rfl, Nat.le_refl _, heap_alloc_new w.drew _, ?_, hrow, hge, hle, fun i hi => ?_⟩, ⟨rfl, rfl, rfl, by simp, fun k hk => heap_alloc_old w.drew _ hk⟩⟩
  · show cap ≤ (bytesRow ⟨l.toArray⟩ cap).size
    rw [hrow]; exact Nat.le_refl _
  · rw [bytesRow_at ⟨l.toArray⟩ cap i (by simpa using hi)]
    simp

/-- append(x, y...), x such bytes, y any -/
theorem wpList_append_fresh {w : World} {ops : Array Oper} {rest : List Oper} {o : Oper} {a : Act} {Q : Exit → Act → World → Prop} (hgd : o.guard = none) (s x : Operand)
    (ho : o.op = .call { callee := .builtin .append, args := #[s, x], argTypes := #[108, 108] })
    (base : Nat) (v : Value) (l1 : List UInt8) (hs : a.eval s = v) (hf : FreshIs w base v l1)
    (l2 : List UInt8) (ad : Addr) (c : Nat) (hx : a.eval x = .slice (some ad) l2.length c) (hu : BytesIs w (.slice (some ad) l2.length c) l2) (hlim : l1.length + l2.length ≤ 140737488355328) (hbase : base ≤ w.heap.size)
    (h : ∀ v' w', BytesIs w' v' (l1 ++ l2) → Below base w w' → wpList Tryz.prog ops Q rest (a.put o.dst v') w') : wpList Tryz.prog ops Q (o :: rest) a w := by
  obtain ⟨i0, hi, hz0, hz1, hz2⟩ := info_parts info_u8
  obtain ⟨g, cap, cur, fz, rfl, hg, hh, hfz, hcs, hl, hm, hc⟩ := hf
  have hy : ∀ j u, (l2.map byteV)[j]? = some u → w.cell? (ad.add j) = some u := by
    rcases hu with ⟨e, _⟩ | ⟨a', c', e, _, _, h3⟩
    · cases e
    · injection e with e1 e2 e3
      injection e1 with e1
      subst e1
      intro j u hj
      have hjl : j < l2.length := by simpa using (List.getElem?_eq_some_iff.1 hj).1
      rw [h3 j hjl]
      simpa [hjl] using hj
  have hlt : g < w.heap.size := lt_of_block hh
  have hx1 : ∀ j u, (l1.map byteV)[j]? = some u → w.cell? ⟨g, 0 + j, none⟩ = some u := by
    intro j u hj
    have hjl : j < l1.length := by simpa using (List.getElem?_eq_some_iff.1 hj).1
    rw [Nat.zero_add, cell_block hh, hc j hjl]
    simpa [hjl] using hj
  refine wpList_append_arg w hgd s x 108 ho 5 i0 (.int .u8 0) 1 1 Tryz.underlying108 hi hz0 hz1 hz2 rfl (by decide) g 0 l1.length cap (l1.map byteV) hs (by simp) hx1 ad l2.length c (l2.map byteV) hx (by simp) hy
    (by intro u hu; obtain ⟨y, _, rfl⟩ := List.mem_map.1 hu; rfl) ?_ (by unfold maxLen; omega) (by omega) ?_ ?_
  · intro hroom j hj
    simp only [List.length_map] at hj
    rw [Nat.zero_add, Nat.mul_one, cell_block hh]
    refine ⟨?_, ?_⟩
    · rw [Array.getElem?_eq_getElem (by omega)]; rfl
    · simp only [World.frozen?, hh]
      simp
      omega
  · intro hroom
    have hthere : ∀ j, j < (l2.map byteV).length → (w.cell? ⟨g, l1.length + j, none⟩).isSome = true := by
      intro j hj
      simp only [List.length_map] at hj
      rw [cell_block hh, Array.getElem?_eq_getElem (by omega)]; rfl
    rw [Nat.zero_add, Nat.mul_one]
    refine h _ _ (Or.inr ⟨⟨g, 0, none⟩, cap, by rw [List.length_append], by rw [List.length_append]; exact hroom, hm, fun i hil => ?_⟩) (below_setCells0 g hg _ _ (Below.refl _ _))
    have e : (⟨g, 0, none⟩ : Addr).add i = ⟨g, i, none⟩ := by unfold Addr.add; split <;> simp_all
    rw [e]
    by_cases hi1 : i < l1.length
    · rw [World.cell?_setCells_out g (l2.map byteV) l1.length w ⟨g, i, none⟩ (fun _ _ => Or.inl hi1), cell_block hh, hc i hi1, List.getElem_append_left hi1]
    · obtain ⟨d, rfl⟩ : ∃ d, i = l1.length + d := ⟨i - l1.length, by omega⟩
      have hd : d < l2.length := by rw [List.length_append] at hil; omega
      rw [World.cell?_setCells_in g (l2.map byteV) l1.length w hthere d (by simpa using hd), List.getElem_append_right (by omega)]
      simp
  · intro hgrow v' w' hown hgb
    refine h v' w' (bytes_of_own (by simpa using hown)) ?_
    exact (Below.refl _ _).grown hgb hbase (fun k hk => by cases hk)

#print axioms wpList_append_fresh
end Go.Proofs.YtdimfppijcebjaaGreatDoor
