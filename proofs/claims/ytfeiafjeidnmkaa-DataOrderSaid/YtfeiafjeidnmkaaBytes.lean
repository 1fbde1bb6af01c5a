/- Bytes in memory: a slice of bytes holds such a list; how an argument is opened and shut; kept by every call that only makes memory. -/
import Derived.Test.YtfeiafjeidnmkaaMem
import Derived.Test.YtfeiafjeidnmkaaRows
import Derived.Laws.AppendOwn
import Derived.Laws.OwnMore
import Derived.Laws.AppendOwnNone
import Derived.Laws.Slices
import Derived.OwnWalk
import Derived.Laws.IdiomStrings
import Derived.Laws.BytesArg
import Derived.WalkKit
import Derived.ProofKit
import Derived.OpenShut
namespace Go.Proofs.Ytfeiafjeidnmkaa
open Go.ChangeShapes Go.WideShapes Go.ChangeAt Go.RowKit
set_option maxRecDepth 100000

/-- the slice v holds the bytes l -/
def BytesIs (w : World) (v : Value) (l : List UInt8) : Prop :=
  (v = .slice none 0 0 ∧ l = []) ∨ ∃ a c, v = .slice (some a) l.length c ∧ l.length ≤ c ∧ c ≤ maxLen ∧ ∀ i (h : i < l.length), w.cell? (a.add i) = some (byteV l[i])

theorem BytesIs.nil (w : World) : BytesIs w (.slice none 0 0) [] := Or.inl ⟨rfl, rfl⟩
theorem BytesIs.below {w w' : World} {v : Value} {l : List UInt8} (h : BytesIs w v l) {B : Nat} (hb : Below B w w') (hB : ∀ a n c, v = .slice (some a) n c → l ≠ [] → a.block < B) : BytesIs w' v l := by
  rcases h with h | ⟨a, c, rfl, h1, h2, h3⟩
  · exact Or.inl h
  · refine Or.inr ⟨a, c, rfl, h1, h2, fun i hi => ?_⟩
    have hne : l ≠ [] := by intro e; subst e; simp at hi
    rw [← h3 i hi]
    exact hb.cell (by rw [add_block]; exact hB a _ c rfl hne)
theorem BytesIs.lt {w : World} {v : Value} {l : List UInt8} (h : BytesIs w v l) : ∀ a n c, v = .slice (some a) n c → l ≠ [] → a.block < w.heap.size := by
  intro a n c hv hne
  rcases h with ⟨_, h⟩ | ⟨a', c', rfl, h1, h2, h3⟩
  · exact absurd h hne
  · injection hv with e1 e2 e3
    injection e1 with e1
    subst e1
    have hp : 0 < l.length := List.length_pos_iff.2 hne
    have := World.block_lt_of_cell? w _ (h3 0 hp)
    rwa [add_block] at this
theorem BytesIs.call {w w' : World} {v : Value} {l : List UInt8} (h : BytesIs w v l) (hb : Below w.heap.size w w') : BytesIs w' v l := h.below hb h.lt
theorem BytesIs.alloc {w : World} {v : Value} {l : List UInt8} (h : BytesIs w v l) (o : Obj) : BytesIs (w.alloc o) v l := h.call ((Below.refl _ _).alloc (Nat.le_refl _) o)
theorem BytesIs.form {w : World} {v : Value} {l : List UInt8} (h : BytesIs w v l) : ∃ p c, v = .slice p l.length c := by
  rcases h with ⟨rfl, rfl⟩ | ⟨a, c, rfl, _⟩
  · exact ⟨none, 0, rfl⟩
  · exact ⟨some a, c, rfl⟩
theorem bytes_some {w : World} {p : Option Addr} {n c : Nat} {l : List UInt8} (h : BytesIs w (.slice p n c) l) (hne : l ≠ []) : ∃ a, p = some a ∧ a.block < w.heap.size ∧ ∀ i (h : i < l.length), w.cell? (a.add i) = some (byteV l[i]) := by
  have hl := h.lt
  rcases h with ⟨_, h⟩ | ⟨a, c', e, _, _, h3⟩
  · exact absurd h hne
  · injection e with e1 e2 e3
    subst e1
    exact ⟨a, rfl, hl a _ _ rfl hne, h3⟩
/-- the same, at a plain address -/
theorem bytes_plain {w : World} {p : Option Addr} {n c : Nat} {l : List UInt8} (h : BytesIs w (.slice p n c) l) (hne : l ≠ []) : ∃ b o, p = some ⟨b, o, none⟩ ∧ b < w.heap.size ∧ ∀ i (h : i < l.length), w.cell? ⟨b, o + i, none⟩ = some (byteV l[i]) := by
  obtain ⟨a, rfl, hl, hc⟩ := bytes_some h hne
  have h0 := hc 0 (List.length_pos_iff.2 hne)
  have ha : a = ⟨a.block, a.off, none⟩ := by
    have := World.cell?_spot h0
    rw [add_zero'] at this
    cases a
    simp_all
  refine ⟨a.block, a.off, by rw [← ha], hl, fun i hi => ?_⟩
  have e : a.add i = ⟨a.block, a.off + i, none⟩ := by
    generalize hb : a.block = b at *
    generalize ho : a.off = o at *
    rw [ha]; unfold Addr.add; split <;> simp_all
  rw [← e]; exact hc i hi
theorem BytesIs.max {w : World} {v : Value} {l : List UInt8} (h : BytesIs w v l) : l.length ≤ maxLen := by
  rcases h with ⟨_, rfl⟩ | ⟨a, c, _, h1, h2, _⟩
  · simp
  · omega

/-- what a row of its own holds -/
theorem bytes_of_own {w : World} {base : Nat} {v : Value} {l : List UInt8} (h : w.ownsRow base 5 1 v l.length (l.map byteV)) : BytesIs w v l := by
  have h0 := h
  rcases h.2 with ⟨rfl, hn⟩ | ⟨g, cap, cur, rfl, _, _, hn, hm, _, _⟩
  · exact Or.inl ⟨rfl, List.length_eq_zero_iff.1 hn⟩
  · refine Or.inr ⟨⟨g, 0, none⟩, cap, rfl, hn, hm, fun i hi => ?_⟩
    have e : (⟨g, 0, none⟩ : Addr).add i = ⟨g, i, none⟩ := by unfold Addr.add; split <;> simp_all
    rw [e, h0.cellAt i (by omega)]
    simp [hi]

/-- bytes as a string -/
theorem str_of_bytes {w : World} {v : Value} {l : List UInt8} (h : BytesIs w v l) : (convert 25 9 v).run Try.prog w = .ok (.string ⟨l.toArray⟩) w := by
  rcases h with ⟨rfl, rfl⟩ | ⟨a, c, rfl, _, _, h3⟩
  · exact run_convert_bytes_nil (P := Try.prog) w 25 5 Try.underlying25 Try.underlying5 0 0 9 Try.underlying9
  · exact run_convert_bytes_back w 25 9 5 a c l Try.underlying25 Try.underlying5 Try.underlying9 h3

/-- a piece of bytes -/
theorem bytes_sub {w : World} {a : Addr} {c : Nat} {l : List UInt8} (h1 : l.length ≤ c) (h2 : c ≤ maxLen) (h3 : ∀ i (h : i < l.length), w.cell? (a.add i) = some (byteV l[i])) (i j : Nat) (hij : i ≤ j) (hj : j ≤ l.length) :
    BytesIs w (.slice (if c = i then some a else (some a).map (·.add (i * 1))) (j - i) (c - i)) ((l.drop i).take (j - i)) := by
  have hL : ((l.drop i).take (j - i)).length = j - i := by rw [List.length_take, List.length_drop]; omega
  refine Or.inr ⟨if c = i then a else a.add i, c - i, ?_, by omega, by omega, fun k hk => ?_⟩
  · rw [hL]; split <;> simp
  · rw [hL] at hk
    have hci : ¬ c = i := by omega
    rw [if_neg hci]
    have e : (a.add i).add k = a.add (i + k) := by
      by_cases hi : i = 0
      · subst hi; simp [add_zero']
      · exact add_add' a i k (by omega)
    rw [e, h3 (i + k) (by omega)]
    congr 2
    simp [List.getElem_take, List.getElem_drop]

theorem size_u8 : ∀ w, (Go.sizeOf 5).run Try.prog w = .ok 1 w := fun w => by
  obtain ⟨i0, hi, hz0, hz1, hz2⟩ := info_parts (show (Try.prog.info? 5).map (fun i => (i.zero, i.size, i.bytes)) = some (some (.int .u8 0), 1, 1) by kernel_rfl)
  simp [Go.sizeOf, typeInfo, hi, hz1]
theorem elem_u8 : Try.prog.elem 25 = 5 := by simp [Program.elem, Try.underlying25]
theorem under_u8 : Try.prog.underlying 25 = some (.slice (Try.prog.elem 25)) := by rw [elem_u8]; exact Try.underlying25

theorem slice_lh {w : World} {v : Value} {l : List UInt8} (h : BytesIs w v l) (i j : Nat) (hij : i ≤ j) (hj : j ≤ l.length) :
    ∃ u, (∀ W, (Instr.slice 25 v (some (.int .i64 (i : Int))) (some (.int .i64 (j : Int))) none).run Try.prog W = .ok u W) ∧ BytesIs w u ((l.drop i).take (j - i)) := by
  rcases h with ⟨rfl, rfl⟩ | ⟨a, c, rfl, h1, h2, h3⟩
  · obtain rfl : j = 0 := by simpa using hj
    obtain rfl : i = 0 := by omega
    refine ⟨.slice none 0 0, fun W => ?_, Or.inl ⟨rfl, rfl⟩⟩
    rw [run_slice_lh W 25 none 0 0 under_u8 .i64 .i64 _ _ (by omega) (by omega) (by omega), elem_u8, size_u8]
    rfl
  · refine ⟨_, fun W => ?_, bytes_sub h1 h2 h3 i j hij hj⟩
    rw [run_slice_lh W 25 (some a) l.length c under_u8 .i64 .i64 _ _ (by omega) (by omega) (by omega), elem_u8, size_u8]
    simp [Result.andThen, sliced]
theorem slice_l {w : World} {v : Value} {l : List UInt8} (h : BytesIs w v l) (i : Nat) (hi : i ≤ l.length) :
    ∃ u, (∀ W, (Instr.slice 25 v (some (.int .i64 (i : Int))) none none).run Try.prog W = .ok u W) ∧ BytesIs w u (l.drop i) := by
  rcases h with ⟨rfl, rfl⟩ | ⟨a, c, rfl, h1, h2, h3⟩
  · obtain rfl : i = 0 := by simpa using hi
    refine ⟨.slice none 0 0, fun W => ?_, Or.inl ⟨rfl, rfl⟩⟩
    rw [run_slice_l W 25 none 0 0 under_u8 .i64 _ (by omega) (by omega), elem_u8, size_u8]
    rfl
  · have hb := bytes_sub h1 h2 h3 i l.length hi (Nat.le_refl _)
    rw [List.take_of_length_le (by simp)] at hb
    refine ⟨_, fun W => ?_, hb⟩
    rw [run_slice_l W 25 (some a) l.length c under_u8 .i64 _ (by omega) (by omega), elem_u8, size_u8]
    simp [Result.andThen, sliced]
theorem slice_h {w : World} {v : Value} {l : List UInt8} (h : BytesIs w v l) (j : Nat) (hj : j ≤ l.length) :
    ∃ u, (∀ W, (Instr.slice 25 v none (some (.int .i64 (j : Int))) none).run Try.prog W = .ok u W) ∧ BytesIs w u (l.take j) := by
  rcases h with ⟨rfl, rfl⟩ | ⟨a, c, rfl, h1, h2, h3⟩
  · obtain rfl : j = 0 := by simpa using hj
    refine ⟨.slice none 0 0, fun W => ?_, Or.inl ⟨rfl, rfl⟩⟩
    rw [run_slice_h W 25 none 0 0 under_u8 .i64 _ (by omega) (by omega), elem_u8, size_u8]
    rfl
  · have hb := bytes_sub h1 h2 h3 0 j (Nat.zero_le _) hj
    rw [List.drop_zero, Nat.sub_zero] at hb
    refine ⟨_, fun W => ?_, hb⟩
    rw [run_slice_h W 25 (some a) l.length c under_u8 .i64 _ (by omega) (by omega), elem_u8, size_u8]
    simp [Result.andThen, sliced]

/-- the bytes that a new block holds -/
theorem bytes_new (wr : World) (l : List UInt8) (hm : l.length ≤ maxLen) : BytesIs (wr.alloc (.cells (l.map byteV).toArray 5)) (.slice (some ⟨wr.heap.size, 0, none⟩) l.length l.length) l := by
  refine Or.inr ⟨_, _, rfl, Nat.le_refl _, hm, fun i hi => ?_⟩
  have e : (⟨wr.heap.size, 0, none⟩ : Addr).add i = ⟨wr.heap.size, i, none⟩ := by unfold Addr.add; split <;> simp_all
  rw [e, (IsRow.made wr 5 (l.map byteV).toArray).cell i]
  simp [hi]

/-- append(x, y...), x a row of its own, y any bytes: a row of its own again -/
theorem wpList_append_bytes {w : World} {ops : Array Oper} {rest : List Oper} {o : Oper} {a : Act} {Q : Exit → Act → World → Prop} (hgd : o.guard = none) (s x : Operand)
    (ho : o.op = .call { callee := .builtin .append, args := #[s, x], argTypes := #[25, 25] })
    (base : Nat) (v : Value) (l1 : List UInt8) (hs : a.eval s = v) (hown : w.ownsRow base 5 1 v l1.length (l1.map byteV))
    (u : Value) (l2 : List UInt8) (hx : a.eval x = u) (hu : BytesIs w u l2) (hlim : l1.length + l2.length ≤ 4000000000) (hbase : base ≤ w.heap.size)
    (h : ∀ v' w', w'.ownsRow base 5 1 v' (l1 ++ l2).length ((l1 ++ l2).map byteV) → w.grownBy w' v.ownBlock → wpList Try.prog ops Q rest (a.put o.dst v') w') : wpList Try.prog ops Q (o :: rest) a w := by
  obtain ⟨i0, hi, hz0, hz1, hz2⟩ := info_parts info_u8
  rcases hu with ⟨rfl, rfl⟩ | ⟨ad, c, rfl, h1, h2, h3⟩
  · refine wpList_append_own_none hgd s x 25 ho base 5 i0 1 Try.underlying25 hi v l1.length (l1.map byteV) hs hown hx (h v w (by simpa using hown) ⟨rfl, rfl, rfl, Nat.le_refl _, fun _ _ _ => rfl⟩)
  · refine wpList_append_own w hgd s x 25 ho base 5 i0 (.int .u8 0) 1 1 Try.underlying25 hi hz0 hz1 hz2 rfl (by decide) v l1.length (l1.map byteV) hs hown ad l2.length c (l2.map byteV) hx (by simp) ?_ ?_ ?_ ?_ hbase ?_
    · intro j u hj
      have hjl : j < l2.length := by simpa using (List.getElem?_eq_some_iff.1 hj).1
      rw [h3 j hjl]
      simpa [hjl] using hj
    · intro u hu; obtain ⟨y, _, rfl⟩ := List.mem_map.1 hu; rfl
    · unfold maxLen; omega
    · omega
    · intro v' w' hown' hg _
      exact h v' w' (by simpa using hown') hg

section
variable {H : Type} {enc : TypeId × Value → H}
theorem cells_u8 : Try.prog.cellsOf 5 = 1 := by kernel_rfl
/-- bytes that lie in an argument: what they are; and they are shut again in every later world -/
theorem open_bytes_cs {W : World} {fuel : Nat} {cs : List Value} {x : DataW H × List MemPlace} (hf : DataW.trod enc Try.prog W 0 (fun _ => true) true fuel 25 cs = some x) :
    ∃ (v : Value) (l : List UInt8), cs = [v] ∧ (∃ a n c, v = .slice a n c) ∧ BytesIs W v l ∧ ∀ W', Below W.heap.size W W' → ∃ pa, ∀ m, DataW.trod enc Try.prog W' 0 (fun b => decide (b < W.heap.size)) true (m + 2) 25 [v] = some (x.1, pa) := by
  rcases open_ints Try.underlying25 Try.underlying5 cells_u8 hf with ⟨rfl, rfl⟩ | ⟨a', len, cap, zs, rfl, hb, hl, hm, hz, rfl, hcell, hw⟩
  · exact ⟨.slice none 0 0, [], rfl, ⟨_, _, _, rfl⟩, .nil _, fun W' _ => ⟨[], fun m => by simp [DataW.trod, Try.underlying25]⟩⟩
  · rw [if_pos rfl] at hz
    have hlen : (zs.take len).length = len := by rw [List.length_take]; omega
    refine ⟨.slice (some a') len cap, (zs.take len).map fun n => UInt8.ofNat n.toNat, rfl, ⟨_, _, _, rfl⟩, Or.inr ⟨a', cap, by simp only [List.length_map, hlen], by simp only [List.length_map, hlen]; exact hl, hm, fun i hi => ?_⟩, fun W' hB => ?_⟩
    · simp only [List.length_map, hlen] at hi
      have hiz : i < zs.length := by omega
      have hr := range_u8 hw i
      have e1 : zs[i]?.getD 0 = zs[i] := by rw [List.getElem?_eq_getElem hiz]; rfl
      rw [e1] at hr
      rw [hcell i hiz, List.getElem_map, List.getElem_take, byteV_u8 _ hr.1 hr.2]
      congr 2 <;> rw [List.getD_eq_getElem?_getD, e1]
    · have hin : 0 < zs.length → a'.block < W.heap.size := fun hp => by
        have := World.block_lt_of_cell? W _ (hcell 0 hp)
        rwa [add_block] at this
      have hz' : zs.length = (if decide (a'.block < W.heap.size) then cap else len) := by
        by_cases hp : 0 < zs.length
        · rw [if_pos (by simpa using hin hp)]; exact hz
        · split <;> omega
      exact ⟨_, fun m => shut_ints (enc := enc) (P := Try.prog) (w := W') (base := 0) (spare := fun b => decide (b < W.heap.size)) (held := true) m Try.underlying25 Try.underlying5 cells_u8 hb hl hm hz'
        (fun i hi => by rw [hB.cell (by rw [add_block]; exact hin (by omega))]; exact hcell i hi) hw⟩
/-- an argument of bytes: what it holds; and it is shut again in every later world -/
theorem open_bytes {r : Reach} {W : World} {b0 : Nat} {v : Value} {d : DataW H} {ps : List MemPlace} (hval : Value.okWide Try.prog W r b0 25 v)
    (hd : DataW.Trod enc Try.prog W 0 (fun _ => true) true 25 v d ps) :
    ∃ l : List UInt8, BytesIs W v l ∧ ∀ W', Below W.heap.size W W' → ∃ pa, DataW.Trod enc Try.prog W' 0 (fun b => decide (b < W.heap.size)) true 25 v d pa := by
  obtain ⟨a, n, c, rfl⟩ := okWide_slice Try.underlying25 hval
  obtain ⟨fuel, hf⟩ := hd
  obtain ⟨u, l, e, _, h, k⟩ := open_bytes_cs hf
  have e' : Value.slice a n c = u := by simpa [Value.cells] using e
  rw [e']
  exact ⟨l, h, fun W' hB => by
    obtain ⟨pa, hm⟩ := k W' hB
    refine ⟨pa, 2, ?_⟩
    have := hm 0
    rw [← e'] at this ⊢
    simpa [Value.cells] using this⟩
end

#print axioms open_bytes
end Go.Proofs.Ytfeiafjeidnmkaa
