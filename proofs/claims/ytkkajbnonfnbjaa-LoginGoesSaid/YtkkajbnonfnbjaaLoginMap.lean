/- The map that tells what a phase leads to (package login; keys and values are structs of two ints): a key, the literal laid in in whatever order, an entry looked up. -/
import Derived.Test.YtkkajbnonfnbjaaLoginArg
import Derived.Test.YtkkajbnonfnbjaaEnvBare
import Derived.Maps.OwnSet
import Derived.Maps.Views
import Derived.DeepKeys4
import Derived.Orders
import Derived.RegionTactic
import Derived.BigFrame
namespace Go.Proofs.Ytkkajbnonfnbjaa.Lo
open Go.Proofs.Ytkkajbnonfnbjaa Go.Proofs.Ytkkajbnonfnbjaa.Ro
open Go Go.ChangeShapes Go.WideShapes Go.ChangeAt Go.RowKit Go.Maps
set_option maxRecDepth 100000
set_option linter.unusedSimpArgs false
set_option linter.unusedVariables false

abbrev HT : TypeId := 59
abbrev ST : TypeId := 54
abbrev MT : TypeId := 56
abbrev pairV (p c : Int) : Value := .agg #[.int .i64 p, .int .i64 c]
def kl (p c : Int) : Lit := .string (keyBytes [.int .i64 p, .int .i64 c])
theorem heard_cells : Try.prog.cellsOf HT = 2 := by kernel_rfl
theorem key_of {p c : Int} (hp : (Lit.int .i64 p).wf = true) (hc : (Lit.int .i64 c).wf = true) : keyOf Try.prog HT (pairV p c) = some (kl p c) := by
  have hpos : 0 < Try.prog.types.size := of_decide_eq_true (by kernel_rfl)
  obtain ⟨m, hm⟩ : ∃ m, Try.prog.types.size = m + 1 := ⟨_, (Nat.succ_pred_eq_of_pos hpos).symm⟩
  have hkt : Try.prog.keyType HT = true := by kernel_rfl
  unfold keyOf
  simp only [Try.underlying59]
  rw [if_pos (by simp [hkt, Value.formed, Try.underlying59, heard_cells]), hm]
  unfold Program.keyLits
  simp only [Try.underlying59, Value.cells]
  rw [if_pos ⟨by rw [heard_cells]; rfl, by decide +kernel⟩]
  simp [List.mapM_cons, int_cells', Program.keyLits, Try.underlying3, hp, hc, kl]
theorem keyHeard : Keyed Try.prog HT := Keyed.of_law (deep_law_laid laid_out (m := 2) (by omega) (of_decide_eq_true (by kernel_rfl)) (by kernel_rfl) (by kernel_rfl))
theorem wf_of {n : Int} (h0 : -9223372036854775808 ≤ n) (h1 : n ≤ 9223372036854775807) : (Lit.int .i64 n).wf = true := by
  show (decide (-9223372036854775808 ≤ n) && decide (n ≤ 9223372036854775807)) = true
  simp [h0, h1]
theorem kl_inj {p c p' c' : Int} (hp : (Lit.int .i64 p).wf = true) (hc : (Lit.int .i64 c).wf = true) (hp' : (Lit.int .i64 p').wf = true) (hc' : (Lit.int .i64 c').wf = true) (h : kl p c = kl p' c') : p = p' ∧ c = c' := by
  have := keyHeard.inj (key_of hp hc) ((key_of hp' hc').trans (by rw [h]))
  simpa using this

/-! ### the six entries -/
def phT : Nat → Int
  | 0 => 2
  | 1 => 3
  | 2 => 3
  | 3 => 3
  | 4 => 5
  | _ => 5
def coT : Nat → Int
  | 0 => 220
  | 1 => 331
  | 2 => 230
  | 3 => 232
  | 4 => 230
  | _ => 232
def toT : Nat → Int
  | 0 => 3
  | 1 => 4
  | 2 => 6
  | 3 => 6
  | 4 => 6
  | _ => 6
def acT : Nat → Int
  | 0 => 1
  | 1 => 2
  | 2 => 4
  | 3 => 4
  | 4 => 4
  | _ => 4
def kT (j : Nat) : Lit := kl (phT j) (coT j)
theorem phT_wf (j : Nat) : (Lit.int .i64 (phT j)).wf = true := by unfold phT; split <;> rfl
theorem coT_wf (j : Nat) : (Lit.int .i64 (coT j)).wf = true := by unfold coT; split <;> rfl
theorem kT_of (j : Nat) : keyOf Try.prog HT (pairV (phT j) (coT j)) = some (kT j) := key_of (phT_wf j) (coT_wf j)
theorem kT_ne : ∀ i j, i < 6 → j < 6 → i ≠ j → kT i ≠ kT j := by
  intro i j hi hj hne h
  have := kl_inj (phT_wf i) (coT_wf i) (phT_wf j) (coT_wf j) h
  have hall : ∀ i, i < 6 → ∀ j, j < 6 → i ≠ j → ¬ (phT i = phT j ∧ coT i = coT j) := by decide
  exact hall i hi j hj hne this
theorem isKey (p c : Int) : WideAt.IsKeyLit (kl p c) := trivial

/-- a value as it is -/
def asHeld (v : Value) : Option (DataW Value × List MemPlace) := some (.held v, [])
/-- block b is a map of those of the six entries whose bits are set in m -/
def Fill (w : World) (b m f : Nat) : Prop :=
  ∃ (D : DataW Value) (n : Nat), n + f ≤ 6 ∧ w.ownsMap Try.prog HT asHeld b n D ∧
    (∀ j, j < 6 → m.testBit j = true → D.atKey (kT j) (.held (pairV 0 0)) = .held (pairV (toT j) (acT j)) ∧ Maps.has D (kT j) = true) ∧
    (∀ k : Lit, (∀ j, j < 6 → m.testBit j = true → kT j ≠ k) → D.atKey k (.held (pairV 0 0)) = .held (pairV 0 0) ∧ Maps.has D k = false)
theorem Fill.made (w : World) : Fill (w.alloc (.map #[] 0)) w.heap.size 0 6 :=
  ⟨_, 0, by omega, World.ownsMap_made w _ _ _, fun j _ h => by simp at h, fun k _ => ⟨rfl, rfl⟩⟩
theorem bit_more : ∀ m, m < 64 → ∀ j, j < 6 → m.testBit j = false → m + 2 ^ j < 64 ∧ ∀ i, i < 6 → (m + 2 ^ j).testBit i = (decide (i = j) || m.testBit i) := by decide +kernel
theorem Fill.put {w : World} {b m f j : Nat} (h : Fill w b m (f + 1)) (hm : m < 64) (hj : j < 6) (hb : m.testBit j = false) :
    ∃ w', (Instr.mapUpdate MT (.map (some b)) (pairV (phT j) (coT j)) (pairV (toT j) (acT j))).run Try.prog w = .ok () w' ∧ Fill w' b (m + 2 ^ j) f ∧ w.grownBy w' (some b) := by
  obtain ⟨D, n, hn, hown, h1, h2⟩ := h
  obtain ⟨w', hrun, r1, r2⟩ := hown.update keyHeard Try.underlying56 (Nat.lt_of_le_of_lt (show n ≤ 6 by omega) (by decide)) (kT_of j) (R := asHeld) (val := pairV (toT j) (acT j)) (d := .held (pairV (toT j) (acT j))) (ps := []) rfl
  obtain ⟨-, hbit⟩ := bit_more m hm j hj hb
  refine ⟨w', hrun, ⟨_, n + 1, by omega, r1, fun i hi hi' => ?_, fun k hk => ?_⟩, r2⟩
  · by_cases e : i = j
    · subst e
      exact ⟨atKey_put_same hown.isMap (isKey _ _) _ _, has_put_same hown.isMap (isKey _ _) _⟩
    · rw [atKey_put_other (kT_ne i j hi hj e), has_put_other (kT_ne i j hi hj e)]
      refine h1 i hi ?_
      rw [hbit i hi] at hi'
      simpa [e] using hi'
  · have hne : k ≠ kT j := fun e => hk j hj (by rw [hbit j hj]; simp) e.symm
    rw [atKey_put_other hne, has_put_other hne]
    refine h2 k (fun i hi hi' => hk i hi ?_)
    rw [hbit i hi, hi']
    simp

/-! ### the literal: in whatever order -/
/-- what has come up of the region: all that the entries are made of, and the entries of m -/
def listedT (m : Nat) : Array Bool := #[true, true, true, m.testBit 0, true, true, m.testBit 1, true, true, m.testBit 2, true, true, m.testBit 3, true, true, m.testBit 4, true, true, m.testBit 5, false, false]
def readyT (m : Nat) : List Nat := if m = 63 then [19] else ((List.range 6).filter (fun j => !m.testBit j)).map (fun j => 3 * j + 3)
def lackT (m : Nat) : Nat := ((List.range 6).filter (fun j => !m.testBit j)).length
theorem lack_zero : ∀ m, m < 64 → lackT m = 0 → m = 63 := by decide +kernel
theorem lack_more : ∀ m, m < 64 → ∀ j, j < 6 → m.testBit j = false → lackT (m + 2 ^ j) + 1 = lackT m := by decide +kernel
theorem listed_more : ∀ m, m < 64 → ∀ j, j < 6 → m.testBit j = false → (listedT m).setIfInBounds (3 * j + 3) true = listedT (m + 2 ^ j) := by decide +kernel
theorem ready_mem : ∀ m, m < 64 → m ≠ 63 → ∀ i ∈ readyT m, ∃ j, j < 6 ∧ m.testBit j = false ∧ i = 3 * j + 3 := by
  intro m _ h i hi
  unfold readyT at hi
  rw [if_neg h, List.mem_map] at hi
  obtain ⟨j, hj, rfl⟩ := hi
  rw [List.mem_filter, List.mem_range] at hj
  exact ⟨j, hj.1, by simpa using hj.2, rfl⟩
theorem ready_some : ∀ m, m < 64 → readyT m ≠ [] := by decide +kernel
/-- an entry of the literal as an operation -/
def EntryOp (a : Act) (b j : Nat) (o : Oper) : Prop :=
  ∃ mo x v : Operand, o.guard = none ∧ o.dst = none ∧ o.op = Op.insert MT mo x v ∧ a.eval mo = .map (some b) ∧ a.eval x = pairV (phT j) (coT j) ∧ a.eval v = pairV (toT j) (acT j)
theorem fills {ops : Array Oper} {Q : Exit → Act → World → Prop} {a : Act} {b : Nat} {w0 : World} (hle : w0.heap.size ≤ b)
    (hops : ∀ j, j < 6 → ∃ o, ops[3 * j + 3]? = some o ∧ EntryOp a b j o) (hready : ((List.range 64).all fun m => decide (Region.ready .any ops (listedT m) = readyT m)) = true)
    (hend : ∀ w', Fill w' b 63 0 → Below w0.heap.size w0 w' → wpAny Try.prog .any ops Q 2 (listedT 63) a w') :
    ∀ (f m : Nat), m < 64 → lackT m = f → ∀ w, Fill w b m f → Below w0.heap.size w0 w → wpAny Try.prog .any ops Q (f + 2) (listedT m) a w
  | 0, m, hm, hl, w, hF, hB => by
    have e := lack_zero m hm hl
    subst e
    exact hend w hF hB
  | f + 1, m, hm, hl, w, hF, hB => by
    have h63 : m ≠ 63 := fun e => by
      have h0 : lackT 63 = 0 := by decide +kernel
      rw [e, h0] at hl
      exact absurd hl.symm (Nat.succ_ne_zero f)
    refine wpAny_all (fuel := f + 2) (of_decide_eq_true (List.all_eq_true.1 hready m (List.mem_range.2 hm))) (ready_some m hm) fun i hi => ?_
    obtain ⟨j, hj, hbit, rfl⟩ := ready_mem m hm h63 i hi
    obtain ⟨o, ho, mo, x, v, hg, hd, hop, e1, e2, e3⟩ := hops j hj
    obtain ⟨w', hrun, hF', hgr⟩ := hF.put hm hj hbit
    have hK := fills hle hops hready hend f (m + 2 ^ j) (bit_more m hm j hj hbit).1 (by have := lack_more m hm j hj hbit; omega) w' hF' (hB.grown hgr hB.size (fun k hk => by cases hk; exact hle))
    unfold wpOp
    simp only [ho]
    rw [if_pos (by unfold Region.wanted; rw [hg])]
    refine Or.inl ?_
    rw [listed_more m hm j hj hbit]
    unfold Oper.wp
    simp [execOp, hop, e1, e2, e3, hrun, Result.andThen]
    have ea : a.put o.dst undef = a := by rw [hd]; rfl
    show wpAny Try.prog .any ops Q (f + 2) (listedT (m + 2 ^ j)) (a.put o.dst undef) w'
    rw [ea]
    exact hK

/-- block b is the map, whole -/
def Tab (w : World) (b : Nat) : Prop := Fill w b 63 0
theorem Tab.call {w w' : World} {b : Nat} (h : Tab w b) (hb : Below w.heap.size w w') : Tab w' b := by
  obtain ⟨D, n, hn, ⟨es, clock, e1, F, hs, hD⟩, h1, h2⟩ := h
  have hlt : b < w.heap.size := lt_of_block e1
  exact ⟨D, n, hn, ⟨es, clock, by rw [hb.block b hlt]; exact e1, F, hs, hD⟩, h1, h2⟩
theorem Tab.alloc {w : World} {b : Nat} (h : Tab w b) (o : Obj) : Tab (w.alloc o) b := h.call ((Below.refl _ _).alloc (Nat.le_refl _) o)
theorem zero_step (w : World) : (zeroValue ST).run Try.prog w = .ok (pairV 0 0) w := by kernel_rfl
theorem Tab.look {w : World} {b : Nat} (h : Tab w b) {p c : Int} (hp : (Lit.int .i64 p).wf = true) (hc : (Lit.int .i64 c).wf = true) :
    (∀ j, j < 6 → p = phT j → c = coT j → (Instr.lookup MT (.map (some b)) (pairV p c) true).run Try.prog w = .ok (.tuple #[pairV (toT j) (acT j), .bool true]) w) ∧
    ((∀ j, j < 6 → ¬ (p = phT j ∧ c = coT j)) → (Instr.lookup MT (.map (some b)) (pairV p c) true).run Try.prog w = .ok (.tuple #[pairV 0 0, .bool false]) w) := by
  obtain ⟨D, n, -, hown, h1, h2⟩ := h
  obtain ⟨v, ps, hrun, hv⟩ := World.ownsMap.look_ok hown keyHeard Try.underlying56 (zero_step w) (zd := .held (pairV 0 0)) (zp := []) rfl (key_of hp hc)
  constructor
  · intro j hj ep ec
    subst ep; subst ec
    obtain ⟨g1, g2⟩ := h1 j hj (by have : ∀ j, j < 6 → (63 : Nat).testBit j = true := by decide
                                   exact this j hj)
    have g1' : D.atKey (kl (phT j) (coT j)) (.held (pairV 0 0)) = .held (pairV (toT j) (acT j)) := g1
    have g2' : Maps.has D (kl (phT j) (coT j)) = true := g2
    rw [g1'] at hv
    rw [hrun, g2']
    injection hv with hv
    injection hv with hv _
    injection hv with hv
    rw [hv]
  · intro hno
    obtain ⟨g1, g2⟩ := h2 (kl p c) (fun j hj _ e => hno j hj (by have := kl_inj (phT_wf j) (coT_wf j) hp hc e; exact ⟨this.1.symm, this.2.symm⟩))
    rw [g1] at hv
    rw [hrun, g2]
    injection hv with hv
    injection hv with hv _
    injection hv with hv
    rw [hv]

set_option maxHeartbeats 4000000 in
theorem steps_any (w : World) : Calls Try.prog 31 #[] w fun e w' => e = .returned (.map (some w.heap.size)) ∧ Tab w' w.heap.size ∧ Below w.heap.size w w' := by
  have hmm := @run_makeMap Try.prog
  have HF : Hid (∀ W : World, Fill (W.alloc (.map #[] 0)) W.heap.size 0 6) := Lib.hid Fill.made
  have HD : Hid (Below w.heap.size w w.drew) := Lib.hid ⟨rfl, rfl, rfl, Nat.le_refl _, fun _ _ => rfl⟩
  go_enter Try.func31, Try.ntmps31
  go_wp2_with fail
  refine wp_region_any (by kernel_rfl) ?_
  change wpAny _ _ _ _ _ _ _ (World.drew _)
  refine wpAny_take (i := 1) (v := ?_) rfl (by kernel_rfl) (by kernel_rfl) (by kernel_rfl) (fun _ _ _ h => h) (Or.inl ⟨by rfl, ?_⟩) ?_
  rotate_left
  · intro w; go_simp
    with_reducible rfl
  refine wpAny_take (i := 2) (v := ?_) rfl (by kernel_rfl) (by kernel_rfl) (by kernel_rfl) (fun _ _ _ h => h) (Or.inl ⟨by rfl, ?_⟩) ?_
  rotate_left
  · intro w; go_simp
    with_reducible rfl
  refine wpAny_take (i := 4) (v := ?_) rfl (by kernel_rfl) (by kernel_rfl) (by kernel_rfl) (fun _ _ _ h => h) (Or.inl ⟨by rfl, ?_⟩) ?_
  rotate_left
  · intro w; go_simp
    with_reducible rfl
  refine wpAny_take (i := 5) (v := ?_) rfl (by kernel_rfl) (by kernel_rfl) (by kernel_rfl) (fun _ _ _ h => h) (Or.inl ⟨by rfl, ?_⟩) ?_
  rotate_left
  · intro w; go_simp
    with_reducible rfl
  refine wpAny_take (i := 7) (v := ?_) rfl (by kernel_rfl) (by kernel_rfl) (by kernel_rfl) (fun _ _ _ h => h) (Or.inl ⟨by rfl, ?_⟩) ?_
  rotate_left
  · intro w; go_simp
    with_reducible rfl
  refine wpAny_take (i := 8) (v := ?_) rfl (by kernel_rfl) (by kernel_rfl) (by kernel_rfl) (fun _ _ _ h => h) (Or.inl ⟨by rfl, ?_⟩) ?_
  rotate_left
  · intro w; go_simp
    with_reducible rfl
  refine wpAny_take (i := 10) (v := ?_) rfl (by kernel_rfl) (by kernel_rfl) (by kernel_rfl) (fun _ _ _ h => h) (Or.inl ⟨by rfl, ?_⟩) ?_
  rotate_left
  · intro w; go_simp
    with_reducible rfl
  refine wpAny_take (i := 11) (v := ?_) rfl (by kernel_rfl) (by kernel_rfl) (by kernel_rfl) (fun _ _ _ h => h) (Or.inl ⟨by rfl, ?_⟩) ?_
  rotate_left
  · intro w; go_simp
    with_reducible rfl
  refine wpAny_take (i := 13) (v := ?_) rfl (by kernel_rfl) (by kernel_rfl) (by kernel_rfl) (fun _ _ _ h => h) (Or.inl ⟨by rfl, ?_⟩) ?_
  rotate_left
  · intro w; go_simp
    with_reducible rfl
  refine wpAny_take (i := 14) (v := ?_) rfl (by kernel_rfl) (by kernel_rfl) (by kernel_rfl) (fun _ _ _ h => h) (Or.inl ⟨by rfl, ?_⟩) ?_
  rotate_left
  · intro w; go_simp
    with_reducible rfl
  refine wpAny_take (i := 16) (v := ?_) rfl (by kernel_rfl) (by kernel_rfl) (by kernel_rfl) (fun _ _ _ h => h) (Or.inl ⟨by rfl, ?_⟩) ?_
  rotate_left
  · intro w; go_simp
    with_reducible rfl
  refine wpAny_take (i := 17) (v := ?_) rfl (by kernel_rfl) (by kernel_rfl) (by kernel_rfl) (fun _ _ _ h => h) (Or.inl ⟨by rfl, ?_⟩) ?_
  rotate_left
  · intro w; go_simp
    with_reducible rfl
  refine wpAny_ready (rs := [0]) (by kernel_rfl) (by simp) ?_
  refine AllReady.cons rfl (fun K hK => ?_) AllReady.nil
  go_simp
  refine hK _ _ ?_
  clear hK K
  refine fills (w0 := w) (Nat.le_refl _) ?_ ?_ ?_ 6 0 (by decide) (by decide) _ (HF.out w.drew) (HD.out.alloc (Nat.le_refl _) _)
  · intro j hj
    match j, hj with
    | 0, _ => exact ⟨_, rfl, _, _, _, rfl, rfl, rfl, rfl, rfl, rfl⟩
    | 1, _ => exact ⟨_, rfl, _, _, _, rfl, rfl, rfl, rfl, rfl, rfl⟩
    | 2, _ => exact ⟨_, rfl, _, _, _, rfl, rfl, rfl, rfl, rfl, rfl⟩
    | 3, _ => exact ⟨_, rfl, _, _, _, rfl, rfl, rfl, rfl, rfl, rfl⟩
    | 4, _ => exact ⟨_, rfl, _, _, _, rfl, rfl, rfl, rfl, rfl, rfl⟩
    | 5, _ => exact ⟨_, rfl, _, _, _, rfl, rfl, rfl, rfl, rfl, rfl⟩
  · kernel_rfl
  · intro w' hT hB
    have HT := Lib.hid hT
    have HB := Lib.hid hB
    clear hT hB
    refine wpAny_ready (rs := [19]) (by kernel_rfl) (by simp) ?_
    refine AllReady.cons rfl (fun K hK => ?_) AllReady.nil
    go_simp
    refine hK _ _ ?_
    clear hK K
    refine wpAny_ready (rs := [20]) (by kernel_rfl) (by simp) ?_
    refine AllReady.cons rfl (fun K hK => ?_) AllReady.nil
    go_simp
    refine hK _ _ ?_
    clear hK K
    refine wpAny_done (by kernel_rfl) ?_ _
    go_wp2_with fail
    go_ret
    exact ⟨rfl, HT.out, HB.out⟩

#print axioms steps_any
end Go.Proofs.Ytkkajbnonfnbjaa.Lo
