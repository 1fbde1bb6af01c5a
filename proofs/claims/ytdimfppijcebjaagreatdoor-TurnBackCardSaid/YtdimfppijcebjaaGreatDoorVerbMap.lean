/- A map of rows by names: what it holds, an entry of a literal laid in, an entry looked up; package verb's table. -/
import Derived.Test.YtdimfppijcebjaaGreatDoorVerbs
import Derived.Test.YtdimfppijcebjaaGreatDoorBlocks
import Derived.Maps.OwnSet
namespace Go.Proofs.YtdimfppijcebjaaGreatDoor.Vb
open Go.Proofs.YtdimfppijcebjaaGreatDoor
open Go.ChangeShapes Go.WideShapes Go.ChangeAt Go.RowKit Go.Maps
set_option maxRecDepth 100000
set_option linter.unusedSimpArgs false

/-- a value as it is -/
def asIs (v : Value) : Option (DataW Value × List MemPlace) := some (.held v, [])
/-- a row without its name -/
abbrev rowV (v : Vb) : Value := .agg #[.string ⟨#[]⟩, .int .i64 v.kind, .int .i64 v.arg, .bool v.path]
def tabOf (l : List Vb) : DataW Value := l.foldl (fun D v => D.put (.string v.name) (.held (rowV v))) (.map [])
theorem tabOf_snoc (l : List Vb) (v : Vb) : tabOf (l ++ [v]) = (tabOf l).put (.string v.name) (.held (rowV v)) := by simp [tabOf, List.foldl_append]
theorem keyLaw : Keyed Tryz.prog 9 := string_keyed Tryz.underlying9

/-- block b is a map of the table's rows but for those of rest, which are still to come -/
def MapAt (w : World) (b : Nat) (rest : List Vb) : Prop :=
  ∃ l, l ++ rest = verbs ∧ w.ownsMap Tryz.prog 9 asIs b l.length (tabOf l)
theorem MapAt.made (w : World) : MapAt (w.alloc (.map #[] 0)) w.heap.size verbs := ⟨[], rfl, World.ownsMap_made w _ _ _⟩
theorem MapAt.alloc {w : World} {b : Nat} {l : List Vb} (h : MapAt w b l) (o : Obj) : MapAt (w.alloc o) b l := by
  obtain ⟨d, e, h⟩ := h
  exact ⟨d, e, h.alloc o⟩
theorem MapAt.lt {w : World} {b : Nat} {l : List Vb} (h : MapAt w b l) : b < w.heap.size := by
  obtain ⟨d, e, h⟩ := h
  exact h.lt

theorem wpList_insert (w0 w : World) {ops : Array Oper} {rest : List Oper} {o : Oper} {a : Act} {Q : Exit → Act → World → Prop}
    (hg : o.guard = none) (m x v : Operand) (hop : o.op = Op.insert 96 m x v) (b : Nat) (y : Vb) (ys : List Vb)
    (hm : a.eval m = .map (some b)) (h : MapAt w b (y :: ys)) (hb : Below w0.heap.size w0 w) (hle : w0.heap.size ≤ b) (hx : a.eval x = .string ⟨y.name.toArray⟩) (hv : a.eval v = rowV y)
    (hK : ∀ w', MapAt w' b ys → Below w0.heap.size w0 w' → wpList Tryz.prog ops Q rest (a.put o.dst undef) w') :
    wpList Tryz.prog ops Q (o :: rest) a w := by
  refine wpList_plain hg fun K' hK' => ?_
  obtain ⟨l, hl, hown⟩ := h
  have hlen : l.length ≤ 36 := by
    have := congrArg List.length hl
    rw [List.length_append, verbs_len] at this
    omega
  have hy : y ∈ verbs := by rw [← hl]; simp
  have hsz : (ByteArray.mk y.name.toArray).size ≤ maxLen := by
    have : ∀ v ∈ verbs, v.name.length ≤ maxLen := fun v hv => by rcases len_each v hv with h | h <;> rw [h] <;> decide
    simpa [ByteArray.size] using this y hy
  obtain ⟨w', hrun, r1, r2⟩ := hown.update keyLaw Tryz.underlying96 (Nat.lt_of_le_of_lt hlen (by decide)) (Go.WideMaps.keyOf_string_mk Tryz.underlying9 hsz) (R := asIs) (val := rowV y) (d := .held (rowV y)) (ps := []) rfl
  unfold Oper.wp
  simp [execOp, hop, hm, hx, hv, hrun, Result.andThen]
  refine hK' _ _ (hK w' ⟨l ++ [y], by simpa using hl, ?_⟩ (hb.grown r2 hb.size (fun k hk => by cases hk; exact hle)))
  rw [List.length_append, tabOf_snoc]
  simpa using r1

/-- block b is the table, whole -/
def Tab (w : World) (b : Nat) : Prop := w.ownsMap Tryz.prog 9 asIs b 36 (tabOf verbs)
theorem MapAt.whole {w : World} {b : Nat} (h : MapAt w b []) : Tab w b := by
  obtain ⟨l, e, h⟩ := h
  rw [List.append_nil] at e
  subst e
  exact h
theorem Tab.call {w w' : World} {b : Nat} (h : Tab w b) (hb : Below w.heap.size w w') : Tab w' b := by
  have hlt := h.lt
  obtain ⟨es, clock, h1, F, hs, hD⟩ := h
  exact ⟨es, clock, by rw [hb.block b hlt]; exact h1, F, hs, hD⟩
theorem Tab.alloc {w : World} {b : Nat} (h : Tab w b) (o : Obj) : Tab (w.alloc o) b := h.call ((Below.refl _ _).alloc (Nat.le_refl _) o)

set_option maxRecDepth 100000 in
theorem tab_eq : tabOf verbs = .map (verbs.map fun v => (.string v.name, .held (rowV v))) := by kernel_rfl
theorem tab_size : Maps.size (tabOf verbs) = 36 := by rw [tab_eq]; rfl
theorem find_row : ∀ (l : List Vb) (u : List UInt8), ((l.map fun v => (Lit.string v.name, DataW.held (rowV v))).find? fun p => p.1.sameKey (.string u)) = (l.find? (fun v => v.name == u)).map fun v => (Lit.string v.name, DataW.held (rowV v))
  | [], _ => rfl
  | v :: r, u => by
    simp only [List.map_cons, List.find?_cons]
    rw [show (Lit.string v.name).sameKey (.string u) = (v.name == u) from rfl]
    cases v.name == u
    · exact find_row r u
    · rfl
theorem any_find {α : Type} (p : α → Bool) : ∀ l : List α, l.any p = (l.find? p).isSome
  | [] => rfl
  | x :: r => by
    simp only [List.any_cons, List.find?_cons]
    cases p x
    · simpa using any_find p r
    · rfl
theorem tab_at (u : List UInt8) : (tabOf verbs).atKey (.string u) (.held (rowV noVb)) = .held (rowV (has u).1) ∧ Maps.has (tabOf verbs) (.string u) = (has u).2 := by
  rw [tab_eq, Maps.has_eq, any_find]
  unfold DataW.atKey
  simp only [find_row]
  unfold has hasIn
  cases verbs.find? (fun v => v.name == u) <;> exact ⟨rfl, rfl⟩
theorem zero_row (w : World) : (zeroValue 66).run Tryz.prog w = .ok (rowV noVb) w := by kernel_rfl
theorem Tab.look {w : World} {b : Nat} (h : Tab w b) (u : List UInt8) (hu : u.length ≤ maxLen) :
    (Instr.lookup 96 (.map (some b)) (.string ⟨u.toArray⟩) true).run Tryz.prog w = .ok (.tuple #[rowV (has u).1, .bool (has u).2]) w ∧
    (Instr.lookup 96 (.map (some b)) (.string ⟨u.toArray⟩) false).run Tryz.prog w = .ok (rowV (has u).1) w := by
  have hkey : keyOf Tryz.prog 9 (.string ⟨u.toArray⟩) = some (.string u) := Go.WideMaps.keyOf_string_mk Tryz.underlying9 (by simpa [ByteArray.size] using hu)
  obtain ⟨h1, h2⟩ := tab_at u
  constructor
  · obtain ⟨v, ps, hrun, hv⟩ := World.ownsMap.look_ok h keyLaw Tryz.underlying96 (zero_row w) (zd := .held (rowV noVb)) (zp := []) rfl hkey
    rw [h1] at hv
    rw [hrun, h2]
    injection hv with hv
    injection hv with hv _
    injection hv with hv
    rw [hv]
  · obtain ⟨v, ps, hrun, hv⟩ := World.ownsMap.lookup h keyLaw Tryz.underlying96 (zero_row w) (zd := .held (rowV noVb)) (zp := []) rfl hkey
    rw [h1] at hv
    rw [hrun]
    injection hv with hv
    injection hv with hv _
    injection hv with hv
    rw [hv]

set_option maxHeartbeats 4000000 in
set_option maxRecDepth 100000 in
theorem table_any (w : World) : Calls Tryz.prog 64 #[] w fun e w' => e = .returned (.map (some w.heap.size)) ∧ Tab w' w.heap.size ∧ Below w.heap.size w w' := by
  have hmm := @run_makeMap Tryz.prog
  have H : MapAt (w.alloc (.map #[] 0)) w.heap.size verbs := MapAt.made w
  have HB : Below w.heap.size w (w.alloc (.map #[] 0)) := (Below.refl _ _).alloc (Nat.le_refl _) _
  unfold verbs at H
  dsimp only at H
  go_enter Tryz.func64, Tryz.ntmps64
  repeat (first | (refine wpList_insert w _ rfl _ _ _ rfl w.heap.size _ _ rfl H HB (Nat.le_refl _) rfl rfl ?_; clear H HB; intro w1 H HB) | go_step | go_upon | go_values | go_skip)
  go_wp2_with fail
  go_ret
  exact ⟨rfl, H.whole, HB⟩

#print axioms table_any
end Go.Proofs.YtdimfppijcebjaaGreatDoor.Vb
