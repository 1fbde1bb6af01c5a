/- The frame of a law's proof over a row that lists strconv's variables, a type's handle (errors.errorType, as errors.As reads it), package ext's two errors and package turn's four; arguments may be slices (gen-turn-env.py). -/
import Derived.Test.YtdimfppijcebjaaGreatDoorTie
import Derived.Test.YtdimfppijcebjaaGreatDoorCards
import Derived.Test.YtdimfppijcebjaaGreatDoorBytes
import Derived.WalkKit
import Derived.ProofKit
import Derived.OpenShut
import Derived.Lib.Hide
import Derived.Lib.LaidTab
import Derived.Lib.QuietBelow
import Derived.Shelf.Vars
import Derived.LaidMore
import Derived.Lay
import Derived.HandedShaped
import Derived.SevenTiedAt
import Derived.Stop.Joined
import Derived.Stop.LaidErr
import Derived.Stop.LaidTwo
import Derived.LaidHandle
import Derived.Test.YtdimfppijcebjaaGreatDoorShelf
import Derived.Lib.AtoiErrMem
import Derived.Lib.AppendIntMem
namespace Go.Proofs.YtdimfppijcebjaaGreatDoor
open Go.ChangeShapes Go.WideShapes Go.ChangeAt Go.RowKit
set_option maxRecDepth 100000

theorem bcell {W w1 : World} (hb : Below W.heap.size W w1) : (∀ b o, b < W.heap.size → w1.cell? ⟨b, o, none⟩ = W.cell? ⟨b, o, none⟩) ∧ (∀ b o, b < W.heap.size → w1.frozen? ⟨b, o, none⟩ = W.frozen? ⟨b, o, none⟩) :=
  ⟨fun b o h => hb.cell (p := ⟨b, o, none⟩) h, fun b o h => hb.frozen (p := ⟨b, o, none⟩) h⟩

theorem below_trans {a b c : World} (h : Below a.heap.size a b) (k : Below b.heap.size b c) : Below a.heap.size a c := h.trans (k.mono h.size)

/-- a call behind a call, and one behind a new block -/
theorem below_then {a b c : World} (h : Below a.heap.size a b) (k : Below b.heap.size b c) : Below a.heap.size a c := h.trans (k.mono h.size)
theorem below_new {a b c : World} {o : Obj} (h : Below a.heap.size a b) (k : Below (b.alloc o).heap.size (b.alloc o) c) : Below a.heap.size a c :=
  (h.alloc h.size o).trans (k.mono (by have := h.size; simp; omega))

theorem var_below {w w' : World} {n : String} {cs : Array Value} (h : w.var? Tryz.prog n = some cs) (hb : Below w.heap.size w w') : w'.var? Tryz.prog n = some cs := by
  unfold World.var? at h ⊢
  cases hg : Tryz.prog.globalNamed n with
  | none => rw [hg] at h; exact h
  | some g =>
    rw [hg] at h
    simp only [Option.bind_some] at h ⊢
    have hlt : g < w.heap.size := by
      rcases Nat.lt_or_ge g w.heap.size with hl | hl
      · exact hl
      · rw [Array.getElem?_eq_none hl] at h; cases h
    rw [hb.block g hlt]; exact h

/-- a type's handle, as errors.errorType holds it -/
abbrev handleV : Value := .iface 145 (.agg #[.pointer (some ⟨15, 49, none⟩)])
theorem cell_below {w w' : World} {p : Addr} {v : Value} (h : w.cell? p = some v) (hb : Below w.heap.size w w') : w'.cell? p = some v := by
  rw [hb.cell (World.block_lt_of_cell? w _ h)]; exact h

/-- an error of errors.New's make -/
abbrev newV (a : Addr) : Value := .iface 199 (.pointer (some a))
theorem block_below {w w' : World} {b : Nat} {o : Obj} (h : w.heap[b]? = some o) (hb : Below w.heap.size w w') : w'.heap[b]? = some o := by
  have hlt : b < w.heap.size := by
    rcases Nat.lt_or_ge b w.heap.size with hl | hl
    · exact hl
    · rw [Array.getElem?_eq_none hl] at h; cases h
  rw [hb.block b hlt]; exact h
/-- a block of an error of errors.New's make -/
def Stone (w : World) (a : Addr) : Prop := ∃ c t, w.heap[a.block]? = some (.cells c t (0, 0))
theorem Stone.below {w w' : World} {a : Addr} (h : Stone w a) (hb : Below w.heap.size w w') : Stone w' a := by
  obtain ⟨c, t, h⟩ := h
  exact ⟨c, t, block_below h hb⟩
/-- what errors.As reads, and the two errors of package ext: two pointers, and not the same one -/
structure Errs (aF aK : Addr) (w : World) : Prop where
  et : w.cell? ⟨4, 0, none⟩ = some handleV
  form : w.cell? ⟨5, 0, none⟩ = some (newV aF)
  kind : w.cell? ⟨6, 0, none⟩ = some (newV aK)
  ne : aF ≠ aK
  rowF : ∃ c t, w.heap[aF.block]? = some (.cells c t (0, 0))
  rowK : ∃ c t, w.heap[aK.block]? = some (.cells c t (0, 0))
theorem Errs.below {aF aK : Addr} {w w' : World} (h : Errs aF aK w) (hb : Below w.heap.size w w') : Errs aF aK w' := by
  obtain ⟨h1, h2, h3, h4, ⟨c, t, h5⟩, ⟨c', t', h6⟩⟩ := h
  exact ⟨cell_below h1 hb, cell_below h2 hb, cell_below h3 hb, h4, ⟨c, t, block_below h5 hb⟩, ⟨c', t', block_below h6 hb⟩⟩
theorem Errs.alloc {aF aK : Addr} {w : World} (h : Errs aF aK w) (o : Obj) : Errs aF aK (w.alloc o) := h.below ((Below.refl _ _).alloc (Nat.le_refl _) o)
/-- the four errors of package turn: four pointers, no two the same -/
structure TErrs (aV aF aK aD : Addr) (w : World) : Prop where
  et : w.cell? ⟨4, 0, none⟩ = some handleV
  verb : w.cell? ⟨0, 0, none⟩ = some (newV aV)
  form : w.cell? ⟨1, 0, none⟩ = some (newV aF)
  kind : w.cell? ⟨2, 0, none⟩ = some (newV aK)
  deny : w.cell? ⟨3, 0, none⟩ = some (newV aD)
  neVF : aV ≠ aF
  neVK : aV ≠ aK
  neVD : aV ≠ aD
  neFK : aF ≠ aK
  neFD : aF ≠ aD
  neKD : aK ≠ aD
  rowV : Stone w aV
  rowF : Stone w aF
  rowK : Stone w aK
  rowD : Stone w aD
theorem TErrs.below {aV aF aK aD : Addr} {w w' : World} (h : TErrs aV aF aK aD w) (hb : Below w.heap.size w w') : TErrs aV aF aK aD w' :=
  ⟨cell_below h.et hb, cell_below h.verb hb, cell_below h.form hb, cell_below h.kind hb, cell_below h.deny hb, h.neVF, h.neVK, h.neVD, h.neFK, h.neFD, h.neKD, h.rowV.below hb, h.rowF.below hb, h.rowK.below hb, h.rowD.below hb⟩
theorem TErrs.alloc {aV aF aK aD : Addr} {w : World} (h : TErrs aV aF aK aD w) (o : Obj) : TErrs aV aF aK aD (w.alloc o) := h.below ((Below.refl _ _).alloc (Nat.le_refl _) o)

/-- what the variables hold that the laws read -/
structure Env (w : World) : Prop where
  tab : Lib.TabIs Tryz.prog w "internal/strconv.uint64pow10" .u64 Lib.pow10Tab
  syn : ∃ tp p, w.var? Tryz.prog "strconv.ErrSyntax" = some #[.iface tp p]
  most : ∃ m, w.cell? ⟨7, 0, none⟩ = some (.int .i64 m)
  lies : 7 < w.heap.size
  errs : ∃ aF aK, Errs aF aK w
  terrs : ∃ aV aF aK aD, TErrs aV aF aK aD w
theorem Env.below {w w' : World} (h : Env w) (hb : Below w.heap.size w w') : Env w' := by
  obtain ⟨h1, ⟨tp, p, h2⟩, ⟨m, h3⟩, h4, ⟨aF, aK, h5⟩, ⟨bV, bF, bK, bD, h6⟩⟩ := h
  exact ⟨var_below h1 hb, ⟨tp, p, var_below h2 hb⟩, ⟨m, cell_below h3 hb⟩, Nat.lt_of_lt_of_le h4 hb.size, ⟨aF, aK, h5.below hb⟩, ⟨bV, bF, bK, bD, h6.below hb⟩⟩
theorem Env.alloc {w : World} (h : Env w) (o : Obj) : Env (w.alloc o) := h.below ((Below.refl _ _).alloc (Nat.le_refl _) o)
/-- the same, of whatever world stands behind the one in which a call began -/
theorem Env.since {b : Nat} {w w' : World} (h : Env w) (hb : Below b w w') (hw : b = w.heap.size) : Env w' := by subst hw; exact h.below hb

/-! from the row's list to the facts -/
theorem laid_tail {P : Program} {x : String × DataW Unit} {r : List (String × DataW Unit)} {W : World} (h : laidMet P (x :: r) W) : laidMet P r W := by
  obtain ⟨ps, ⟨g, t, cs, f, p, q, _, _, _, _, hr, rfl⟩, hn, ho⟩ := h
  exact ⟨q, hr, (List.nodup_append.1 hn).2.1, fun b off hm => ho b off (by simp [hm])⟩
/-- without the second one of the list -/
theorem laid_skip {P : Program} {x y : String × DataW Unit} {r : List (String × DataW Unit)} {W : World} (h : laidMet P (x :: y :: r) W) : laidMet P (x :: r) W := by
  obtain ⟨ps, ⟨g, t, cs, f, p, q, e1, e2, e3, e4, ⟨g', t', cs', f', p', q', _, _, _, _, hr, rfl⟩, rfl⟩, hn, ho⟩ := h
  have hs : List.Sublist (MemPlace.row ⟨g, 0, none⟩ cs.size ++ p ++ q') (MemPlace.row ⟨g, 0, none⟩ cs.size ++ p ++ (MemPlace.row ⟨g', 0, none⟩ cs'.size ++ p' ++ q')) :=
    List.Sublist.append (List.Sublist.refl _) (List.sublist_append_right _ _)
  exact ⟨_, ⟨g, t, cs, f, p, q', e1, e2, e3, e4, hr, rfl⟩, hn.sublist hs, fun b off hm => ho b off (hs.subset hm)⟩
theorem star : "*" ++ "errors.errorString" = "*errors.errorString" := by decide
theorem row_err (u : TypeId) (h : Tryz.prog.typeName? 3 u = some "*errors.errorString") : u = 199 :=
  typeName_ptr_named (nm := "errors.errorString") (by rw [star]; kernel_rfl) (by kernel_rfl) (by decide) u (by rw [star]; exact h)
theorem same_addr {a b : Addr} {o : Option (Array Value)} (h : o = some #[.iface 199 (.pointer (some a))]) (k : o = some #[.iface 199 (.pointer (some b))]) : a = b := by
  have e := h.symm.trans k
  simpa using e

theorem pow10_data : (Rows.laid_internal_strconv_uint64pow10 : DataW Unit) = Lib.tabData .u64 Lib.pow10Tab := by
  unfold Rows.laid_internal_strconv_uint64pow10 Lib.tabData Lib.pow10Tab; rfl

/-- the list that the rows of this seat share -/
def laidHere : List (String × DataW Unit) := Rows.turnTellsRow.laid

/-- its variables that hold data -/
def plainHere : List (String × DataW Unit) := laidHere.filter fun x => x.2.handleName?.isNone
theorem laid_split {P : Program} {l : List (String × DataW Unit)} {W : World} (h : laidMetH P l W) : laidMet P (l.filter fun x => x.2.handleName?.isNone) W ∧ handlesMet P (l.filter fun x => x.2.handleName?.isSome) W := by
  unfold laidMetH at h
  split at h
  · rename_i e
    have e2 : (l.filter fun x => x.2.handleName?.isNone) = l := by
      rw [List.filter_eq_self]
      intro x hx
      have := (List.filter_eq_nil_iff.1 e) x hx
      cases hn : x.2.handleName? with
      | none => rfl
      | some s => rw [hn] at this; exact absurd rfl this
    rw [e2, e]
    exact ⟨h, fun x hx => by cases hx⟩
  · rename_i e
    rw [e]; exact h
theorem plain_is : plainHere = [("math/bits.deBruijn32tab", Rows.laid_math_bits_deBruijn32tab), ("math/bits.deBruijn64tab", Rows.laid_math_bits_deBruijn64tab), ("internal/strconv.uint64pow10", Rows.laid_internal_strconv_uint64pow10), ("unicode/utf8.acceptRanges", Rows.laid_unicode_utf8_acceptRanges), ("strconv.ErrRange", Rows.laid_strconv_ErrRange), ("strconv.ErrSyntax", Rows.laid_strconv_ErrSyntax), ("wharfinger/ext.errForm", Rows.laid_wharfinger_ext_errForm), ("wharfinger/ext.errKind", Rows.laid_wharfinger_ext_errKind), ("wharfinger/turn.errVerb", Rows.laid_wharfinger_turn_errVerb), ("wharfinger/turn.errForm", Rows.laid_wharfinger_turn_errForm), ("wharfinger/turn.errKind", Rows.laid_wharfinger_turn_errKind), ("wharfinger/turn.errDeny", Rows.laid_wharfinger_turn_errDeny), ("unicode/utf8.first", Rows.laid_unicode_utf8_first)] := by kernel_rfl
theorem handles_are : (laidHere.filter fun x => x.2.handleName?.isSome) = [("errors.errorType", Rows.laid_errors_errorType)] := by kernel_rfl
theorem one_row : ((List.range 232).filter fun t => Tryz.prog.rowNamed t [101, 114, 114, 111, 114]) = [49] := by kernel_rfl
theorem types_size : Tryz.prog.types.size = 232 := by kernel_rfl
theorem rtype_is : (Tryz.prog.cutTypes.find? (·.1 == "internal/reflectlite.rtype")).map (·.2) = some 145 := by kernel_rfl
theorem handle_is : typeHandle Tryz.prog 49 = .pointer (some ⟨15, 49, none⟩) := by kernel_rfl

theorem et_of {W : World} (h : handlesMet Tryz.prog [("errors.errorType", Rows.laid_errors_errorType)] W) : W.cell? ⟨4, 0, none⟩ = some handleV := by
  obtain ⟨name, u, ty, e1, e2, e3, e4, e5⟩ := h _ (List.mem_singleton.2 rfl)
  have en : name = [101, 114, 114, 111, 114] := (Option.some.inj e1).symm
  subst en
  obtain rfl := Option.some.inj (rtype_is.symm.trans e2)
  have hm : ty ∈ (List.range 232).filter fun t => Tryz.prog.rowNamed t [101, 114, 114, 111, 114] := List.mem_filter.2 ⟨List.mem_range.2 (by rw [← types_size]; exact e3), e4⟩
  rw [one_row] at hm
  obtain rfl := List.mem_singleton.1 hm
  rw [handle_is] at e5
  simpa using World.var?_cell (show Tryz.prog.globalNamed "errors.errorType" = some 4 by kernel_rfl) e5 0

theorem env_of {W : World} (h : laidMetH Tryz.prog laidHere W) (hs : W.ShapedOpen Tryz.prog) : Env W := by
  obtain ⟨h, hh⟩ := laid_split h
  rw [handles_are] at hh
  rw [show (laidHere.filter fun x => x.2.handleName?.isNone) = plainHere from rfl, plain_is] at h
  have h1 := (laid_tail (laid_tail h))
  obtain ⟨a0, s0, hv0, -, -, -⟩ := laid_sentinel (g := 8) (laid_tail (laid_tail (laid_tail (laid_tail (laid_tail h))))) (by kernel_rfl) (by kernel_rfl) Tryz.underlying49 row_err Tryz.underlying199 Tryz.underlying201 rfl rfl Tryz.underlying9 (by kernel_rfl) (by kernel_rfl)
  obtain ⟨eF, eK, s1, s2, c1, c2, t1, t2, hvF, hvK, -, -, -, -, -, -, hne, hbF, hbK⟩ := laid_sentinels2 (g0 := 5) (g1 := 6) (laid_tail (laid_tail (laid_tail (laid_tail (laid_tail (laid_tail h)))))) (by kernel_rfl) (by kernel_rfl) (by kernel_rfl) (by kernel_rfl) Tryz.underlying49 row_err Tryz.underlying199 Tryz.underlying201 rfl rfl Tryz.underlying9 (by kernel_rfl) (by kernel_rfl)
  obtain ⟨b0x, b0y, s0a, s0b, c0a, c0b, t0a, t0b, hx0, hy0, -, -, -, -, -, -, hn0, rx0, ry0⟩ := laid_sentinels2 (g0 := 0) (g1 := 1) (laid_tail (laid_tail (laid_tail (laid_tail (laid_tail (laid_tail (laid_tail (laid_tail h)))))))) (by kernel_rfl) (by kernel_rfl) (by kernel_rfl) (by kernel_rfl) Tryz.underlying49 row_err Tryz.underlying199 Tryz.underlying201 rfl rfl Tryz.underlying9 (by kernel_rfl) (by kernel_rfl)
  obtain ⟨b1x, b1y, s1a, s1b, c1a, c1b, t1a, t1b, hx1, hy1, -, -, -, -, -, -, hn1, rx1, ry1⟩ := laid_sentinels2 (g0 := 0) (g1 := 2) (laid_skip (laid_tail (laid_tail (laid_tail (laid_tail (laid_tail (laid_tail (laid_tail (laid_tail h))))))))) (by kernel_rfl) (by kernel_rfl) (by kernel_rfl) (by kernel_rfl) Tryz.underlying49 row_err Tryz.underlying199 Tryz.underlying201 rfl rfl Tryz.underlying9 (by kernel_rfl) (by kernel_rfl)
  obtain rfl := same_addr hx0 hx1
  obtain ⟨b2x, b2y, s2a, s2b, c2a, c2b, t2a, t2b, hx2, hy2, -, -, -, -, -, -, hn2, rx2, ry2⟩ := laid_sentinels2 (g0 := 0) (g1 := 3) (laid_skip (laid_skip (laid_tail (laid_tail (laid_tail (laid_tail (laid_tail (laid_tail (laid_tail (laid_tail h)))))))))) (by kernel_rfl) (by kernel_rfl) (by kernel_rfl) (by kernel_rfl) Tryz.underlying49 row_err Tryz.underlying199 Tryz.underlying201 rfl rfl Tryz.underlying9 (by kernel_rfl) (by kernel_rfl)
  obtain rfl := same_addr hx0 hx2
  obtain ⟨b3x, b3y, s3a, s3b, c3a, c3b, t3a, t3b, hx3, hy3, -, -, -, -, -, -, hn3, rx3, ry3⟩ := laid_sentinels2 (g0 := 1) (g1 := 2) (laid_tail (laid_tail (laid_tail (laid_tail (laid_tail (laid_tail (laid_tail (laid_tail (laid_tail h))))))))) (by kernel_rfl) (by kernel_rfl) (by kernel_rfl) (by kernel_rfl) Tryz.underlying49 row_err Tryz.underlying199 Tryz.underlying201 rfl rfl Tryz.underlying9 (by kernel_rfl) (by kernel_rfl)
  obtain rfl := same_addr hy0 hx3
  obtain rfl := same_addr hy1 hy3
  obtain ⟨b4x, b4y, s4a, s4b, c4a, c4b, t4a, t4b, hx4, hy4, -, -, -, -, -, -, hn4, rx4, ry4⟩ := laid_sentinels2 (g0 := 1) (g1 := 3) (laid_skip (laid_tail (laid_tail (laid_tail (laid_tail (laid_tail (laid_tail (laid_tail (laid_tail (laid_tail h)))))))))) (by kernel_rfl) (by kernel_rfl) (by kernel_rfl) (by kernel_rfl) Tryz.underlying49 row_err Tryz.underlying199 Tryz.underlying201 rfl rfl Tryz.underlying9 (by kernel_rfl) (by kernel_rfl)
  obtain rfl := same_addr hy0 hx4
  obtain rfl := same_addr hy2 hy4
  obtain ⟨b5x, b5y, s5a, s5b, c5a, c5b, t5a, t5b, hx5, hy5, -, -, -, -, -, -, hn5, rx5, ry5⟩ := laid_sentinels2 (g0 := 2) (g1 := 3) (laid_tail (laid_tail (laid_tail (laid_tail (laid_tail (laid_tail (laid_tail (laid_tail (laid_tail (laid_tail h)))))))))) (by kernel_rfl) (by kernel_rfl) (by kernel_rfl) (by kernel_rfl) Tryz.underlying49 row_err Tryz.underlying199 Tryz.underlying201 rfl rfl Tryz.underlying9 (by kernel_rfl) (by kernel_rfl)
  obtain rfl := same_addr hy1 hx5
  obtain rfl := same_addr hy2 hy5
  rw [pow10_data] at h1
  refine ⟨Lib.tabIs_of_head (g := 10) (by kernel_rfl) (by kernel_rfl) Tryz.underlying191 Tryz.underlying178 (by kernel_rfl) (by kernel_rfl) h1, ⟨_, _, hv0⟩, ?_, ?_, ⟨eF, eK, et_of hh, ?_, ?_, hne, ⟨_, _, hbF⟩, ⟨_, _, hbK⟩⟩, ⟨b0x, b0y, b1y, b2y, et_of hh, ?_, ?_, ?_, ?_, hn0, hn1, hn2, hn3, hn4, hn5, ⟨_, _, rx0⟩, ⟨_, _, ry0⟩, ⟨_, _, ry1⟩, ⟨_, _, ry2⟩⟩⟩
  · exact cell_of_shapedOpen_int (t := 3) (zero := #[.int .i64 0]) hs (of_decide_eq_true (by kernel_rfl)) (by kernel_rfl) rfl (by kernel_rfl) (by kernel_rfl) Tryz.underlying3
  · obtain ⟨m, hm⟩ := cell_of_shapedOpen_int (g := 7) (t := 3) (zero := #[.int .i64 0]) (k := .i64) hs (of_decide_eq_true (by kernel_rfl)) (by kernel_rfl) rfl (by kernel_rfl) (by kernel_rfl) Tryz.underlying3
    exact World.block_lt_of_cell? W _ hm
  · simpa using World.var?_cell (show Tryz.prog.globalNamed "wharfinger/ext.errForm" = some 5 by kernel_rfl) hvF 0
  · simpa using World.var?_cell (show Tryz.prog.globalNamed "wharfinger/ext.errKind" = some 6 by kernel_rfl) hvK 0
  · simpa using World.var?_cell (show Tryz.prog.globalNamed "wharfinger/turn.errVerb" = some 0 by kernel_rfl) hx0 0
  · simpa using World.var?_cell (show Tryz.prog.globalNamed "wharfinger/turn.errForm" = some 1 by kernel_rfl) hy0 0
  · simpa using World.var?_cell (show Tryz.prog.globalNamed "wharfinger/turn.errKind" = some 2 by kernel_rfl) hy1 0
  · simpa using World.var?_cell (show Tryz.prog.globalNamed "wharfinger/turn.errDeny" = some 3 by kernel_rfl) hy2 0

/-! a start that meets the list: the handle's cell set, then the data laid -/
noncomputable def startW (os : Os) : World :=
  let w := World.holding Tryz.prog os ⟨#[], #[], []⟩
  { w with heap := w.heap.modify 4 fun
      | .cells _ t frozen => .cells #[handleV] t frozen
      | o => o }
noncomputable def laidW (os : Os) : World := (startW os).layVars Tryz.prog plainHere
theorem laidW_os (os : Os) : (laidW os).os = os := (World.layVars_os _ _ _).trans rfl
theorem laidW_plain (os : Os) (hf : (startW os).layFits Tryz.prog plainHere [] = true) (hi : (startW os).layIfaces Tryz.prog plainHere (laidW os) = true) (args : Array Value) :
    laidMet Tryz.prog plainHere ((laidW os).forCall (fun _ _ => 0) ⟨#[], args, []⟩).memory := by
  have e1 : (plainHere.filter fun x => (plainHere.map (·.1)).contains x.1) = plainHere := List.filter_eq_self.2 fun x hx => List.contains_iff_mem.2 (List.mem_map.2 ⟨x, hx, rfl⟩)
  have e2 : (plainHere.filter fun x => !(plainHere.map (·.1)).contains x.1) = [] := List.filter_eq_nil_iff.2 fun x hx => by rw [List.contains_iff_mem.2 (List.mem_map.2 ⟨x, hx, rfl⟩)]; simp
  have h : laidMet Tryz.prog plainHere (laidW os) := laidMet_layVars (w0 := startW os) (plainHere.map (·.1)) [] (by rw [e1]; rfl) (by rw [e1]; exact hf) (by rw [e1]; exact hi) (by rw [e2]; exact LaidIn.none)
  exact h.of_heap (by simp [World.memory, World.forCall, Input.heap])
theorem laidW_met (os : Os) (args : Array Value) : laidMetH Tryz.prog laidHere ((laidW os).forCall (fun _ _ => 0) ⟨#[], args, []⟩).memory :=
  laidMetH_of_parts (laidW_plain os (by kernel_rfl) (by kernel_rfl) args) (by kernel_rfl)

theorem ownKnobs : ownKnob Tryz.prog.godebug = none := by kernel_rfl

set_option maxRecDepth 100000 in
/-- the frame of a law's proof: the law's contract is asked in every world in which the library's variables hold what they hold -/
theorem handed {H : Type} {enc : TypeId × Value → H} {os : Os} {f : FuncId} {fn : Func} {s : ChangeSpec} (started : os.Started) (noInit : Tryz.prog.inits.idxOf? f = none) (hfn : Tryz.prog.funcs[f]? = some fn) (args0 : Array Value)
    (hok : Input.okWideB Tryz.prog ((laidW os).forCall (fun _ _ => 0) ⟨#[], args0, []⟩) f ⟨#[], args0, []⟩ = true)
    (hpre : s.preB enc Tryz.prog fn [] false ((laidW os).forCall (fun _ _ => 0) ⟨#[], args0, []⟩).memory args0 8 = true)
    (hsz : s.sizedB enc Tryz.prog fn false ((laidW os).forCall (fun _ _ => 0) ⟨#[], args0, []⟩).memory args0 8 = true)
    (hsh : ((laidW os).forCall (fun _ _ => 0) ⟨#[], args0, []⟩).Shaped Tryz.prog)
    (walk : ∀ (W : World) (base : Nat) (args : Array Value) (ds gs : List (DataW H)) (before : List MemPlace),
      (∀ (j : Nat) t v, fn.params[j]? = some t → args[j]? = some v → Value.okWide Tryz.prog W .any base t v) →
      DataW.Whole enc Tryz.prog fn.params.toList s.vars false W args.toList ds gs before → Env W →
      Calls Tryz.prog f args W fun e W' => ∃ v, e = .returned v ∧ s.post enc Tryz.prog fn false true false false W args v W') :
    ReturnsInHanded {} Tryz.checked os f .any (fun w args => (s.pre enc Tryz.prog fn [] false w args ∧ laidMetH Tryz.prog laidHere w) ∧ sizedMet enc Tryz.prog fn (OpenSpec.ofChange s) false w args) (s.post enc Tryz.prog fn false true false false) := by
  refine returnsInHanded_of_calls (C := Tryz.checked) ownKnobs started noInit
    (ChangeSpec.witness_shaped (enc := enc) (C := Tryz.checked) (os := os) (X := fun w _ => laidMetH Tryz.prog laidHere w) false (laidW os) args0 8 (laidW_os os) hsh hok hpre hsz (laidW_met os _)) ?_
  intro w tape i _ shaped _ okay ⟨⟨⟨ds, gs, before, whole, _⟩, laid⟩, _⟩ _
  obtain ⟨_, _, _, fn', hfn', _, _, _, _, vals⟩ := okay
  obtain rfl : fn' = fn := Option.some.inj (hfn'.symm.trans hfn)
  refine (walk (w.forCall tape i) w.heap.size i.args ds gs before vals (DataW.Whole.of_heap (by rfl) whole) (env_of (laid.of_heap (by rfl)) shaped)).mono ?_
  rintro e W' ⟨v, rfl, hp⟩
  exact ChangeSpec.post_blind hp

/-- the law's end: true is told, and what the arguments are made of is as it was -/
theorem told {H : Type} {enc : TypeId × Value → H} {f : Func} {s : ChangeSpec} {W W' : World} {args : Array Value} {v : Value} {ds gs : List (DataW H)} {before pa : List MemPlace}
    (hW : DataW.Whole enc Tryz.prog f.params.toList s.vars false W args.toList ds gs before)
    (hres : ∀ (b : Nat) (sp : Nat → Bool) (hd : Bool), DataW.TrodAll enc Tryz.prog W' b sp hd f.resultTypes.toList (v.resultList f.resultTypes.size) (s.fn H (ds ++ gs)).results [])
    (hargs : DataW.TrodAll enc Tryz.prog W' 0 (fun b => decide (b < W.heap.size)) true f.params.toList args.toList (s.fn H (ds ++ gs)).args pa)
    (hvars : ∀ sp : Nat → Bool, DataW.TrodVars enc Tryz.prog W' sp s.vars (s.fn H (ds ++ gs)).vars [])
    (hb : Below W.heap.size W W') :
    s.post enc Tryz.prog f false true false false W args v W' := by
  refine ⟨ds, gs, before, [], pa, [], hW, hres _ _ _, hargs, hvars _, World.keptBut_mono (fun p hp => by cases hp) (hb.frame (· ∈ [])), fun h => by cases h⟩

#print axioms handed
#print axioms env_of
end Go.Proofs.YtdimfppijcebjaaGreatDoor
