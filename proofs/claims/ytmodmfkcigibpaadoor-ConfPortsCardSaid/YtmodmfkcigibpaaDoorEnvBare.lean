/- The frame of a law's proof over a row that lists a type's handle (errors.errorType, as errors.As reads it) and package api's errors of confs; arguments may be slices. -/
import Derived.Test.YtmodmfkcigibpaaDoorTie
import Derived.Test.YtmodmfkcigibpaaDoorCards
import Derived.Test.YtmodmfkcigibpaaDoorBytes
import Derived.WalkKit
import Derived.ProofKit
import Derived.OpenShut
import Derived.Lib.Hide
import Derived.Lib.LaidTab
import Derived.Lib.QuietBelow
import Derived.Shelf.Vars
import Derived.LaidMore
import Derived.Lay
import Derived.HandedShaped
import Derived.SevenTiedAt
import Derived.Stop.Joined
import Derived.Stop.LaidErr
import Derived.Stop.LaidTwo
import Derived.LaidHandle
namespace Go.Proofs.YtmodmfkcigibpaaDoor
open Go.ChangeShapes Go.WideShapes Go.ChangeAt Go.RowKit
set_option maxRecDepth 100000

theorem bcell {W w1 : World} (hb : Below W.heap.size W w1) : (∀ b o, b < W.heap.size → w1.cell? ⟨b, o, none⟩ = W.cell? ⟨b, o, none⟩) ∧ (∀ b o, b < W.heap.size → w1.frozen? ⟨b, o, none⟩ = W.frozen? ⟨b, o, none⟩) :=
  ⟨fun b o h => hb.cell (p := ⟨b, o, none⟩) h, fun b o h => hb.frozen (p := ⟨b, o, none⟩) h⟩

theorem below_trans {a b c : World} (h : Below a.heap.size a b) (k : Below b.heap.size b c) : Below a.heap.size a c := h.trans (k.mono h.size)

/-- a call behind a call, and one behind a new block -/
theorem below_then {a b c : World} (h : Below a.heap.size a b) (k : Below b.heap.size b c) : Below a.heap.size a c := h.trans (k.mono h.size)
theorem below_new {a b c : World} {o : Obj} (h : Below a.heap.size a b) (k : Below (b.alloc o).heap.size (b.alloc o) c) : Below a.heap.size a c :=
  (h.alloc h.size o).trans (k.mono (by have := h.size; simp; omega))

theorem var_below {w w' : World} {n : String} {cs : Array Value} (h : w.var? Tryd.prog n = some cs) (hb : Below w.heap.size w w') : w'.var? Tryd.prog n = some cs := by
  unfold World.var? at h ⊢
  cases hg : Tryd.prog.globalNamed n with
  | none => rw [hg] at h; exact h
  | some g =>
    rw [hg] at h
    simp only [Option.bind_some] at h ⊢
    have hlt : g < w.heap.size := by
      rcases Nat.lt_or_ge g w.heap.size with hl | hl
      · exact hl
      · rw [Array.getElem?_eq_none hl] at h; cases h
    rw [hb.block g hlt]; exact h

/-- a type's handle, as errors.errorType holds it -/
abbrev handleV : Value := .iface 73 (.agg #[.pointer (some ⟨7, 32, none⟩)])
theorem cell_below {w w' : World} {p : Addr} {v : Value} (h : w.cell? p = some v) (hb : Below w.heap.size w w') : w'.cell? p = some v := by
  rw [hb.cell (World.block_lt_of_cell? w _ h)]; exact h

/-- an error of errors.New's make -/
abbrev newV (a : Addr) : Value := .iface 125 (.pointer (some a))
theorem block_below {w w' : World} {b : Nat} {o : Obj} (h : w.heap[b]? = some o) (hb : Below w.heap.size w w') : w'.heap[b]? = some o := by
  have hlt : b < w.heap.size := by
    rcases Nat.lt_or_ge b w.heap.size with hl | hl
    · exact hl
    · rw [Array.getElem?_eq_none hl] at h; cases h
  rw [hb.block b hlt]; exact h
/-- a block of an error of errors.New's make -/
def Stone (w : World) (a : Addr) : Prop := ∃ c t, w.heap[a.block]? = some (.cells c t (0, 0))
theorem Stone.below {w w' : World} {a : Addr} (h : Stone w a) (hb : Below w.heap.size w w') : Stone w' a := by
  obtain ⟨c, t, h⟩ := h
  exact ⟨c, t, block_below h hb⟩
/-- what errors.As reads, and the three errors that package conf tells: three pointers, no two the same -/
structure Errs (aC aT aP : Addr) (w : World) : Prop where
  et : w.cell? ⟨3, 0, none⟩ = some handleV
  conf : w.cell? ⟨0, 0, none⟩ = some (newV aC)
  ten : w.cell? ⟨1, 0, none⟩ = some (newV aT)
  ports : w.cell? ⟨2, 0, none⟩ = some (newV aP)
  neCT : aC ≠ aT
  neCP : aC ≠ aP
  neTP : aT ≠ aP
  rowC : Stone w aC
  rowT : Stone w aT
  rowP : Stone w aP
theorem Errs.below {aC aT aP : Addr} {w w' : World} (h : Errs aC aT aP w) (hb : Below w.heap.size w w') : Errs aC aT aP w' :=
  ⟨cell_below h.et hb, cell_below h.conf hb, cell_below h.ten hb, cell_below h.ports hb, h.neCT, h.neCP, h.neTP, h.rowC.below hb, h.rowT.below hb, h.rowP.below hb⟩
theorem Errs.alloc {aC aT aP : Addr} {w : World} (h : Errs aC aT aP w) (o : Obj) : Errs aC aT aP (w.alloc o) := h.below ((Below.refl _ _).alloc (Nat.le_refl _) o)

/-- what the library's own variables hold: what errors.As reads, the errors of confs, and the length up to which a text is sought whole -/
structure Env (w : World) : Prop where
  errs : ∃ aC aT aP, Errs aC aT aP w
  most : ∃ m, w.cell? ⟨4, 0, none⟩ = some (.int .i64 m)
theorem Env.below {w w' : World} (h : Env w) (hb : Below w.heap.size w w') : Env w' := by
  obtain ⟨⟨aC, aT, aP, h1⟩, m, h2⟩ := h
  exact ⟨⟨aC, aT, aP, h1.below hb⟩, m, cell_below h2 hb⟩
theorem Env.alloc {w : World} (h : Env w) (o : Obj) : Env (w.alloc o) := h.below ((Below.refl _ _).alloc (Nat.le_refl _) o)
/-- the same, of whatever world stands behind the one in which a call began -/
theorem Env.since {b : Nat} {w w' : World} (h : Env w) (hb : Below b w w') (hw : b = w.heap.size) : Env w' := by subst hw; exact h.below hb

/-! from the row's list to the facts -/
theorem laid_tail {P : Program} {x : String × DataW Unit} {r : List (String × DataW Unit)} {W : World} (h : laidMet P (x :: r) W) : laidMet P r W := by
  obtain ⟨ps, ⟨g, t, cs, f, p, q, _, _, _, _, hr, rfl⟩, hn, ho⟩ := h
  exact ⟨q, hr, (List.nodup_append.1 hn).2.1, fun b off hm => ho b off (by simp [hm])⟩
/-- without the second one of the list -/
theorem laid_skip {P : Program} {x y : String × DataW Unit} {r : List (String × DataW Unit)} {W : World} (h : laidMet P (x :: y :: r) W) : laidMet P (x :: r) W := by
  obtain ⟨ps, ⟨g, t, cs, f, p, q, e1, e2, e3, e4, ⟨g', t', cs', f', p', q', _, _, _, _, hr, rfl⟩, rfl⟩, hn, ho⟩ := h
  have hs : List.Sublist (MemPlace.row ⟨g, 0, none⟩ cs.size ++ p ++ q') (MemPlace.row ⟨g, 0, none⟩ cs.size ++ p ++ (MemPlace.row ⟨g', 0, none⟩ cs'.size ++ p' ++ q')) :=
    List.Sublist.append (List.Sublist.refl _) (List.sublist_append_right _ _)
  exact ⟨_, ⟨g, t, cs, f, p, q', e1, e2, e3, e4, hr, rfl⟩, hn.sublist hs, fun b off hm => ho b off (hs.subset hm)⟩
theorem star : "*" ++ "errors.errorString" = "*errors.errorString" := by decide
theorem row_err (u : TypeId) (h : Tryd.prog.typeName? 3 u = some "*errors.errorString") : u = 125 :=
  typeName_ptr_named (nm := "errors.errorString") (by rw [star]; kernel_rfl) (by kernel_rfl) (by decide) u (by rw [star]; exact h)
theorem same_addr {a b : Addr} {o : Option (Array Value)} (h : o = some #[.iface 125 (.pointer (some a))]) (k : o = some #[.iface 125 (.pointer (some b))]) : a = b := by
  have e := h.symm.trans k
  simpa using e

/-- the list that the rows of this seat share -/
def laidHere : List (String × DataW Unit) := Rows.confTellsRow.laid

/-- its variables that hold data -/
def plainHere : List (String × DataW Unit) := laidHere.filter fun x => x.2.handleName?.isNone
theorem laid_split {P : Program} {l : List (String × DataW Unit)} {W : World} (h : laidMetH P l W) : laidMet P (l.filter fun x => x.2.handleName?.isNone) W ∧ handlesMet P (l.filter fun x => x.2.handleName?.isSome) W := by
  unfold laidMetH at h
  split at h
  · rename_i e
    have e2 : (l.filter fun x => x.2.handleName?.isNone) = l := by
      rw [List.filter_eq_self]
      intro x hx
      have := (List.filter_eq_nil_iff.1 e) x hx
      cases hn : x.2.handleName? with
      | none => rfl
      | some s => rw [hn] at this; exact absurd rfl this
    rw [e2, e]
    exact ⟨h, fun x hx => by cases hx⟩
  · rename_i e
    rw [e]; exact h
theorem plain_is : plainHere = [("unicode/utf8.acceptRanges", Rows.laid_unicode_utf8_acceptRanges), ("wharfinger/api.ErrConf", Rows.laid_wharfinger_api_ErrConf), ("wharfinger/api.ErrTenant", Rows.laid_wharfinger_api_ErrTenant), ("wharfinger/api.ErrPorts", Rows.laid_wharfinger_api_ErrPorts), ("unicode/utf8.first", Rows.laid_unicode_utf8_first)] := by kernel_rfl
theorem handles_are : (laidHere.filter fun x => x.2.handleName?.isSome) = [("errors.errorType", Rows.laid_errors_errorType)] := by kernel_rfl
theorem one_row : ((List.range 158).filter fun t => Tryd.prog.rowNamed t [101, 114, 114, 111, 114]) = [32] := by kernel_rfl
theorem types_size : Tryd.prog.types.size = 158 := by kernel_rfl
theorem rtype_is : (Tryd.prog.cutTypes.find? (·.1 == "internal/reflectlite.rtype")).map (·.2) = some 73 := by kernel_rfl
theorem handle_is : typeHandle Tryd.prog 32 = .pointer (some ⟨7, 32, none⟩) := by kernel_rfl

theorem et_of {W : World} (h : handlesMet Tryd.prog [("errors.errorType", Rows.laid_errors_errorType)] W) : W.cell? ⟨3, 0, none⟩ = some handleV := by
  obtain ⟨name, u, ty, e1, e2, e3, e4, e5⟩ := h _ (List.mem_singleton.2 rfl)
  have en : name = [101, 114, 114, 111, 114] := (Option.some.inj e1).symm
  subst en
  obtain rfl := Option.some.inj (rtype_is.symm.trans e2)
  have hm : ty ∈ (List.range 158).filter fun t => Tryd.prog.rowNamed t [101, 114, 114, 111, 114] := List.mem_filter.2 ⟨List.mem_range.2 (by rw [← types_size]; exact e3), e4⟩
  rw [one_row] at hm
  obtain rfl := List.mem_singleton.1 hm
  rw [handle_is] at e5
  simpa using World.var?_cell (show Tryd.prog.globalNamed "errors.errorType" = some 3 by kernel_rfl) e5 0

theorem env_of {W : World} (h : laidMetH Tryd.prog laidHere W) (hs : W.ShapedOpen Tryd.prog) : Env W := by
  obtain ⟨h, hh⟩ := laid_split h
  rw [handles_are] at hh
  rw [show (laidHere.filter fun x => x.2.handleName?.isNone) = plainHere from rfl, plain_is] at h
  have h1 := laid_tail h
  obtain ⟨aC, aT, s1, s2, c1, c2, t1, t2, hvC, hvT, -, -, -, -, -, -, hne1, hbC, hbT⟩ := laid_sentinels2 (g0 := 0) (g1 := 1) (h1) (by kernel_rfl) (by kernel_rfl) (by kernel_rfl) (by kernel_rfl) Tryd.underlying32 row_err Tryd.underlying125 Tryd.underlying146 rfl rfl Tryd.underlying9 (by kernel_rfl) (by kernel_rfl)
  obtain ⟨aC', aP, s3, s4, c3, c4, t3, t4, hvC', hvP, -, -, -, -, -, -, hne2, -, hbP⟩ := laid_sentinels2 (g0 := 0) (g1 := 2) (laid_skip h1) (by kernel_rfl) (by kernel_rfl) (by kernel_rfl) (by kernel_rfl) Tryd.underlying32 row_err Tryd.underlying125 Tryd.underlying146 rfl rfl Tryd.underlying9 (by kernel_rfl) (by kernel_rfl)
  obtain ⟨aT', aP', s5, s6, c5, c6, t5, t6, hvT', hvP', -, -, -, -, -, -, hne3, -, -⟩ := laid_sentinels2 (g0 := 1) (g1 := 2) (laid_tail h1) (by kernel_rfl) (by kernel_rfl) (by kernel_rfl) (by kernel_rfl) Tryd.underlying32 row_err Tryd.underlying125 Tryd.underlying146 rfl rfl Tryd.underlying9 (by kernel_rfl) (by kernel_rfl)
  obtain rfl := same_addr hvC hvC'
  obtain rfl := same_addr hvT hvT'
  obtain rfl := same_addr hvP hvP'
  refine ⟨⟨aC, aT, aP, et_of hh, ?_, ?_, ?_, hne1, hne2, hne3, ⟨_, _, hbC⟩, ⟨_, _, hbT⟩, ⟨_, _, hbP⟩⟩, cell_of_shapedOpen_int (t := 3) (zero := #[.int .i64 0]) hs (of_decide_eq_true (by kernel_rfl)) (by kernel_rfl) rfl (by kernel_rfl) (by kernel_rfl) Tryd.underlying3⟩
  · simpa using World.var?_cell (show Tryd.prog.globalNamed "wharfinger/api.ErrConf" = some 0 by kernel_rfl) hvC 0
  · simpa using World.var?_cell (show Tryd.prog.globalNamed "wharfinger/api.ErrTenant" = some 1 by kernel_rfl) hvT 0
  · simpa using World.var?_cell (show Tryd.prog.globalNamed "wharfinger/api.ErrPorts" = some 2 by kernel_rfl) hvP 0

/-! a start that meets the list: the handle's cell set, then the data laid -/
noncomputable def startW (os : Os) : World :=
  let w := World.holding Tryd.prog os ⟨#[], #[], []⟩
  { w with heap := w.heap.modify 3 fun
      | .cells _ t frozen => .cells #[handleV] t frozen
      | o => o }
noncomputable def laidW (os : Os) : World := (startW os).layVars Tryd.prog plainHere
theorem laidW_os (os : Os) : (laidW os).os = os := (World.layVars_os _ _ _).trans rfl
theorem laidW_plain (os : Os) (hf : (startW os).layFits Tryd.prog plainHere [] = true) (hi : (startW os).layIfaces Tryd.prog plainHere (laidW os) = true) (args : Array Value) :
    laidMet Tryd.prog plainHere ((laidW os).forCall (fun _ _ => 0) ⟨#[], args, []⟩).memory := by
  have e1 : (plainHere.filter fun x => (plainHere.map (·.1)).contains x.1) = plainHere := List.filter_eq_self.2 fun x hx => List.contains_iff_mem.2 (List.mem_map.2 ⟨x, hx, rfl⟩)
  have e2 : (plainHere.filter fun x => !(plainHere.map (·.1)).contains x.1) = [] := List.filter_eq_nil_iff.2 fun x hx => by rw [List.contains_iff_mem.2 (List.mem_map.2 ⟨x, hx, rfl⟩)]; simp
  have h : laidMet Tryd.prog plainHere (laidW os) := laidMet_layVars (w0 := startW os) (plainHere.map (·.1)) [] (by rw [e1]; rfl) (by rw [e1]; exact hf) (by rw [e1]; exact hi) (by rw [e2]; exact LaidIn.none)
  exact h.of_heap (by simp [World.memory, World.forCall, Input.heap])
theorem laidW_met (os : Os) (args : Array Value) : laidMetH Tryd.prog laidHere ((laidW os).forCall (fun _ _ => 0) ⟨#[], args, []⟩).memory :=
  laidMetH_of_parts (laidW_plain os (by kernel_rfl) (by kernel_rfl) args) (by kernel_rfl)

theorem int_wf {a : Int} (h : (Lit.int .i64 a).wf = true) : -9223372036854775808 ≤ a ∧ a ≤ 9223372036854775807 := by
  have e : (Lit.int .i64 a).wf = (decide (-9223372036854775808 ≤ a) && decide (a ≤ 9223372036854775807)) := rfl
  rw [e] at h
  simpa using h
theorem byte_wf {a : Int} (h : (Lit.int .u8 a).wf = true) : 0 ≤ a ∧ a ≤ 255 := by
  have e : (Lit.int .u8 a).wf = (decide (0 ≤ a) && decide (a ≤ 255)) := rfl
  rw [e] at h
  simpa using h
theorem ownKnobs : ownKnob Tryd.prog.godebug = none := by kernel_rfl

set_option maxRecDepth 100000 in
/-- the frame of a law's proof: the law's contract is asked in every world in which the library's variables hold what they hold -/
theorem handed {H : Type} {enc : TypeId × Value → H} {os : Os} {f : FuncId} {fn : Func} {s : ChangeSpec} (started : os.Started) (noInit : Tryd.prog.inits.idxOf? f = none) (hfn : Tryd.prog.funcs[f]? = some fn) (args0 : Array Value)
    (hok : Input.okWideB Tryd.prog ((laidW os).forCall (fun _ _ => 0) ⟨#[], args0, []⟩) f ⟨#[], args0, []⟩ = true)
    (hpre : s.preB enc Tryd.prog fn [] false ((laidW os).forCall (fun _ _ => 0) ⟨#[], args0, []⟩).memory args0 8 = true)
    (hsz : s.sizedB enc Tryd.prog fn false ((laidW os).forCall (fun _ _ => 0) ⟨#[], args0, []⟩).memory args0 8 = true)
    (hsh : ((laidW os).forCall (fun _ _ => 0) ⟨#[], args0, []⟩).Shaped Tryd.prog)
    (walk : ∀ (W : World) (base : Nat) (args : Array Value) (ds gs : List (DataW H)) (before : List MemPlace),
      (∀ (j : Nat) t v, fn.params[j]? = some t → args[j]? = some v → Value.okWide Tryd.prog W .any base t v) →
      DataW.Whole enc Tryd.prog fn.params.toList s.vars false W args.toList ds gs before → Env W →
      Calls Tryd.prog f args W fun e W' => ∃ v, e = .returned v ∧ s.post enc Tryd.prog fn false true false false W args v W') :
    ReturnsInHanded {} Tryd.checked os f .any (fun w args => (s.pre enc Tryd.prog fn [] false w args ∧ laidMetH Tryd.prog laidHere w) ∧ sizedMet enc Tryd.prog fn (OpenSpec.ofChange s) false w args) (s.post enc Tryd.prog fn false true false false) := by
  refine returnsInHanded_of_calls (C := Tryd.checked) ownKnobs started noInit
    (ChangeSpec.witness_shaped (enc := enc) (C := Tryd.checked) (os := os) (X := fun w _ => laidMetH Tryd.prog laidHere w) false (laidW os) args0 8 (laidW_os os) hsh hok hpre hsz (laidW_met os _)) ?_
  intro w tape i _ shaped _ okay ⟨⟨⟨ds, gs, before, whole, _⟩, laid⟩, _⟩ _
  obtain ⟨_, _, _, fn', hfn', _, _, _, _, vals⟩ := okay
  obtain rfl : fn' = fn := Option.some.inj (hfn'.symm.trans hfn)
  refine (walk (w.forCall tape i) w.heap.size i.args ds gs before vals (DataW.Whole.of_heap (by rfl) whole) (env_of (laid.of_heap (by rfl)) shaped)).mono ?_
  rintro e W' ⟨v, rfl, hp⟩
  exact ChangeSpec.post_blind hp

/-- the law's end: true is told, and what the arguments are made of is as it was -/
theorem told {H : Type} {enc : TypeId × Value → H} {f : Func} {s : ChangeSpec} {W W' : World} {args : Array Value} {v : Value} {ds gs : List (DataW H)} {before pa : List MemPlace}
    (hW : DataW.Whole enc Tryd.prog f.params.toList s.vars false W args.toList ds gs before)
    (hres : ∀ (b : Nat) (sp : Nat → Bool) (hd : Bool), DataW.TrodAll enc Tryd.prog W' b sp hd f.resultTypes.toList (v.resultList f.resultTypes.size) (s.fn H (ds ++ gs)).results [])
    (hargs : DataW.TrodAll enc Tryd.prog W' 0 (fun b => decide (b < W.heap.size)) true f.params.toList args.toList (s.fn H (ds ++ gs)).args pa)
    (hvars : ∀ sp : Nat → Bool, DataW.TrodVars enc Tryd.prog W' sp s.vars (s.fn H (ds ++ gs)).vars [])
    (hb : Below W.heap.size W W') :
    s.post enc Tryd.prog f false true false false W args v W' := by
  refine ⟨ds, gs, before, [], pa, [], hW, hres _ _ _, hargs, hvars _, World.keptBut_mono (fun p hp => by cases hp) (hb.frame (· ∈ [])), fun h => by cases h⟩

#print axioms handed
#print axioms env_of
end Go.Proofs.YtmodmfkcigibpaaDoor
