/- Chunks ([][]byte), links ([]api.Link) and what goes out ([]api.Out) in memory. -/
import Derived.Test.YtfeiafjeidnmkaaDataPlain
import Derived.Test.YtfeiafjeidnmkaaRowIs
import Derived.Test.YtfeiafjeidnmkaaBytes
namespace Go.Proofs.Ytfeiafjeidnmkaa.Da
open Go.Proofs.Ytfeiafjeidnmkaa
open Go Go.ChangeShapes Go.WideShapes Go.ChangeAt Go.RowKit
set_option maxRecDepth 100000
set_option linter.unusedVariables false

/-- a chunk: the slice, and its bytes -/
structure Ck where
  v : Value
  b : List UInt8
/-- a link: as it lies -/
structure Lk where
  sess : Int
  a : Int
  b : Int
  wv : Value
  ws : List Ck
/-- what goes out: as it lies -/
structure Ou where
  kind : Int
  conn : Int
  h0 : Int
  h1 : Int
  h2 : Int
  h3 : Int
  port : Int
  bv : Value
  b : List UInt8
instance : Inhabited Ck := ⟨⟨.slice none 0 0, []⟩⟩
instance : Inhabited Lk := ⟨⟨0, 0, 0, .slice none 0 0, []⟩⟩
instance : Inhabited Ou := ⟨⟨0, 0, 0, 0, 0, 0, 0, .slice none 0 0, []⟩⟩
def texts (l : List Ck) : List (List UInt8) := l.map (·.b)
def Lk.p (x : Lk) : PL := ⟨x.sess, x.a, x.b, texts x.ws⟩
def Ou.p (x : Ou) : PO := ⟨x.kind, x.conn, x.h0, x.h1, x.h2, x.h3, x.port, x.b⟩
theorem texts_length (l : List Ck) : (texts l).length = l.length := List.length_map _
theorem bytes_one {w : World} {v : Value} {l : List UInt8} (h : BytesIs w v l) : v.oneCell' = true := by
  obtain ⟨p, c, rfl⟩ := h.form
  rfl
abbrev chunks : Lay Ck where
  m := 1
  pos := by decide
  cs := fun x => [x.v]
  len := fun _ => rfl
  ok := fun w x => BytesIs w x.v x.b
  keep := fun _ _ _ h hb => h.call hb
  one := fun w x h u hu => by rw [List.mem_singleton] at hu; subst hu; exact bytes_one h
abbrev linkCs (x : Lk) : List Value := [.int .i64 x.sess, .int .i64 x.a, .int .i64 x.b, x.wv]
abbrev linkV (x : Lk) : Value := .agg #[.int .i64 x.sess, .int .i64 x.a, .int .i64 x.b, x.wv]
abbrev LinkIs (w : World) (x : Lk) : Prop := RowIs chunks w x.wv x.ws
abbrev links : Lay Lk where
  m := 4
  pos := by decide
  cs := linkCs
  len := fun _ => rfl
  ok := LinkIs
  keep := fun _ _ _ h hb => h.call hb
  one := fun w x h u hu => by
    simp only [linkCs, List.mem_cons, List.mem_nil_iff, or_false] at hu
    rcases hu with rfl | rfl | rfl | rfl
    · rfl
    · rfl
    · rfl
    · obtain ⟨p, n, c, e, _⟩ := h.form
      rw [e]; rfl
abbrev outCs (x : Ou) : List Value := [.int .i64 x.kind, .int .i64 x.conn, .int .u8 x.h0, .int .u8 x.h1, .int .u8 x.h2, .int .u8 x.h3, .int .i64 x.port, x.bv]
abbrev outV (x : Ou) : Value := .agg #[.int .i64 x.kind, .int .i64 x.conn, .int .u8 x.h0, .int .u8 x.h1, .int .u8 x.h2, .int .u8 x.h3, .int .i64 x.port, x.bv]
abbrev outs : Lay Ou where
  m := 8
  pos := by decide
  cs := outCs
  len := fun _ => rfl
  ok := fun w x => BytesIs w x.bv x.b
  keep := fun _ _ _ h hb => h.call hb
  one := fun w x h u hu => by
    simp only [outCs, List.mem_cons, List.mem_nil_iff, or_false] at hu
    rcases hu with rfl | rfl | rfl | rfl | rfl | rfl | rfl | rfl
    · rfl
    · rfl
    · rfl
    · rfl
    · rfl
    · rfl
    · rfl
    · exact bytes_one h

theorem info_chunk : (Try.prog.info? 25).map (fun i => (i.zero, i.size, i.bytes)) = some (some (.slice none 0 0), 1, 24) := by kernel_rfl
theorem info_out : (Try.prog.info? 43).map (fun i => (i.zero, i.size, i.bytes)) = some (some (.agg #[.int .i64 0, .int .i64 0, .int .u8 0, .int .u8 0, .int .u8 0, .int .u8 0, .int .i64 0, .slice none 0 0]), 8, 56) := by kernel_rfl
theorem ty_apart : 25 ≠ 5 := by decide
theorem ty_apart2 : 43 ≠ 5 := by decide

/-- bytes of one's own, each behind a slice -/
def Own8 (base : Nat) (w : World) (v : Value) (b : List UInt8) : Prop := w.ownsRow base 5 1 v b.length (b.map byteV)
theorem Own8.is {base : Nat} {w : World} {v : Value} {b : List UInt8} (h : Own8 base w v b) : BytesIs w v b := bytes_of_own h
theorem Own8.call {base : Nat} {w w' : World} {v : Value} {b : List UInt8} (h : Own8 base w v b) (hb : Below w.heap.size w w') : Own8 base w' v b := by
  refine ⟨h.1, ?_⟩
  rcases h.2 with ⟨rfl, hn⟩ | ⟨g, cap, cur, rfl, hg, hh, hr⟩
  · exact Or.inl ⟨rfl, hn⟩
  · exact Or.inr ⟨g, cap, cur, rfl, hg, by rw [hb.block g (lt_of_block hh)]; exact hh, hr⟩
theorem Own8.mono {base base' : Nat} {w : World} {v : Value} {b : List UInt8} (h : Own8 base w v b) (hb : base' ≤ base) : Own8 base' w v b := by
  refine ⟨h.1, ?_⟩
  rcases h.2 with h' | ⟨g, cap, cur, rfl, hg, hr⟩
  · exact Or.inl h'
  · exact Or.inr ⟨g, cap, cur, rfl, Nat.le_trans hb hg, hr⟩
def Owns (base : Nat) (w : World) (l : List Ck) : Prop := ∀ x ∈ l, Own8 base w x.v x.b
theorem Owns.ok {base : Nat} {w : World} {l : List Ck} (h : Owns base w l) : ∀ x ∈ l, chunks.ok w x := fun x hx => (h x hx).is
theorem Owns.call {base : Nat} {w w' : World} {l : List Ck} (h : Owns base w l) (hb : Below w.heap.size w w') : Owns base w' l := fun x hx => (h x hx).call hb
theorem Owns.mono {base base' : Nat} {w : World} {l : List Ck} (h : Owns base w l) (hb : base' ≤ base) : Owns base' w l := fun x hx => (h x hx).mono hb
/-- chunks of one's own -/
abbrev OwnCks (base : Nat) (w : World) (v : Value) (l : List Ck) : Prop := OwnRow chunks 25 base w v l
abbrev OwnOuts (base : Nat) (w : World) (v : Value) (l : List Ou) : Prop := OwnRow outs 43 base w v l
theorem Owns.grown {base base' : Nat} {w w' : World} {v : Value} {l m : List Ck} (h : Owns base w l) (o : OwnCks base' w v m) (hg : w.grownBy w' v.ownBlock) : Owns base w' l :=
  fun x hx => World.ownsRow.kept (h x hx) hg (own_apart (h x hx) o (fun e => ty_apart e.symm))
theorem Own8.grown {base base' : Nat} {w w' : World} {v u : Value} {b : List UInt8} {m : List Ck} (h : Own8 base w u b) (o : OwnCks base' w v m) (hg : w.grownBy w' v.ownBlock) : Own8 base w' u b :=
  World.ownsRow.kept h hg (own_apart h o (fun e => ty_apart e.symm))
theorem Own8.grown2 {base base' : Nat} {w w' : World} {v u : Value} {b : List UInt8} {m : List Ou} (h : Own8 base w u b) (o : OwnOuts base' w v m) (hg : w.grownBy w' v.ownBlock) : Own8 base w' u b :=
  World.ownsRow.kept h hg (own_apart h o (fun e => ty_apart2 e.symm))
/-- bytes ahead of base stay, whatever is appended behind it -/
theorem bytes_grown {w w' : World} {base : Nat} {v u : Value} {b : List UInt8} (h : BytesIs w u b) (hw : ∀ k, v.ownBlock = some k → base ≤ k) (hg : w.grownBy w' v.ownBlock) (hlt : ∀ a n c, u = .slice (some a) n c → b ≠ [] → a.block < base) : BytesIs w' u b := by
  refine h.below (B := min base w.heap.size) ⟨hg.os, hg.tape, hg.output, hg.size, fun k hk => hg.block k (by omega) (fun e => by have := hw k e.symm; omega)⟩ (fun a n c e hne => ?_)
  have h1 := hlt a n c e hne
  have h2 := h.lt a n c e hne
  omega

/-- append(x, y...) of chunks -/
theorem wp_append_cks {w : World} {o : Oper} {a : Act} {K : Act → World → Prop} {Q : Exit → Act → World → Prop} (s x : Operand)
    (ho : o.op = .call { callee := .builtin .append, args := #[s, x], argTypes := #[22, 22] })
    (base : Nat) (v : Value) (l1 : List Ck) (hs : a.eval s = v) (hown : OwnCks base w v l1) (u : Value) (l2 : List Ck) (hx : a.eval x = u) (hu : RowIs chunks w u l2) (hlim : l1.length + l2.length ≤ 1000000) (hbase : base ≤ w.heap.size)
    (h : ∀ v' w', OwnCks base w' v' (l1 ++ l2) → w.grownBy w' v.ownBlock → (v'.ownBlock = v.ownBlock ∨ v'.ownBlock = some w.heap.size) → K (a.put o.dst v') w') : Oper.wp Try.prog o a w K Q := by
  obtain ⟨v', w', hr, h2, h3, h4⟩ := run_append_row 22 _ 24 Try.underlying22 info_chunk rfl (by decide) hown hu hlim hbase o.type
  unfold Oper.wp execOp
  simp only [ho, resolve, invoke, builtin, Sem.run_bind, Sem.run_pure, Result.andThen_ok, List.map_toArray, List.map_cons, List.map_nil, hs, hx, hr]
  exact h v' w' h2 h3 h4
theorem wpList_append_cks {w : World} {ops : Array Oper} {rest : List Oper} {o : Oper} {a : Act} {Q : Exit → Act → World → Prop} (hgd : o.guard = none) (s x : Operand)
    (ho : o.op = .call { callee := .builtin .append, args := #[s, x], argTypes := #[22, 22] })
    (base : Nat) (v : Value) (l1 : List Ck) (hs : a.eval s = v) (hown : OwnCks base w v l1) (u : Value) (l2 : List Ck) (hx : a.eval x = u) (hu : RowIs chunks w u l2) (hlim : l1.length + l2.length ≤ 1000000) (hbase : base ≤ w.heap.size)
    (h : ∀ v' w', OwnCks base w' v' (l1 ++ l2) → w.grownBy w' v.ownBlock → (v'.ownBlock = v.ownBlock ∨ v'.ownBlock = some w.heap.size) → wpList Try.prog ops Q rest (a.put o.dst v') w') : wpList Try.prog ops Q (o :: rest) a w :=
  wpList_plain hgd fun _ hK => wp_append_cks s x ho base v l1 hs hown u l2 hx hu hlim hbase fun v' w' h2 h3 h4 => hK _ _ (h v' w' h2 h3 h4)
theorem step_append_cks {w : World} {ops : Array Oper} {o : Oper} {a : Act} {K : Act → World → Prop} {Q : Exit → Act → World → Prop} {E : Prop} (hgd : o.guard = none) (s x : Operand)
    (ho : o.op = .call { callee := .builtin .append, args := #[s, x], argTypes := #[22, 22] })
    (base : Nat) (v : Value) (l1 : List Ck) (hs : a.eval s = v) (hown : OwnCks base w v l1) (u : Value) (l2 : List Ck) (hx : a.eval x = u) (hu : RowIs chunks w u l2) (hlim : l1.length + l2.length ≤ 1000000) (hbase : base ≤ w.heap.size)
    (h : ∀ v' w', OwnCks base w' v' (l1 ++ l2) → w.grownBy w' v.ownBlock → (v'.ownBlock = v.ownBlock ∨ v'.ownBlock = some w.heap.size) → K (a.put o.dst v') w') :
    if Region.wanted o (yielded ops a.tmps) = true then Oper.wp Try.prog o a w K Q else E := by
  have hw : Region.wanted o (yielded ops a.tmps) = true := by simp [Region.wanted, hgd]
  rw [if_pos hw]
  exact wp_append_cks s x ho base v l1 hs hown u l2 hx hu hlim hbase h
/-- append(x, y...) of what goes out -/
theorem wp_append_outs {w : World} {o : Oper} {a : Act} {K : Act → World → Prop} {Q : Exit → Act → World → Prop} (s x : Operand)
    (ho : o.op = .call { callee := .builtin .append, args := #[s, x], argTypes := #[28, 28] })
    (base : Nat) (v : Value) (l1 : List Ou) (hs : a.eval s = v) (hown : OwnOuts base w v l1) (u : Value) (l2 : List Ou) (hx : a.eval x = u) (hu : RowIs outs w u l2) (hlim : l1.length + l2.length ≤ 1000000) (hbase : base ≤ w.heap.size)
    (h : ∀ v' w', OwnOuts base w' v' (l1 ++ l2) → w.grownBy w' v.ownBlock → (v'.ownBlock = v.ownBlock ∨ v'.ownBlock = some w.heap.size) → K (a.put o.dst v') w') : Oper.wp Try.prog o a w K Q := by
  obtain ⟨v', w', hr, h2, h3, h4⟩ := run_append_row 28 _ 56 Try.underlying28 info_out rfl (by decide) hown hu hlim hbase o.type
  unfold Oper.wp execOp
  simp only [ho, resolve, invoke, builtin, Sem.run_bind, Sem.run_pure, Result.andThen_ok, List.map_toArray, List.map_cons, List.map_nil, hs, hx, hr]
  exact h v' w' h2 h3 h4
theorem wpList_append_outs {w : World} {ops : Array Oper} {rest : List Oper} {o : Oper} {a : Act} {Q : Exit → Act → World → Prop} (hgd : o.guard = none) (s x : Operand)
    (ho : o.op = .call { callee := .builtin .append, args := #[s, x], argTypes := #[28, 28] })
    (base : Nat) (v : Value) (l1 : List Ou) (hs : a.eval s = v) (hown : OwnOuts base w v l1) (u : Value) (l2 : List Ou) (hx : a.eval x = u) (hu : RowIs outs w u l2) (hlim : l1.length + l2.length ≤ 1000000) (hbase : base ≤ w.heap.size)
    (h : ∀ v' w', OwnOuts base w' v' (l1 ++ l2) → w.grownBy w' v.ownBlock → (v'.ownBlock = v.ownBlock ∨ v'.ownBlock = some w.heap.size) → wpList Try.prog ops Q rest (a.put o.dst v') w') : wpList Try.prog ops Q (o :: rest) a w :=
  wpList_plain hgd fun _ hK => wp_append_outs s x ho base v l1 hs hown u l2 hx hu hlim hbase fun v' w' h2 h3 h4 => hK _ _ (h v' w' h2 h3 h4)
theorem step_append_outs {w : World} {ops : Array Oper} {o : Oper} {a : Act} {K : Act → World → Prop} {Q : Exit → Act → World → Prop} {E : Prop} (hgd : o.guard = none) (s x : Operand)
    (ho : o.op = .call { callee := .builtin .append, args := #[s, x], argTypes := #[28, 28] })
    (base : Nat) (v : Value) (l1 : List Ou) (hs : a.eval s = v) (hown : OwnOuts base w v l1) (u : Value) (l2 : List Ou) (hx : a.eval x = u) (hu : RowIs outs w u l2) (hlim : l1.length + l2.length ≤ 1000000) (hbase : base ≤ w.heap.size)
    (h : ∀ v' w', OwnOuts base w' v' (l1 ++ l2) → w.grownBy w' v.ownBlock → (v'.ownBlock = v.ownBlock ∨ v'.ownBlock = some w.heap.size) → K (a.put o.dst v') w') :
    if Region.wanted o (yielded ops a.tmps) = true then Oper.wp Try.prog o a w K Q else E := by
  have hw : Region.wanted o (yielded ops a.tmps) = true := by simp [Region.wanted, hgd]
  rw [if_pos hw]
  exact wp_append_outs s x ho base v l1 hs hown u l2 hx hu hlim hbase h

#print axioms step_append_outs
#print axioms bytes_grown
#print axioms Owns.grown
end Go.Proofs.Ytfeiafjeidnmkaa.Da
