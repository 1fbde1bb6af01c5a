/- The contract of the document's answer of layer 6: wharfingerref06.Feed. -/
import Derived.Test.YtampgoicogfccaaLineRef
namespace Go.Proofs.Ytampgoicogfccaa.Ln
open Go.Proofs.Ytampgoicogfccaa
open Go.ChangeShapes Go.WideShapes Go.ChangeAt Go.RowKit
set_option linter.unusedSimpArgs false

/-- bytes don't lie in a block that holds none -/
theorem bytes_set {w : World} {v : Value} {l : List UInt8} (h : BytesIs w v l) {b : Nat} {t : TypeId} {cs : Array Value} (r : IsRow w b t cs) (hc : ∀ (i : Nat) (c : UInt8), cs[i]? ≠ some (byteV c)) (i : Nat) (u : Value) : BytesIs (w.setCell ⟨b, i, none⟩ u) v l := by
  rcases h with h | ⟨a, c, rfl, h1, h2, h3⟩
  · exact Or.inl h
  · refine Or.inr ⟨a, c, rfl, h1, h2, fun k hk => ?_⟩
    have hcell := h3 k hk
    have hne : (a.add k).block ≠ b := by
      intro e
      have hp : (a.add k) = ⟨b, (a.add k).off, none⟩ := by
        have := World.cell?_spot hcell
        rw [← e]
        generalize a.add k = a' at *
        cases a'
        simp_all
      rw [hp, r.cell] at hcell
      exact hc _ _ hcell
    rw [← hcell]
    exact World.cell?_of_block (Below.heap_setCell _ _ _ _ hne)
theorem lown_call {w w' : World} {base : Nat} {e : TypeId} {size : Nat} {v : Value} {n : Nat} {xs : List Value} (h : w.ownsRow base e size v n xs) (hb : Below w.heap.size w w') : w'.ownsRow base e size v n xs := by
  refine ⟨h.1, ?_⟩
  rcases h.2 with ⟨rfl, hn⟩ | ⟨g, cap, cur, rfl, hg, hh, hr⟩
  · exact Or.inl ⟨rfl, hn⟩
  · exact Or.inr ⟨g, cap, cur, rfl, hg, by rw [hb.block g (lt_of_block hh)]; exact hh, hr⟩

/-- Feed under way: what has come lies in the first block, the second waits, the lines lie in a row of their own -/
structure St (w : World) (x : Value) (g : Fr) (out : Value) (ls : List (List UInt8 × Bool)) (wr : World) : Prop where
  row : IsRow wr w.heap.size 24 #[x, .bool g.cr, .bool g.skip]
  res : IsRow wr (w.heap.size + 1) 24 #[.slice none 0 0, .bool false, .bool false]
  bytes : BytesIs wr x g.b
  own : wr.ownsRow (w.heap.size + 2) 37 2 out ls.length (ls.flatMap lineCs)
  below : Below w.heap.size w wr

theorem no_byte {w : World} {x : Value} {l : List UInt8} (h : BytesIs w x l) (a b : Bool) : ∀ (i : Nat) (c : UInt8), (#[x, .bool a, .bool b] : Array Value)[i]? ≠ some (byteV c) := by
  intro i c
  obtain ⟨p, n, rfl⟩ := h.form
  match i with
  | 0 => intro e; cases e
  | 1 => intro e; cases e
  | 2 => intro e; cases e
  | i + 3 => intro e; simp at e
theorem St.call {w : World} {x : Value} {g : Fr} {out : Value} {ls : List (List UInt8 × Bool)} {wr w1 : World} (h : St w x g out ls wr) (hb : Below wr.heap.size wr w1) : St w x g out ls w1 :=
  ⟨h.row.call hb, h.res.call hb, h.bytes.call hb, lown_call h.own hb, h.below.trans (hb.mono h.below.size)⟩
theorem St.cr {w : World} {x : Value} {g : Fr} {out : Value} {ls : List (List UInt8 × Bool)} {wr : World} (h : St w x g out ls wr) (b : Bool) : St w x ⟨g.b, b, g.skip⟩ out ls (wr.setCell ⟨w.heap.size, 1, none⟩ (.bool b)) :=
  ⟨h.row.set 1 _, h.res.other (by show w.heap.size + 1 ≠ w.heap.size; omega) _, bytes_set h.bytes h.row (no_byte h.bytes _ _) 1 _, own_other h.own (by show w.heap.size < w.heap.size + 2; omega) _, h.below.setCell (Nat.le_refl _) _⟩
theorem St.store {w : World} {x : Value} {g : Fr} {out : Value} {ls : List (List UInt8 × Bool)} {wr : World} (h : St w x g out ls wr) {y : Value} {g' : Fr} (hy : BytesIs wr y g'.b) :
    St w y g' out ls (((wr.setCell ⟨w.heap.size, 0, none⟩ y).setCell ⟨w.heap.size, 1, none⟩ (.bool g'.cr)).setCell ⟨w.heap.size, 2, none⟩ (.bool g'.skip)) := by
  have n0 := no_byte h.bytes g.cr g.skip
  have r1 : IsRow (wr.setCell ⟨w.heap.size, 0, none⟩ y) w.heap.size 24 #[y, .bool g.cr, .bool g.skip] := h.row.set 0 y
  have b1 := bytes_set hy h.row n0 0 y
  have n1 := no_byte hy g.cr g.skip
  have r2 : IsRow ((wr.setCell ⟨w.heap.size, 0, none⟩ y).setCell ⟨w.heap.size, 1, none⟩ (.bool g'.cr)) w.heap.size 24 #[y, .bool g'.cr, .bool g.skip] := r1.set 1 _
  have b2 := bytes_set b1 r1 n1 1 (.bool g'.cr)
  have n2 := no_byte hy g'.cr g.skip
  have b3 := bytes_set b2 r2 n2 2 (.bool g'.skip)
  exact ⟨r2.set 2 _, ((h.res.other (by show w.heap.size + 1 ≠ w.heap.size; omega) _).other (by show w.heap.size + 1 ≠ w.heap.size; omega) _).other (by show w.heap.size + 1 ≠ w.heap.size; omega) _, b3,
    own_other (own_other (own_other h.own (by show w.heap.size < w.heap.size + 2; omega) _) (by show w.heap.size < w.heap.size + 2; omega) _) (by show w.heap.size < w.heap.size + 2; omega) _,
    ((h.below.setCell (Nat.le_refl _) _).setCell (Nat.le_refl _) _).setCell (Nat.le_refl _) _⟩
/-- a line ended: what was there is let go -/
theorem St.fresh {w : World} {x : Value} {a b : Bool} {out : Value} {ls : List (List UInt8 × Bool)} {wr : World} (h1 : IsRow wr w.heap.size 24 #[x, .bool a, .bool b]) (h2 : IsRow wr (w.heap.size + 1) 24 #[.slice none 0 0, .bool false, .bool false])
    (h3 : wr.ownsRow (w.heap.size + 2) 37 2 out ls.length (ls.flatMap lineCs)) (h4 : Below w.heap.size w wr) :
    St w (.slice none 0 0) none0 out ls (((wr.setCell ⟨w.heap.size, 0, none⟩ (.slice none 0 0)).setCell ⟨w.heap.size, 1, none⟩ (.bool false)).setCell ⟨w.heap.size, 2, none⟩ (.bool false)) :=
  ⟨((h1.set 0 _).set 1 _).set 2 _, ((h2.other (by show w.heap.size + 1 ≠ w.heap.size; omega) _).other (by show w.heap.size + 1 ≠ w.heap.size; omega) _).other (by show w.heap.size + 1 ≠ w.heap.size; omega) _, .nil _,
    own_other (own_other (own_other h3 (by show w.heap.size < w.heap.size + 2; omega) _) (by show w.heap.size < w.heap.size + 2; omega) _) (by show w.heap.size < w.heap.size + 2; omega) _,
    ((h4.setCell (Nat.le_refl _) _).setCell (Nat.le_refl _) _).setCell (Nat.le_refl _) _⟩
/-- told: the second block takes what has come -/
theorem St.last {w : World} {x : Value} {g : Fr} {out : Value} {ls : List (List UInt8 × Bool)} {wr : World} (h : St w x g out ls wr) :
    IsRow (((wr.setCell ⟨w.heap.size + 1, 0, none⟩ x).setCell ⟨w.heap.size + 1, 1, none⟩ (.bool g.cr)).setCell ⟨w.heap.size + 1, 2, none⟩ (.bool g.skip)) (w.heap.size + 1) 24 #[x, .bool g.cr, .bool g.skip] ∧
    BytesIs (((wr.setCell ⟨w.heap.size + 1, 0, none⟩ x).setCell ⟨w.heap.size + 1, 1, none⟩ (.bool g.cr)).setCell ⟨w.heap.size + 1, 2, none⟩ (.bool g.skip)) x g.b ∧
    LinesIs (((wr.setCell ⟨w.heap.size + 1, 0, none⟩ x).setCell ⟨w.heap.size + 1, 1, none⟩ (.bool g.cr)).setCell ⟨w.heap.size + 1, 2, none⟩ (.bool g.skip)) out ls ∧
    Below w.heap.size w (((wr.setCell ⟨w.heap.size + 1, 0, none⟩ x).setCell ⟨w.heap.size + 1, 1, none⟩ (.bool g.cr)).setCell ⟨w.heap.size + 1, 2, none⟩ (.bool g.skip)) := by
  have n0 := no_byte (BytesIs.nil wr) false false
  have r1 : IsRow (wr.setCell ⟨w.heap.size + 1, 0, none⟩ x) (w.heap.size + 1) 24 #[x, .bool false, .bool false] := h.res.set 0 x
  have r2 : IsRow ((wr.setCell ⟨w.heap.size + 1, 0, none⟩ x).setCell ⟨w.heap.size + 1, 1, none⟩ (.bool g.cr)) (w.heap.size + 1) 24 #[x, .bool g.cr, .bool false] := r1.set 1 _
  have b1 := bytes_set h.bytes h.res n0 0 x
  have b2 := bytes_set b1 r1 (no_byte h.bytes _ _) 1 (.bool g.cr)
  have b3 := bytes_set b2 r2 (no_byte h.bytes _ _) 2 (.bool g.skip)
  have hle : w.heap.size ≤ w.heap.size + 1 := by omega
  exact ⟨r2.set 2 _, b3, lines_of_own (own_other (own_other (own_other h.own (by show w.heap.size + 1 < w.heap.size + 2; omega) _) (by show w.heap.size + 1 < w.heap.size + 2; omega) _) (by show w.heap.size + 1 < w.heap.size + 2; omega) _),
    ((h.below.setCell hle _).setCell hle _).setCell hle _⟩
theorem St.c0 {w : World} {x : Value} {g : Fr} {out : Value} {ls : List (List UInt8 × Bool)} {wr : World} (h : St w x g out ls wr) : wr.cell? ⟨w.heap.size, 0, none⟩ = some x := h.row.cell 0
theorem St.c1 {w : World} {x : Value} {g : Fr} {out : Value} {ls : List (List UInt8 × Bool)} {wr : World} (h : St w x g out ls wr) : wr.cell? ⟨w.heap.size, 1, none⟩ = some (.bool g.cr) := h.row.cell 1
theorem St.c2 {w : World} {x : Value} {g : Fr} {out : Value} {ls : List (List UInt8 × Bool)} {wr : World} (h : St w x g out ls wr) : wr.cell? ⟨w.heap.size, 2, none⟩ = some (.bool g.skip) := h.row.cell 2
theorem St.free {w : World} {x : Value} {g : Fr} {out : Value} {ls : List (List UInt8 × Bool)} {wr : World} (h : St w x g out ls wr) (i : Nat) : wr.frozen? ⟨w.heap.size, i, none⟩ = false := h.row.free i

/-- what has come, and the lines -/
def FeedPost (most : Int) (lf : Bool) (f : Fr) (l : List UInt8) (w : World) (e : Ending) (w' : World) : Prop :=
  ∃ x y, e = .returned (.tuple #[framerV x (run most lf f l).1.cr (run most lf f l).1.skip, y]) ∧ BytesIs w' x (run most lf f l).1.b ∧ LinesIs w' y (run most lf f l).2 ∧ Below w.heap.size w w'

set_option maxHeartbeats 4000000 in
set_option maxRecDepth 100000 in
theorem rfeed_any (f : Fr) (u v : Value) (l : List UInt8) (most : Int) (lf : Bool) (hf : f.b.length ≤ 10000) (hl : l.length ≤ 10000) (w : World) (hu : BytesIs w u f.b) (hv : BytesIs w v l) :
    Calls Try.prog 11 #[framerV u f.cr f.skip, v, .int .i64 most, .bool lf] w (FeedPost most lf f l w) := by
  obtain ⟨pu, cu, rfl⟩ := hu.form
  obtain ⟨pv, cv, rfl⟩ := hv.form
  have HV := Lib.hid hv
  have hsz1 : (w.alloc (.cells #[.slice pu f.b.length cu, .bool f.cr, .bool f.skip] 24)).heap.size = w.heap.size + 1 := by simp
  obtain ⟨w2, hw2, R0, R1, B2⟩ : ∃ w2, (w.alloc (.cells #[.slice pu f.b.length cu, .bool f.cr, .bool f.skip] 24)).alloc (.cells #[.slice none 0 0, .bool false, .bool false] 24) = w2 ∧ IsRow w2 w.heap.size 24 #[.slice pu f.b.length cu, .bool f.cr, .bool f.skip] ∧ IsRow w2 (w.heap.size + 1) 24 #[.slice none 0 0, .bool false, .bool false] ∧ Below w.heap.size w w2 :=
    ⟨_, rfl, (IsRow.made _ _ _).alloc _, by have := IsRow.made (w.alloc (.cells #[.slice pu f.b.length cu, .bool f.cr, .bool f.skip] 24)) 24 #[.slice none 0 0, .bool false, .bool false]; rw [hsz1] at this; exact this, ((Below.refl _ _).alloc (Nat.le_refl _) _).alloc (by simp) _⟩
  have hsz2 : w2.heap.size = w.heap.size + 2 := by rw [← hw2]; simp
  have HU := Lib.hid (hu.call B2)
  have d0 : w2.cell? ⟨w.heap.size, 0, none⟩ = some (.slice pu f.b.length cu) := R0.cell 0
  have HR0 := Lib.hid R0; have HR1 := Lib.hid R1; have HB2 := Lib.hid B2
  clear hu hv hsz1 R0 R1 B2
  go_enter Try.func11, Try.ntmps11
  go_wp2_with (at_builtin; refine wpList_append_bytes rfl _ _ rfl (w.heap.size + 2) (.slice none 0 0) [] rfl (World.ownsRow_nil _ _ _ _) _ f.b rfl HU.out ?c1 ?c2 ?_)
  case c1 => first | omega | (simp; omega)
  try (case c2 => omega)
  intro x1 w3 hown hg
  have b3 : Below (w.heap.size + 2) w2 w3 := (Below.refl _ _).grown hg (by omega) (fun k hk => by cases hk)
  have hown1 : w3.ownsRow (w.heap.size + 2) 5 1 x1 f.b.length (f.b.map byteV) := hown
  obtain ⟨p1, n1, rfl⟩ := own_form hown1
  have R0 := HR0.out.below b3 (by omega)
  have R1 := HR1.out.below b3 (by omega)
  have B3 : Below w.heap.size w w3 := HB2.out.trans (b3.mono (by omega))
  have hx1 := bytes_of_own hown1
  have S0 : St w (.slice p1 f.b.length n1) f (.slice none 0 0) [] (w3.setCell ⟨w.heap.size, 0, none⟩ (.slice p1 f.b.length n1)) :=
    ⟨R0.set 0 _, R1.other (by show w.heap.size + 1 ≠ w.heap.size; omega) _, bytes_set hx1 R0 (fun i c => by match i with | 0 => (intro e; cases e) | 1 => (intro e; cases e) | 2 => (intro e; cases e) | i + 3 => (intro e; simp at e)) 0 _, own_other (World.ownsRow_nil _ _ _ _) (by show w.heap.size < w.heap.size + 2; omega) _, B3.setCell (Nat.le_refl _) _⟩
  have a0 : w3.cell? ⟨w.heap.size, 0, none⟩ = some (.slice pu f.b.length cu) := R0.cell 0
  have a1 : w3.frozen? ⟨w.heap.size, 0, none⟩ = false := R0.free 0
  have HS0 := Lib.hid S0
  clear hown hg b3 hown1 R0 R1 B3 hx1 S0 HR0 HR1 HB2 HU
  go_wp2_with fail
  clear a0 a1
  go_loopw [10, 11] (fun x10 x11 wr => ∃ (k : Nat) (g : Fr) (ls : List (List UInt8 × Bool)) (x out : Value), out = x10 ∧ x11 = .int .i64 (k : Int) ∧ k ≤ l.length ∧ Hid (run most lf f (l.take k) = (g, ls)) ∧ St w x g out ls wr) (fun _ i _ => l.length - (intOf i).toNat)
  case atStart => exact ⟨0, f, [], _, _, rfl, rfl, Nat.zero_le _, Lib.hid rfl, HS0.out⟩
  case round =>
    clear HS0 d0
    obtain ⟨k, g, ls, x, out, rfl, rfl, hk, HR, hst⟩ := hrel
    by_cases hlt : k < l.length
    · obtain ⟨a, rfl, hal, hcell⟩ := bytes_some HV.out (by intro e; have h0 : l.length = 0 := List.length_eq_zero_iff.2 e; omega)
      have hc : wr.cell? (a.add k) = some (.int .u8 (l[k].toNat : Int)) := by rw [hst.below.cell (by rw [add_block]; exact hal)]; exact hcell k hlt
      have hbd : g.b.length ≤ 100000 ∧ ls.length ≤ 100000 := by
        have := run_length most lf f (l.take k)
        rw [HR.out] at this
        simp only [List.length_take] at this
        omega
      obtain ⟨hbd, hbl⟩ := hbd
      have HN : Hid (run most lf f (l.take (k + 1)) = ((step most lf g l[k]).1, ls ++ (step most lf g l[k]).2)) := by
        have := run_next (most := most) (lf := lf) (f := f) hlt
        rw [HR.out] at this
        exact this
      clear HR hcell
      generalize l[k] = c at *
      obtain ⟨px, nx, rfl⟩ := hst.bytes.form
      have HST := Lib.hid hst
      have i0 := hst.c0; have i1 := hst.c1; have i2 := hst.c2; have if0 := hst.free 0; have if1 := hst.free 1; have if2 := hst.free 2
      clear hst
      obtain ⟨gb, gcr, gskip⟩ := g
      simp only at hbd i1 i2
      by_cases h13 : c = 13
      · subst h13
        cases gcr with
        | true =>
          have HS : Hid (run most lf f (l.take (k + 1)) = (⟨(put ⟨gb, true, gskip⟩ 13 most).b, true, (put ⟨gb, true, gskip⟩ 13 most).skip⟩, ls)) := Lib.hid (by rw [HN.out]; unfold step; rw [if_neg (by intro h; exact absurd h.1 (by decide)), if_pos rfl]; simp [late])
          have KP := Lib.hid (show Calls Try.prog 20 #[.agg #[.slice px gb.length nx, .bool true, .bool gskip], .int .u8 13, .int .i64 most] wr (FrPost (put ⟨gb, true, gskip⟩ 13 most) wr) from rput_any ⟨gb, true, gskip⟩ _ 13 most (by simp only; omega) wr HST.out.bytes)
          clear HN
          go_wp2_with (go_at_call 20; refine KP.out.mono ?_; rintro e w4 ⟨x4, rfl, hx4, bx4⟩; obtain ⟨p4, n4, rfl⟩ := hx4.form; have S4 := HST.out.call bx4; have T4 := Lib.hid ((S4.store (g' := put ⟨gb, true, gskip⟩ 13 most) hx4).cr false); have j40 := S4.c0; have j41 := S4.c1; have j42 := S4.c2; have j4f0 := S4.free 0; have j4f1 := S4.free 1; have j4f2 := S4.free 2; have m40 := T4.out.c0; have m41 := T4.out.c1; have m42 := T4.out.c2; have m4f0 := T4.out.free 0; have m4f1 := T4.out.free 1; have m4f2 := T4.out.free 2; clear S4 hx4 bx4 KP)
          go_roundw
          case rel => exact ⟨k + 1, ⟨(put ⟨gb, true, gskip⟩ 13 most).b, true, (put ⟨gb, true, gskip⟩ 13 most).skip⟩, ls, _, _, rfl, by go_num, by omega, HS, T4.out.cr true⟩
          case measure => simp [intOf]; omega
        | false =>
          have HS : Hid (run most lf f (l.take (k + 1)) = (⟨gb, true, gskip⟩, ls)) := Lib.hid (by rw [HN.out]; unfold step; rw [if_neg (by intro h; exact absurd h.1 (by decide)), if_pos rfl]; simp [late])
          clear HN
          go_wp2_with fail
          go_roundw
          case rel => exact ⟨k + 1, ⟨gb, true, gskip⟩, ls, _, _, rfl, by go_num, by omega, HS, HST.out.cr true⟩
          case measure => simp [intOf]; omega
      · have q13 : ((c.toNat : Int) == 13) = false := byte_ne h13
        by_cases h10 : c = 10 ∧ (gcr = true ∨ lf = true)
        · obtain ⟨rfl, hor⟩ := h10
          cases gcr with
          | true =>
            have HS : Hid (run most lf f (l.take (k + 1)) = (none0, ls ++ [fin ⟨gb, true, gskip⟩])) := Lib.hid (by rw [HN.out]; unfold step; rw [if_pos ⟨rfl, hor⟩])
            clear HN
            go_wp2_with (first
              | (go_at_call 19; refine (rend_any ⟨gb, true, gskip⟩ _ _ HST.out.bytes).mono ?_; rintro e w4 ⟨rfl, b4⟩; have S4 := Lib.hid (HST.out.call b4); clear b4)
              | (at_builtin; refine wpList_append_lines rfl _ _ rfl (w.heap.size + 2) _ ls rfl (S4.out.own.alloc _) _ [fin ⟨gb, true, gskip⟩] rfl (line_new _ (fin ⟨gb, true, gskip⟩)) ?e1 ?e2 ?_))
            case e1 => first | omega | (simp; omega)
            try (case e2 => have := S4.out.below.size; have := S4.out.res.lt; first | omega | (simp; omega))
            intro o5 w5 hown5 hg5
            have q0 := row_grown (S4.out.row.alloc _) hg5 (fun e => by have := lown_ge S4.out.own _ e.symm; omega)
            have q1 := row_grown (S4.out.res.alloc _) hg5 (fun e => by have := lown_ge S4.out.own _ e.symm; omega)
            have q2 : Below w.heap.size w w5 := (S4.out.below.alloc S4.out.below.size _).grown hg5 (by have := S4.out.below.size; simp; omega) (fun k hk => by have := lown_ge S4.out.own k hk; omega)
            have T5 := Lib.hid (St.fresh (out := o5) (ls := ls ++ [fin ⟨gb, true, gskip⟩]) q0 q1 (by simpa using hown5) q2)
            have m0 : w5.cell? ⟨w.heap.size, 0, none⟩ = some (.slice px gb.length nx) := q0.cell 0
            have m1 : w5.cell? ⟨w.heap.size, 1, none⟩ = some (.bool true) := q0.cell 1
            have m2 : w5.cell? ⟨w.heap.size, 2, none⟩ = some (.bool gskip) := q0.cell 2
            have f0 : w5.frozen? ⟨w.heap.size, 0, none⟩ = false := q0.free 0
            have f1 : w5.frozen? ⟨w.heap.size, 1, none⟩ = false := q0.free 1
            have f2 : w5.frozen? ⟨w.heap.size, 2, none⟩ = false := q0.free 2
            clear hown5 hg5 q0 q1 q2 S4
            go_wp2_with fail
            go_roundw
            case rel => exact ⟨k + 1, none0, ls ++ [fin ⟨gb, true, gskip⟩], _, _, rfl, by go_num, by omega, HS, T5.out⟩
            case measure => simp [intOf]; omega
          | false =>
            obtain rfl : lf = true := by simpa using hor
            have HS : Hid (run most true f (l.take (k + 1)) = (none0, ls ++ [fin ⟨gb, false, gskip⟩])) := Lib.hid (by rw [HN.out]; unfold step; rw [if_pos ⟨rfl, hor⟩])
            clear HN
            go_wp2_with (first
              | (go_at_call 19; refine (rend_any ⟨gb, false, gskip⟩ _ _ HST.out.bytes).mono ?_; rintro e w4 ⟨rfl, b4⟩; have S4 := Lib.hid (HST.out.call b4); clear b4)
              | (at_builtin; refine wpList_append_lines rfl _ _ rfl (w.heap.size + 2) _ ls rfl (S4.out.own.alloc _) _ [fin ⟨gb, false, gskip⟩] rfl (line_new _ (fin ⟨gb, false, gskip⟩)) ?e1 ?e2 ?_))
            case e1 => first | omega | (simp; omega)
            try (case e2 => have := S4.out.below.size; have := S4.out.res.lt; first | omega | (simp; omega))
            intro o5 w5 hown5 hg5
            have q0 := row_grown (S4.out.row.alloc _) hg5 (fun e => by have := lown_ge S4.out.own _ e.symm; omega)
            have q1 := row_grown (S4.out.res.alloc _) hg5 (fun e => by have := lown_ge S4.out.own _ e.symm; omega)
            have q2 : Below w.heap.size w w5 := (S4.out.below.alloc S4.out.below.size _).grown hg5 (by have := S4.out.below.size; simp; omega) (fun k hk => by have := lown_ge S4.out.own k hk; omega)
            have T5 := Lib.hid (St.fresh (out := o5) (ls := ls ++ [fin ⟨gb, false, gskip⟩]) q0 q1 (by simpa using hown5) q2)
            have m0 : w5.cell? ⟨w.heap.size, 0, none⟩ = some (.slice px gb.length nx) := q0.cell 0
            have m1 : w5.cell? ⟨w.heap.size, 1, none⟩ = some (.bool false) := q0.cell 1
            have m2 : w5.cell? ⟨w.heap.size, 2, none⟩ = some (.bool gskip) := q0.cell 2
            have f0 : w5.frozen? ⟨w.heap.size, 0, none⟩ = false := q0.free 0
            have f1 : w5.frozen? ⟨w.heap.size, 1, none⟩ = false := q0.free 1
            have f2 : w5.frozen? ⟨w.heap.size, 2, none⟩ = false := q0.free 2
            clear hown5 hg5 q0 q1 q2 S4
            go_wp2_with fail
            go_roundw
            case rel => exact ⟨k + 1, none0, ls ++ [fin ⟨gb, false, gskip⟩], _, _, rfl, by go_num, by omega, HS, T5.out⟩
            case measure => simp [intOf]; omega
        · cases gcr with
          | true =>
            have q10 : ((c.toNat : Int) == 10) = false := byte_ne (fun h => h10 ⟨h, Or.inl rfl⟩)
            have HS : Hid (run most lf f (l.take (k + 1)) = (put ⟨(put ⟨gb, true, gskip⟩ 13 most).b, false, (put ⟨gb, true, gskip⟩ 13 most).skip⟩ c most, ls)) := Lib.hid (by rw [HN.out]; unfold step; rw [if_neg h10, if_neg h13]; simp [late])
            have KP := Lib.hid (show Calls Try.prog 20 #[.agg #[.slice px gb.length nx, .bool true, .bool gskip], .int .u8 13, .int .i64 most] wr (FrPost (put ⟨gb, true, gskip⟩ 13 most) wr) from rput_any ⟨gb, true, gskip⟩ _ 13 most (by simp only; omega) wr HST.out.bytes)
            have hpl := put_length ⟨gb, true, gskip⟩ 13 most
            clear HN h10
            go_wp2_with (first | (go_at_call 20; refine KP.out.mono ?_; rintro e w4 ⟨x4, rfl, hx4, bx4⟩; obtain ⟨p4, n4, rfl⟩ := hx4.form; have S4 := HST.out.call bx4; have T4 := Lib.hid ((S4.store (g' := put ⟨gb, true, gskip⟩ 13 most) hx4).cr false); have j40 := S4.c0; have j41 := S4.c1; have j42 := S4.c2; have j4f0 := S4.free 0; have j4f1 := S4.free 1; have j4f2 := S4.free 2; have m40 := T4.out.c0; have m41 := T4.out.c1; have m42 := T4.out.c2; have m4f0 := T4.out.free 0; have m4f1 := T4.out.free 1; have m4f2 := T4.out.free 2; clear S4 hx4 bx4 KP) | (go_at_call 20; refine (rput_any ⟨(put ⟨gb, true, gskip⟩ 13 most).b, false, (put ⟨gb, true, gskip⟩ 13 most).skip⟩ _ c most (by simp only at hpl ⊢; omega) _ (T4.out.bytes)).mono ?_; rintro e w6 ⟨x6, rfl, hx6, bx6⟩; obtain ⟨p6, n6, rfl⟩ := hx6.form; have S6 := (T4.out).call bx6; have T6 := Lib.hid (S6.store (g' := put ⟨(put ⟨gb, true, gskip⟩ 13 most).b, false, (put ⟨gb, true, gskip⟩ 13 most).skip⟩ c most) hx6); have j60 := S6.c0; have j61 := S6.c1; have j62 := S6.c2; have j6f0 := S6.free 0; have j6f1 := S6.free 1; have j6f2 := S6.free 2; clear S6 hx6 bx6))
            go_roundw
            case rel => exact ⟨k + 1, put ⟨(put ⟨gb, true, gskip⟩ 13 most).b, false, (put ⟨gb, true, gskip⟩ 13 most).skip⟩ c most, ls, _, _, rfl, by go_num, by omega, HS, T6.out⟩
            case measure => simp [intOf]; omega
          | false =>
            have q10 : ((c.toNat : Int) == 10) = false ∨ (((c.toNat : Int) == 10) = true ∧ lf = false) := by
              by_cases h : c = 10
              · subst h; exact Or.inr ⟨rfl, by cases lf <;> simp_all⟩
              · exact Or.inl (byte_ne h)
            have HS : Hid (run most lf f (l.take (k + 1)) = (put ⟨gb, false, gskip⟩ c most, ls)) := Lib.hid (by rw [HN.out]; unfold step; rw [if_neg h10, if_neg h13]; simp [late])
            clear HN h10
            rcases q10 with q10 | ⟨q10, rfl⟩
            · go_wp2_with (go_at_call 20; refine (rput_any ⟨gb, false, gskip⟩ _ c most (by simp only; omega) _ (HST.out.bytes)).mono ?_; rintro e w4 ⟨x4, rfl, hx4, bx4⟩; obtain ⟨p4, n4, rfl⟩ := hx4.form; have S4 := (HST.out).call bx4; have T4 := Lib.hid (S4.store (g' := put ⟨gb, false, gskip⟩ c most) hx4); have j40 := S4.c0; have j41 := S4.c1; have j42 := S4.c2; have j4f0 := S4.free 0; have j4f1 := S4.free 1; have j4f2 := S4.free 2; clear S4 hx4 bx4)
              go_roundw
              case rel => exact ⟨k + 1, put ⟨gb, false, gskip⟩ c most, ls, _, _, rfl, by go_num, by omega, HS, T4.out⟩
              case measure => simp [intOf]; omega
            · go_wp2_with (go_at_call 20; refine (rput_any ⟨gb, false, gskip⟩ _ c most (by simp only; omega) _ (HST.out.bytes)).mono ?_; rintro e w4 ⟨x4, rfl, hx4, bx4⟩; obtain ⟨p4, n4, rfl⟩ := hx4.form; have S4 := (HST.out).call bx4; have T4 := Lib.hid (S4.store (g' := put ⟨gb, false, gskip⟩ c most) hx4); have j40 := S4.c0; have j41 := S4.c1; have j42 := S4.c2; have j4f0 := S4.free 0; have j4f1 := S4.free 1; have j4f2 := S4.free 2; clear S4 hx4 bx4)
              go_roundw
              case rel => exact ⟨k + 1, put ⟨gb, false, gskip⟩ c most, ls, _, _, rfl, by go_num, by omega, HS, T4.out⟩
              case measure => simp [intOf]; omega
    · obtain rfl : k = l.length := by omega
      rw [List.take_length] at HR
      obtain ⟨px, nx, rfl⟩ := hst.bytes.form
      have i0 := hst.c0
      have i1 := hst.c1
      have i2 := hst.c2
      have r0 : wr.cell? ⟨w.heap.size + 1, 0, none⟩ = some (.slice none 0 0) := hst.res.cell 0
      have r1 : wr.cell? ⟨w.heap.size + 1, 1, none⟩ = some (.bool false) := hst.res.cell 1
      have r2 : wr.cell? ⟨w.heap.size + 1, 2, none⟩ = some (.bool false) := hst.res.cell 2
      have rf0 : wr.frozen? ⟨w.heap.size + 1, 0, none⟩ = false := hst.res.free 0
      have rf1 : wr.frozen? ⟨w.heap.size + 1, 1, none⟩ = false := hst.res.free 1
      have rf2 : wr.frozen? ⟨w.heap.size + 1, 2, none⟩ = false := hst.res.free 2
      have RE := Lib.hid (hst.last)
      clear hst
      go_wp2_with fail
      obtain ⟨rr, rx, ry, rb⟩ := RE.out
      clear RE
      generalize World.setCell _ _ _ = W9 at rr rx ry rb ⊢
      have y0 : W9.cell? ⟨w.heap.size + 1, 0, none⟩ = some (.slice px g.b.length nx) := rr.cell 0
      have y1 : W9.cell? ⟨w.heap.size + 1, 1, none⟩ = some (.bool g.cr) := rr.cell 1
      have y2 : W9.cell? ⟨w.heap.size + 1, 2, none⟩ = some (.bool g.skip) := rr.cell 2
      refine bodyPost_ret (v := .tuple #[framerV (.slice px g.b.length nx) g.cr g.skip, out]) (by simp [results, Try.results11, go_sem, framerV, y0, y1, y2]) rfl ⟨.slice px g.b.length nx, out, ?_, ?_, ?_, rb⟩
      · rw [HR.out]
      · rw [HR.out]; exact rx
      · rw [HR.out]; exact ry

#print axioms rfeed_any
end Go.Proofs.Ytampgoicogfccaa.Ln
