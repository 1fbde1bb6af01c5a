/- The contract of package line: Feed. -/
import Derived.Test.YtampgoicogfccaaLineTake
import Derived.Test.YtampgoicogfccaaLineFeed
import Derived.Test.YtampgoicogfccaaShelf
import Derived.LoopTactic
namespace Go.Proofs.Ytampgoicogfccaa.Ln
open Go.Proofs.Ytampgoicogfccaa
open Go.ChangeShapes Go.WideShapes Go.ChangeAt Go.RowKit
set_option linter.unusedSimpArgs false

theorem fr_u8 : (24 : TypeId) ≠ 5 := by decide
theorem fr_line : (24 : TypeId) ≠ 37 := by decide

/-- bytes.Clone: a row of its own -/
theorem clone_any (u : Value) (l : List UInt8) (hl : l.length ≤ 10000) (w : World) (hu : BytesIs w u l) :
    Calls Try.prog 17 #[u] w fun e w' => ∃ p n, e = .returned (.slice p l.length n) ∧ w'.ownsRow w.heap.size 5 1 (.slice p l.length n) l.length (l.map byteV) ∧ Below w.heap.size w w' := by
  rcases hu with ⟨rfl, rfl⟩ | ⟨a, c, rfl, h1, h2, h3⟩
  · refine (Try.bytes_Clone_nil 0 0 w).mono ?_
    rintro e w' ⟨rfl, rfl⟩
    exact ⟨none, 0, rfl, World.ownsRow_nil _ _ _ _, Below.refl _ _⟩
  · refine (Try.bytes_Clone_at a l.length c (l.map fun c => (c.toNat : Int)) w (by simp) (by omega) (fun i hi => by rw [h3 i hi]; simp [List.getD_eq_getElem?_getD, hi])).mono ?_
    rintro e w' ⟨v', rfl, h4, _, h5⟩
    have h4' : w'.ownsRow w.heap.size 5 1 v' l.length (l.map byteV) := by simpa [List.map_map, Function.comp_def] using h4
    obtain ⟨p, n, rfl⟩ := own_form h4'
    exact ⟨p, n, rfl, h4', h5⟩

/-- told: block b takes what has come -/
theorem Has.last {K B : Nat} {g : Fr} {most : Int} {lf : Bool} {x out : Value} {ls : List (List UInt8 × Bool)} {w wr : World} {b k : Nat} (h : Has K B g most lf x out ls wr) (r : IsRow wr b 24 #[.slice none 0 0, .bool false, .bool false]) (hb : Below k w wr) (hk : k ≤ b) :
    IsRow (((wr.setCell ⟨b, 0, none⟩ x).setCell ⟨b, 1, none⟩ (.bool g.cr)).setCell ⟨b, 2, none⟩ (.bool g.skip)) b 24 #[x, .bool g.cr, .bool g.skip] ∧
    BytesIs (((wr.setCell ⟨b, 0, none⟩ x).setCell ⟨b, 1, none⟩ (.bool g.cr)).setCell ⟨b, 2, none⟩ (.bool g.skip)) x g.b ∧
    LinesIs (((wr.setCell ⟨b, 0, none⟩ x).setCell ⟨b, 1, none⟩ (.bool g.cr)).setCell ⟨b, 2, none⟩ (.bool g.skip)) out ls ∧
    Below k w (((wr.setCell ⟨b, 0, none⟩ x).setCell ⟨b, 1, none⟩ (.bool g.cr)).setCell ⟨b, 2, none⟩ (.bool g.skip)) :=
  ⟨((r.set 0 _).set 1 _).set 2 _,
    bytes_of_own (own_set ((r.set 0 x).set 1 (.bool g.cr)) (own_set (r.set 0 x) (own_set r h.bytes fr_u8 0 _) fr_u8 1 _) fr_u8 2 _),
    lines_of_own (own_set ((r.set 0 x).set 1 (.bool g.cr)) (own_set (r.set 0 x) (own_set r h.lines fr_line 0 _) fr_line 1 _) fr_line 2 _),
    ((hb.setCell hk _).setCell hk _).setCell hk _⟩

set_option maxHeartbeats 4000000 in
set_option maxRecDepth 100000 in
theorem feed_any (f : Fr) (u v : Value) (l : List UInt8) (most : Int) (lf : Bool) (hf : f.b.length ≤ 10000) (hl : l.length ≤ 10000) (w : World) (hu : BytesIs w u f.b) (hv : BytesIs w v l) :
    Calls Try.prog 10 #[framerV u f.cr f.skip, v, .int .i64 most, .bool lf] w (FeedPost most lf f l w) := by
  obtain ⟨pu, cu, rfl⟩ := hu.form
  obtain ⟨pv, cv, rfl⟩ := hv.form
  have HV := Lib.hid hv
  have hsz1 : (w.alloc (.cells #[.slice pu f.b.length cu, .bool f.cr, .bool f.skip] 24)).heap.size = w.heap.size + 1 := by simp
  obtain ⟨w2, hw2, R0, R1, B2⟩ : ∃ w2, (w.alloc (.cells #[.slice pu f.b.length cu, .bool f.cr, .bool f.skip] 24)).alloc (.cells #[.slice none 0 0, .bool false, .bool false] 24) = w2 ∧ IsRow w2 w.heap.size 24 #[.slice pu f.b.length cu, .bool f.cr, .bool f.skip] ∧ IsRow w2 (w.heap.size + 1) 24 #[.slice none 0 0, .bool false, .bool false] ∧ Below w.heap.size w w2 :=
    ⟨_, rfl, (IsRow.made _ _ _).alloc _, by have := IsRow.made (w.alloc (.cells #[.slice pu f.b.length cu, .bool f.cr, .bool f.skip] 24)) 24 #[.slice none 0 0, .bool false, .bool false]; rw [hsz1] at this; exact this, ((Below.refl _ _).alloc (Nat.le_refl _) _).alloc (by simp) _⟩
  have hsz2 : w2.heap.size = w.heap.size + 2 := by rw [← hw2]; simp
  have d0 : w2.cell? ⟨w.heap.size, 0, none⟩ = some (.slice pu f.b.length cu) := R0.cell 0
  have CL := Lib.hid (clone_any _ _ hf w2 (hu.call B2))
  have HR0 := Lib.hid R0; have HR1 := Lib.hid R1; have HB2 := Lib.hid B2
  clear hu hv hsz1 R0 R1 B2
  go_enter Try.func10, Try.ntmps10
  go_wp2_with (go_at_call 17; refine CL.out.mono ?_; rintro e w3 ⟨p1, n1, rfl, o3, b3⟩; have P0 := HR0.out.call b3; have B3 := Lib.hid (HB2.out.trans (b3.mono (by omega))); have hle3 := b3.size; have e0 : w3.cell? ⟨w.heap.size, 0, none⟩ = some (.slice pu f.b.length cu) := P0.cell 0; have ef0 : w3.frozen? ⟨w.heap.size, 0, none⟩ = false := P0.free 0; have S0 : IsRow (w3.setCell ⟨w.heap.size, 0, none⟩ (.slice p1 f.b.length n1)) w.heap.size 24 #[.slice p1 f.b.length n1, .bool f.cr, .bool f.skip] := P0.set 0 _; have s0 : (w3.setCell ⟨w.heap.size, 0, none⟩ (.slice p1 f.b.length n1)).cell? ⟨w.heap.size, 0, none⟩ = some (.slice p1 f.b.length n1) := S0.cell 0; have s1 : (w3.setCell ⟨w.heap.size, 0, none⟩ (.slice p1 f.b.length n1)).cell? ⟨w.heap.size, 1, none⟩ = some (.bool f.cr) := S0.cell 1; have s2 : (w3.setCell ⟨w.heap.size, 0, none⟩ (.slice p1 f.b.length n1)).cell? ⟨w.heap.size, 2, none⟩ = some (.bool f.skip) := S0.cell 2; have O3 := Lib.hid (own_set P0 o3 fr_u8 0 (.slice p1 f.b.length n1)); have P1 := Lib.hid ((HR1.out.call b3).other (a := ⟨w.heap.size, 0, none⟩) (by show w.heap.size + 1 ≠ w.heap.size; omega) (.slice p1 f.b.length n1)); clear P0 S0 o3 b3 CL)
  have HH : Has w2.heap.size w3.heap.size f most lf (.slice p1 f.b.length n1) (.slice none 0 0) [] ((w3.setCell ⟨w.heap.size, 0, none⟩ (.slice p1 f.b.length n1)).alloc (.cells #[.slice p1 f.b.length n1, .bool f.cr, .bool f.skip, .int .i64 most, .bool lf, .slice none 0 0] 44)) :=
    ⟨by have := IsRow.made (w3.setCell ⟨w.heap.size, 0, none⟩ (.slice p1 f.b.length n1)) 44 #[.slice p1 f.b.length n1, .bool f.cr, .bool f.skip, .int .i64 most, .bool lf, .slice none 0 0]; simpa using this, own_call O3.out ((Below.refl _ _).alloc (Nat.le_refl _) _), World.ownsRow_nil _ _ _ _⟩
  have HP := P1.out.alloc (.cells #[.slice p1 f.b.length n1, .bool f.cr, .bool f.skip, .int .i64 most, .bool lf, .slice none 0 0] 44)
  have HB := (B3.out.setCell (p := ⟨w.heap.size, 0, none⟩) (Nat.le_refl _) (.slice p1 f.b.length n1)).alloc (by have := B3.out.size; simpa using this) (.cells #[.slice p1 f.b.length n1, .bool f.cr, .bool f.skip, .int .i64 most, .bool lf, .slice none 0 0] 44)
  have GH := Lib.hid HH; have GP := Lib.hid HP; have GB := Lib.hid HB
  have hKB : w2.heap.size ≤ w3.heap.size := hle3
  clear HH HP HB e0 ef0 s0 s1 s2 O3 P1 B3 d0 HR0 HR1 HB2 hle3
  generalize World.alloc (World.setCell _ _ _) _ = w5 at GH GP GB ⊢
  generalize w3.heap.size = B at *
  generalize Value.slice p1 f.b.length n1 = x1 at *
  clear w3
  go_loopw [23] (fun x23 wr => ∃ (k : Nat) (g : Fr) (ls : List (List UInt8 × Bool)) (x out : Value), x23 = .int .i64 (k : Int) ∧ k ≤ l.length ∧ Hid (run most lf f (l.take k) = (g, ls)) ∧ Hid (Has w2.heap.size B g most lf x out ls wr) ∧ Hid (IsRow wr (w.heap.size + 1) 24 #[.slice none 0 0, .bool false, .bool false]) ∧ Hid (Below w.heap.size w wr)) (fun i _ => l.length - (intOf i).toNat)
  case atStart => exact ⟨0, f, [], _, _, rfl, Nat.zero_le _, Lib.hid rfl, GH, GP, GB⟩
  case round =>
    clear GH GP GB
    obtain ⟨k, g, ls, x, out, rfl, hk, HR, HST, HP, HB⟩ := hrel
    by_cases hlt : k < l.length
    · obtain ⟨a, rfl, hal, hcell⟩ := bytes_some HV.out (by intro e; have h0 : l.length = 0 := List.length_eq_zero_iff.2 e; omega)
      have hc : wr.cell? (a.add k) = some (.int .u8 (l[k].toNat : Int)) := by rw [HB.out.cell (by rw [add_block]; exact hal)]; exact hcell k hlt
      have hbd : g.b.length ≤ 100000 ∧ ls.length ≤ 100000 := by
        have := run_length most lf f (l.take k)
        rw [HR.out] at this
        simp only [List.length_take] at this
        omega
      obtain ⟨hbd, hbl⟩ := hbd
      have HN : Hid (run most lf f (l.take (k + 1)) = ((step most lf g l[k]).1, ls ++ (step most lf g l[k]).2)) := by
        have := run_next (most := most) (lf := lf) (f := f) hlt
        rw [HR.out] at this
        exact this
      clear HR hcell
      generalize l[k] = c at *
      go_wp2_with (go_at_call 18; refine (take_any _ B g most lf _ _ ls c hKB (by omega) (by omega) _ HST.out).mono ?_; rintro e w4 ⟨rfl, ⟨x4, o4, h4⟩, b4⟩; have H4 := Lib.hid h4; have P4 := Lib.hid (HP.out.below b4 (by omega)); have B4 := Lib.hid (HB.out.trans (b4.mono (by omega))); clear h4 b4 HST HP HB)
      go_roundw
      case rel => exact ⟨k + 1, _, _, x4, o4, by go_num, by omega, HN, H4, P4, B4⟩
      case measure => simp [intOf]; omega
    · obtain rfl : k = l.length := by omega
      rw [List.take_length] at HR
      obtain ⟨px, nx, rfl⟩ := own_form HST.out.bytes
      obtain ⟨po, no, rfl⟩ := lown_form HST.out.lines
      have i0 := HST.out.c0
      have i1 := HST.out.c1
      have i2 := HST.out.c2
      have i5 := HST.out.c5
      have r0 : wr.cell? ⟨w.heap.size + 1, 0, none⟩ = some (.slice none 0 0) := HP.out.cell 0
      have r1 : wr.cell? ⟨w.heap.size + 1, 1, none⟩ = some (.bool false) := HP.out.cell 1
      have r2 : wr.cell? ⟨w.heap.size + 1, 2, none⟩ = some (.bool false) := HP.out.cell 2
      have rf0 : wr.frozen? ⟨w.heap.size + 1, 0, none⟩ = false := HP.out.free 0
      have rf1 : wr.frozen? ⟨w.heap.size + 1, 1, none⟩ = false := HP.out.free 1
      have rf2 : wr.frozen? ⟨w.heap.size + 1, 2, none⟩ = false := HP.out.free 2
      have RE := Lib.hid (HST.out.last HP.out HB.out (by omega))
      clear HST HP HB
      go_wp2_with fail
      go_region
      all_goals (
        try go_wp2_with fail
        obtain ⟨rr, rx, ry, rb⟩ := RE.out
        clear RE
        have rr := rr.drew
        have rx := rx.call (Below.refl _ _).drew
        have ry := ry.call (Below.refl _ _).drew
        have rb := rb.drew
        generalize World.drew _ = W9 at rr rx ry rb ⊢
        have y0 : W9.cell? ⟨w.heap.size + 1, 0, none⟩ = some (.slice px g.b.length nx) := rr.cell 0
        have y1 : W9.cell? ⟨w.heap.size + 1, 1, none⟩ = some (.bool g.cr) := rr.cell 1
        have y2 : W9.cell? ⟨w.heap.size + 1, 2, none⟩ = some (.bool g.skip) := rr.cell 2
        refine bodyPost_ret (v := .tuple #[framerV (.slice px g.b.length nx) g.cr g.skip, .slice po ls.length no]) (by simp [results, Try.results10, go_sem, framerV, y0, y1, y2]) rfl ⟨.slice px g.b.length nx, .slice po ls.length no, ?_, ?_, ?_, rb⟩
        · rw [HR.out]
        · rw [HR.out]; exact rx
        · rw [HR.out]; exact ry)

#print axioms feed_any
end Go.Proofs.Ytampgoicogfccaa.Ln
