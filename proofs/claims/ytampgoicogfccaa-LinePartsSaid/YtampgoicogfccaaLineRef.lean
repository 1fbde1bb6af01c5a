/- The contracts of the document's answer of layer 6: wharfingerref06.put, end. -/
import Derived.Test.YtampgoicogfccaaFramer
import Derived.Test.YtampgoicogfccaaLines
import Derived.Test.YtampgoicogfccaaLinePlain
import Derived.Lib.Hide
import Derived.Below
namespace Go.Proofs.Ytampgoicogfccaa.Ln
open Go.Proofs.Ytampgoicogfccaa
open Go.ChangeShapes Go.WideShapes Go.ChangeAt Go.RowKit
set_option linter.unusedSimpArgs false

/-- what has come of a line is told: its bytes lie in the last world -/
def FrPost (g : Fr) (w : World) (e : Ending) (w' : World) : Prop :=
  ∃ x, e = .returned (framerV x g.cr g.skip) ∧ BytesIs w' x g.b ∧ Below w.heap.size w w'

set_option maxHeartbeats 2000000 in
set_option maxRecDepth 100000 in
theorem rput_any (f : Fr) (u : Value) (c : UInt8) (most : Int) (hl : f.b.length ≤ 1000000) (w : World) (hu : BytesIs w u f.b) :
    Calls Try.prog 20 #[framerV u f.cr f.skip, .int .u8 (c.toNat : Int), .int .i64 most] w (FrPost (put f c most) w) := by
  obtain ⟨b, cr, skip⟩ := f
  simp only at hl hu
  obtain ⟨p, cp, rfl⟩ := hu.form
  have HU := Lib.hid hu
  clear hu
  have Q0 := IsRow.made w 24 #[.slice p b.length cp, .bool cr, .bool skip]
  have B0 : Below w.heap.size w (w.alloc (.cells #[.slice p b.length cp, .bool cr, .bool skip] 24)) := (Below.refl _ _).alloc (Nat.le_refl _) _
  have Q1 := IsRow.made (w.alloc (.cells #[.slice p b.length cp, .bool cr, .bool skip] 24)) 24 #[.slice none 0 0, .bool false, .bool false]
  have P0 := Q0.alloc (.cells #[.slice none 0 0, .bool false, .bool false] 24)
  have B1 := B0.alloc B0.size (.cells #[.slice none 0 0, .bool false, .bool false] 24)
  have e1 : (w.alloc (.cells #[.slice p b.length cp, .bool cr, .bool skip] 24)).heap.size = w.heap.size + 1 := by simp
  rw [e1] at Q1
  clear e1 B0 Q0
  have hp : put ⟨b, cr, skip⟩ c most = if skip then ⟨b, cr, skip⟩ else if (b.length : Int) < most then ⟨b ++ [c], cr, false⟩ else ⟨[], cr, true⟩ := rfl
  rw [hp]
  clear hp
  cases skip with
  | true =>
    rw [if_pos rfl]
    unfold FrPost framerV
    have HQ := Lib.hid Q1; have HB := Lib.hid B1; have HP := Lib.hid P0
    clear Q1 B1 P0
    go_enter Try.func20, Try.ntmps20
    go_wp2_with fail
    obtain ⟨W9, hW9, FR, B9⟩ : ∃ W9, (w.alloc (.cells #[.slice p b.length cp, .bool cr, .bool true] 24)).alloc (.cells #[.slice p b.length cp, .bool cr, .bool true] 24) = W9 ∧ IsRow W9 (w.heap.size + 1) 24 #[.slice p b.length cp, .bool cr, .bool true] ∧ Below w.heap.size w W9 := ⟨_, rfl, by have := IsRow.made (w.alloc (.cells #[.slice p b.length cp, .bool cr, .bool true] 24)) 24 #[.slice p b.length cp, .bool cr, .bool true]; simpa using this, ((Below.refl _ _).alloc (Nat.le_refl _) _).alloc (by simp) _⟩
    rw [hW9]
    clear hW9
    have XB : BytesIs W9 (.slice p b.length cp) _ := HU.out.call B9
    have y0 : W9.cell? ⟨w.heap.size + 1, 0, none⟩ = some (.slice p b.length cp) := FR.cell 0
    have y1 : W9.cell? ⟨w.heap.size + 1, 1, none⟩ = some (.bool cr) := FR.cell 1
    have y2 : W9.cell? ⟨w.heap.size + 1, 2, none⟩ = some (.bool true) := FR.cell 2
    exact bodyPost_ret (v := framerV (.slice p b.length cp) cr true) (by simp [results, Try.results20, go_sem, framerV, y0, y1, y2]) rfl ⟨.slice p b.length cp, rfl, XB, B9⟩
  | false =>
    rw [if_neg (by simp)]
    by_cases hlt : (b.length : Int) < most
    · rw [if_pos hlt]
      unfold FrPost framerV
      generalize hw2 : World.alloc _ _ = w2 at Q1 B1 P0
      have hsz : w2.heap.size = w.heap.size + 2 := by rw [← hw2]; simp
      have HU2 := Lib.hid (HU.out.call B1)
      have HQ := Lib.hid Q1; have HB := Lib.hid B1; have HP := Lib.hid P0
      have d0 : w2.cell? ⟨w.heap.size, 0, none⟩ = some (.slice p b.length cp) := P0.cell 0
      have d2 : w2.cell? ⟨w.heap.size, 2, none⟩ = some (.bool false) := P0.cell 2
      clear Q1 B1 P0 HU
      go_enter Try.func20, Try.ntmps20
      go_wp2_with (at_builtin; refine wpList_append_bytes rfl _ _ rfl (w.heap.size + 2) (.slice none 0 0) [] rfl (World.ownsRow_nil _ _ _ _) _ b rfl HU2.out ?c1 ?c2 ?_)
      case c1 => first | omega | (simp; omega)
      try (case c2 => omega)
      intro x1 w3 hown hg
      have b3 : Below (w.heap.size + 2) w2 w3 := (Below.refl _ _).grown hg (by omega) (fun k hk => by cases hk)
      have hown1 : w3.ownsRow (w.heap.size + 2) 5 1 x1 b.length (b.map byteV) := hown
      clear hown hg
      go_wp2_with (at_builtin; refine wpList_append_bytes rfl _ _ rfl (w.heap.size + 2) _ b rfl (hown1.alloc _) _ [c] rfl (bytes_new _ [c] (by show 1 ≤ maxLen; decide)) ?d1 ?d2 ?_)
      case d1 => first | omega | (simp; omega)
      try (case d2 => have := b3.size; first | omega | (simp; omega))
      intro x2 w4 hown hg
      have b4 : Below (w.heap.size + 2) w2 w4 := (b3.alloc (by have := b3.size; omega) _).grown hg (by have := b3.size; simp; omega) (own_ge hown1)
      have hown2 : w4.ownsRow (w.heap.size + 2) 5 1 x2 (b ++ [c]).length ((b ++ [c]).map byteV) := by simpa using hown
      obtain ⟨p', cp', rfl⟩ := own_form hown2
      have R0 := HP.out.below b4 (by omega)
      have R1 := HQ.out.below b4 (by omega)
      have B4 := Lib.hid (HB.out.trans (b4.mono (by omega)))
      have f0 : w4.cell? ⟨w.heap.size, 0, none⟩ = some (.slice p b.length cp) := R0.cell 0
      have g0 : w4.frozen? ⟨w.heap.size, 0, none⟩ = false := R0.free 0
      have S0 := R0.set 0 (.slice p' (b ++ [c]).length cp')
      have S1 := R1.other (a := ⟨w.heap.size, 0, none⟩) (by show w.heap.size + 1 ≠ w.heap.size; omega) (.slice p' (b ++ [c]).length cp')
      have OW := Lib.hid (own_other hown2 (a := ⟨w.heap.size, 0, none⟩) (by show w.heap.size < w.heap.size + 2; omega) (.slice p' (b ++ [c]).length cp'))
      have B5 := Lib.hid (B4.out.setCell (p := ⟨w.heap.size, 0, none⟩) (Nat.le_refl _) (.slice p' (b ++ [c]).length cp'))
      have hbc : (b ++ [c]).length = b.length + 1 := by simp
      rw [hbc] at S0 S1 OW B5
      generalize hw5 : w4.setCell ⟨w.heap.size, 0, none⟩ (.slice p' (b.length + 1) cp') = w5 at *
      have s0 : w5.cell? ⟨w.heap.size, 0, none⟩ = some (.slice p' (b.length + 1) cp') := S0.cell 0
      have s1 : w5.cell? ⟨w.heap.size, 1, none⟩ = some (.bool cr) := S0.cell 1
      have s2 : w5.cell? ⟨w.heap.size, 2, none⟩ = some (.bool false) := S0.cell 2
      have t0 : w5.cell? ⟨w.heap.size + 1, 0, none⟩ = some (.slice none 0 0) := S1.cell 0
      have t1 : w5.cell? ⟨w.heap.size + 1, 1, none⟩ = some (.bool false) := S1.cell 1
      have t2 : w5.cell? ⟨w.heap.size + 1, 2, none⟩ = some (.bool false) := S1.cell 2
      have z0 : w5.frozen? ⟨w.heap.size + 1, 0, none⟩ = false := S1.free 0
      have z1 : w5.frozen? ⟨w.heap.size + 1, 1, none⟩ = false := S1.free 1
      have z2 : w5.frozen? ⟨w.heap.size + 1, 2, none⟩ = false := S1.free 2
      have HS := Lib.hid S1
      clear hown hg R0 R1 S0 S1 b3 b4 hown1 hown2 HP HQ HB HU2
      go_wp2_with fail
      generalize hW : World.setCell _ _ _ = W9
      have FR : IsRow W9 (w.heap.size + 1) 24 #[.slice p' (b.length + 1) cp', .bool cr, .bool false] := by rw [← hW]; exact (((HS.out).set 0 _).set 1 _).set 2 _
      have B9 : Below w.heap.size w W9 := by rw [← hW]; exact (((B5.out).setCell (by show w.heap.size ≤ w.heap.size + 1; omega) _).setCell (by show w.heap.size ≤ w.heap.size + 1; omega) _).setCell (by show w.heap.size ≤ w.heap.size + 1; omega) _
      have XB : BytesIs W9 (.slice p' (b.length + 1) cp') (b ++ [c]) := by rw [← hW]; have o := own_other (own_other (own_other OW.out (a := ⟨w.heap.size + 1, 0, none⟩) (by show w.heap.size + 1 < w.heap.size + 2; omega) (.slice p' (b.length + 1) cp')) (a := ⟨w.heap.size + 1, 1, none⟩) (by show w.heap.size + 1 < w.heap.size + 2; omega) (.bool cr)) (a := ⟨w.heap.size + 1, 2, none⟩) (by show w.heap.size + 1 < w.heap.size + 2; omega) (.bool false); rw [← hbc] at o ⊢; exact bytes_of_own o
      have y0 : W9.cell? ⟨w.heap.size + 1, 0, none⟩ = some (.slice p' (b.length + 1) cp') := FR.cell 0
      have y1 : W9.cell? ⟨w.heap.size + 1, 1, none⟩ = some (.bool cr) := FR.cell 1
      have y2 : W9.cell? ⟨w.heap.size + 1, 2, none⟩ = some (.bool false) := FR.cell 2
      exact bodyPost_ret (v := framerV (.slice p' (b.length + 1) cp') cr false) (by simp [results, Try.results20, go_sem, framerV, y0, y1, y2]) rfl ⟨.slice p' (b.length + 1) cp', rfl, XB, B9⟩
    · rw [if_neg hlt]
      unfold FrPost framerV
      have HQ := Lib.hid Q1; have HB := Lib.hid B1; have HP := Lib.hid P0
      clear Q1 B1 P0
      go_enter Try.func20, Try.ntmps20
      go_wp2_with fail
      obtain ⟨W9, hW9, FR, B9⟩ : ∃ W9, (w.alloc (.cells #[.slice none 0 0, .bool cr, .bool true] 24)).alloc (.cells #[.slice none 0 0, .bool cr, .bool true] 24) = W9 ∧ IsRow W9 (w.heap.size + 1) 24 #[.slice none 0 0, .bool cr, .bool true] ∧ Below w.heap.size w W9 := ⟨_, rfl, by have := IsRow.made (w.alloc (.cells #[.slice none 0 0, .bool cr, .bool true] 24)) 24 #[.slice none 0 0, .bool cr, .bool true]; simpa using this, ((Below.refl _ _).alloc (Nat.le_refl _) _).alloc (by simp) _⟩
      rw [hW9]
      clear hW9
      have XB : BytesIs W9 (.slice none 0 0) _ := .nil _
      have y0 : W9.cell? ⟨w.heap.size + 1, 0, none⟩ = some (.slice none 0 0) := FR.cell 0
      have y1 : W9.cell? ⟨w.heap.size + 1, 1, none⟩ = some (.bool cr) := FR.cell 1
      have y2 : W9.cell? ⟨w.heap.size + 1, 2, none⟩ = some (.bool true) := FR.cell 2
      exact bodyPost_ret (v := framerV (.slice none 0 0) cr true) (by simp [results, Try.results20, go_sem, framerV, y0, y1, y2]) rfl ⟨.slice none 0 0, rfl, XB, B9⟩

set_option maxHeartbeats 2000000 in
set_option maxRecDepth 100000 in
theorem rend_any (f : Fr) (u : Value) (w : World) (hu : BytesIs w u f.b) :
    Calls Try.prog 19 #[framerV u f.cr f.skip] w fun e w' => e = .returned (.agg #[.string ⟨(fin f).1.toArray⟩, .bool (fin f).2]) ∧ Below w.heap.size w w' := by
  obtain ⟨b, cr, skip⟩ := f
  simp only at hu
  obtain ⟨p, cp, rfl⟩ := hu.form
  unfold framerV
  cases skip with
  | true =>
    rw [show fin ⟨b, cr, true⟩ = ([], true) from rfl]
    clear hu
    go_enter Try.func19, Try.ntmps19
    go_wp2_with fail
    obtain ⟨W9, hW9, FR, B9⟩ : ∃ W9, (w.alloc (.cells #[.slice p b.length cp, .bool cr, .bool true] 24)).alloc (.cells #[.string ⟨#[]⟩, .bool true] 37) = W9 ∧ IsRow W9 (w.heap.size + 1) 37 #[.string ⟨#[]⟩, .bool true] ∧ Below w.heap.size w W9 := ⟨_, rfl, by have := IsRow.made (w.alloc (.cells #[.slice p b.length cp, .bool cr, .bool true] 24)) 37 #[.string ⟨#[]⟩, .bool true]; simpa using this, ((Below.refl _ _).alloc (Nat.le_refl _) _).alloc (by simp) _⟩
    first | rw [hW9] | trace_state
    clear hW9
    have y0 : W9.cell? ⟨w.heap.size + 1, 0, none⟩ = some (.string ⟨#[]⟩) := FR.cell 0
    have y1 : W9.cell? ⟨w.heap.size + 1, 1, none⟩ = some (.bool true) := FR.cell 1
    exact bodyPost_ret (v := .agg #[.string ⟨#[]⟩, .bool true]) (by simp [results, Try.results19, go_sem, y0, y1]) rfl ⟨rfl, B9⟩
  | false =>
    rw [show fin ⟨b, cr, false⟩ = (b, false) from rfl]
    have B1 : Below w.heap.size w ((w.alloc (.cells #[.slice p b.length cp, .bool cr, .bool false] 24)).alloc (.cells #[.string ⟨#[]⟩, .bool false] 37)) := ((Below.refl _ _).alloc (Nat.le_refl _) _).alloc (by simp) _
    have q := str_of_bytes (hu.call B1)
    clear hu B1
    go_enter Try.func19, Try.ntmps19
    go_wp2_with fail
    obtain ⟨W9, hW9, FR, B9⟩ : ∃ W9, (w.alloc (.cells #[.slice p b.length cp, .bool cr, .bool false] 24)).alloc (.cells #[.string ⟨b.toArray⟩, .bool false] 37) = W9 ∧ IsRow W9 (w.heap.size + 1) 37 #[.string ⟨b.toArray⟩, .bool false] ∧ Below w.heap.size w W9 := ⟨_, rfl, by have := IsRow.made (w.alloc (.cells #[.slice p b.length cp, .bool cr, .bool false] 24)) 37 #[.string ⟨b.toArray⟩, .bool false]; simpa using this, ((Below.refl _ _).alloc (Nat.le_refl _) _).alloc (by simp) _⟩
    first | rw [hW9] | trace_state
    clear hW9
    have y0 : W9.cell? ⟨w.heap.size + 1, 0, none⟩ = some (.string ⟨b.toArray⟩) := FR.cell 0
    have y1 : W9.cell? ⟨w.heap.size + 1, 1, none⟩ = some (.bool false) := FR.cell 1
    exact bodyPost_ret (v := .agg #[.string ⟨b.toArray⟩, .bool false]) (by simp [results, Try.results19, go_sem, y0, y1]) rfl ⟨rfl, B9⟩

#print axioms rend_any
end Go.Proofs.Ytampgoicogfccaa.Ln
