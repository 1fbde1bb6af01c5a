/- The contracts of package telnet: isWish, known, take, Strip. -/
import Derived.Test.YtkbekabpbgdhfaaDoorEnvPlain
import Derived.Test.YtkbekabpbgdhfaaDoorTelPlain
import Derived.Laws.AppendOwn
import Derived.OwnWalk
namespace Go.Proofs.YtkbekabpbgdhfaaDoor.Tel
open Go.Proofs.YtkbekabpbgdhfaaDoor
open Go.ChangeShapes Go.WideShapes Go.ChangeAt Go.RowKit Go.Sort
set_option linter.unusedSimpArgs false


theorem iswish_any (c : UInt8) (w : World) : Calls Tryd.prog 16 #[.int .u8 (c.toNat : Int)] w fun e w' => e = .returned (.bool (decide (251 ≤ c.toNat ∧ c.toNat ≤ 254))) ∧ w' = w := by
  by_cases h1 : 251 ≤ c.toNat
  · by_cases h2 : c.toNat ≤ 254
    · have g1 : (251 : Int) ≤ (c.toNat : Int) := by omega
      have g2 : (c.toNat : Int) ≤ 254 := by omega
      go_enter Tryd.func16, Tryd.ntmps16
      go_wp2
      go_ret
      exact ⟨by simp [h1, h2], rfl⟩
    · have g1 : (251 : Int) ≤ (c.toNat : Int) := by omega
      have g2 : ¬ (c.toNat : Int) ≤ 254 := by omega
      go_enter Tryd.func16, Tryd.ntmps16
      go_wp2
      go_ret
      exact ⟨by simp [h2], rfl⟩
  · have g1 : ¬ (251 : Int) ≤ (c.toNat : Int) := by omega
    go_enter Tryd.func16, Tryd.ntmps16
    go_wp2
    go_ret
    exact ⟨by simp [h1], rfl⟩

theorem known_any (n : Int) (w : World) : Calls Tryd.prog 13 #[.int .i64 n] w fun e w' => e = .returned (.int .i64 (norm n : Int)) ∧ w' = w := by
  unfold norm
  by_cases h1 : n = 1
  · subst h1
    go_enter Tryd.func13, Tryd.ntmps13
    go_wp2
    go_ret
    exact ⟨rfl, rfl⟩
  by_cases h2 : n = 2
  · subst h2
    go_enter Tryd.func13, Tryd.ntmps13
    go_wp2
    go_ret
    exact ⟨rfl, rfl⟩
  have q1 : (n == 1) = false := beq_eq_false_iff_ne.2 h1
  have q2 : (n == 2) = false := beq_eq_false_iff_ne.2 h2
  rw [if_neg h1, if_neg h2]
  go_enter Tryd.func13, Tryd.ntmps13
  go_wp2
  go_ret
  exact ⟨rfl, rfl⟩


/-- what has come of bytes, in block B: the state, what is left in a row of its own behind B, how many are counted -/
def Has (B : Nat) (v : Value) (l : List UInt8) (s n : Nat) (w : World) : Prop :=
  IsRow w B 33 #[.int .i64 (s : Int), v, .int .i64 (n : Int)] ∧ w.ownsRow (B + 1) 5 1 v l.length (l.map byteV)

theorem own_next {w : World} {base : Nat} {v : Value} {l : List UInt8} {c : UInt8} (h : w.ownsRow base 5 1 v (l.length + 1) (l.map byteV ++ [byteV c])) : w.ownsRow base 5 1 v (l ++ [c]).length ((l ++ [c]).map byteV) := by
  simpa using h

/-- one byte taken -/
def TakePost (w0 : World) (B : Nat) (l : List UInt8) (s n : Nat) (c : UInt8) (e : Ending) (w' : World) : Prop :=
  e = .returned (.tuple #[]) ∧ (∃ v', Has B v' (l ++ (step s c).2.1) (step s c).1 (n + (step s c).2.2) w') ∧ Below w0.heap.size w0 w'

set_option maxHeartbeats 1000000 in
set_option maxRecDepth 100000 in
theorem take_state (w0 w : World) (B : Nat) (v : Value) (l : List UInt8) (s n : Nat) (c : UInt8) (hB : w0.heap.size ≤ B) (hb : Below w0.heap.size w0 w) (h : Has B v l s n w)
    (hk : (s = 0 ∧ c = 255) ∨ (s = 1 ∧ 251 ≤ c.toNat ∧ c.toNat ≤ 254) ∨ s = 2 ∨ (s = 1 ∧ c ≠ 255 ∧ c ≠ 242 ∧ ¬ (251 ≤ c.toNat ∧ c.toNat ≤ 254))) :
    Calls Tryd.prog 14 #[.pointer (some ⟨B, 0, none⟩), .int .u8 (c.toNat : Int)] w (TakePost w0 B l s n c) := by
  obtain ⟨hr, hown⟩ := h
  have c0 : w.cell? ⟨B, 0, none⟩ = some (.int .i64 (s : Int)) := hr.cell 0
  have f0 : w.frozen? ⟨B, 0, none⟩ = false := hr.free 0
  have fin : ∀ s' : Nat, step s c = (s', [], 0) → TakePost w0 B l s n c (.returned (.tuple #[])) (w.setCell ⟨B, 0, none⟩ (.int .i64 (s' : Int))) := by
    intro s' hs
    refine ⟨rfl, ⟨v, ?_, ?_⟩, hb.setCell hB _⟩
    · rw [hs]; exact hr.set 0 _
    · rw [hs]; simp only [List.append_nil]; exact own_other hown (by show B < B + 1; omega) _
  have FIN := Lib.hid fin
  clear fin hr hown hb
  have W := Lib.hid (fun c w => iswish_any c w)
  rcases hk with ⟨rfl, rfl⟩ | ⟨rfl, h1, h2⟩ | rfl | ⟨rfl, h1, h2, h3⟩
  · go_enter Tryd.func14, Tryd.ntmps14
    go_wp2
    go_end0
    exact FIN.out 1 (by simp [step])
  · have q1 : ((c.toNat : Int) == 255) = false := beq_eq_false_iff_ne.2 (by omega)
    go_enter Tryd.func14, Tryd.ntmps14
    go_wp2_with (go_at_call 16; refine (W.out _ _).mono ?_; rintro e w' ⟨rfl, rfl⟩; rw [decide_eq_true ⟨h1, h2⟩])
    go_end0
    exact FIN.out 2 (by
      have n1 : c ≠ 255 := by intro e; subst e; revert h2; decide
      have n2 : c ≠ 242 := by intro e; subst e; revert h1; decide
      simp [step, h1, h2, n1, n2])
  · go_enter Tryd.func14, Tryd.ntmps14
    go_wp2
    go_end0
    exact FIN.out 0 (by simp [step])
  · have q1 : ((c.toNat : Int) == 255) = false := byte_ne h1
    have q2 : ((c.toNat : Int) == 242) = false := byte_ne h2
    have q3 : ((c.toNat : Int) != 255) = true := by rw [bne, q1]; rfl
    go_enter Tryd.func14, Tryd.ntmps14
    go_wp2_with (go_at_call 16; refine (W.out _ _).mono ?_; rintro e w' ⟨rfl, rfl⟩; rw [decide_eq_false h3])
    go_end0
    exact FIN.out 0 (by simp [step, h1, h2, h3])


set_option maxHeartbeats 1000000 in
set_option maxRecDepth 100000 in
/-- a 242 behind a call is counted -/
theorem take_drop (w0 w : World) (B : Nat) (v : Value) (l : List UInt8) (n : Nat) (hn : n ≤ 1000000000) (hB : w0.heap.size ≤ B) (hb : Below w0.heap.size w0 w) (h : Has B v l 1 n w) :
    Calls Tryd.prog 14 #[.pointer (some ⟨B, 0, none⟩), .int .u8 242] w (TakePost w0 B l 1 n 242) := by
  obtain ⟨hr, hown⟩ := h
  have c0 : w.cell? ⟨B, 0, none⟩ = some (.int .i64 1) := hr.cell 0
  have c2 : w.cell? ⟨B, 2, none⟩ = some (.int .i64 (n : Int)) := hr.cell 2
  have f2 : w.frozen? ⟨B, 2, none⟩ = false := hr.free 2
  have f0 : (w.setCell ⟨B, 2, none⟩ (.int .i64 ((n : Int) + 1))).frozen? ⟨B, 0, none⟩ = false := (hr.set 2 _).free 0
  have fin : TakePost w0 B l 1 n 242 (.returned (.tuple #[])) ((w.setCell ⟨B, 2, none⟩ (.int .i64 ((n : Int) + 1))).setCell ⟨B, 0, none⟩ (.int .i64 0)) := by
    have hs : step 1 242 = (0, [], 1) := by decide
    refine ⟨rfl, ⟨v, ?_, ?_⟩, (hb.setCell hB _).setCell hB _⟩
    · rw [hs]; exact (hr.set 2 _).set 0 _
    · rw [hs]; simp only [List.append_nil]; exact own_other (own_other hown (by show B < B + 1; omega) _) (by show B < B + 1; omega) _
  have FIN := Lib.hid fin
  clear fin hr hown hb
  have W := Lib.hid (fun c w => iswish_any c w)
  have iw : Calls Tryd.prog 16 #[.int .u8 242] w fun e w' => e = .returned (.bool false) ∧ w' = w := W.out 242 w
  go_enter Tryd.func14, Tryd.ntmps14
  go_wp2_with (go_at_call 16; refine iw.mono ?_; rintro e w' ⟨rfl, rfl⟩)
  go_end0
  exact FIN.out

set_option maxHeartbeats 2000000 in
set_option maxRecDepth 100000 in
/-- text -/
theorem take_text (w0 w : World) (B : Nat) (v : Value) (l : List UInt8) (s n : Nat) (c : UInt8) (hl : l.length ≤ 1000000000) (hB : w0.heap.size ≤ B) (hb : Below w0.heap.size w0 w) (h : Has B v l s n w)
    (hk : (s = 0 ∧ c ≠ 255) ∨ (s = 1 ∧ c = 255)) :
    Calls Tryd.prog 14 #[.pointer (some ⟨B, 0, none⟩), .int .u8 (c.toNat : Int)] w (TakePost w0 B l s n c) := by
  obtain ⟨i0, hi, hz0, hz1, hz2⟩ := info_parts info_u8
  obtain ⟨hr, hown⟩ := h
  have hs : step s c = (0, [c], 0) := by rcases hk with ⟨rfl, h⟩ | ⟨rfl, rfl⟩ <;> simp [step, *] <;> decide
  have hlt := hr.lt
  have c0 : w.cell? ⟨B, 0, none⟩ = some (.int .i64 (s : Int)) := hr.cell 0
  have c1 : w.cell? ⟨B, 1, none⟩ = some v := hr.cell 1
  have W := Lib.hid (fun c w => iswish_any c w)
  have HR := Lib.hid hr; have HS := Lib.hid hs; have HB := Lib.hid hB
  clear hr hs hB
  have D : ((s : Int) == 0) = true ∧ ((c.toNat : Int) == 255) = false ∨ s = 1 ∧ c = 255 := by
    rcases hk with ⟨rfl, h⟩ | h
    · exact Or.inl ⟨rfl, byte_ne h⟩
    · exact Or.inr h
  clear hk
  have FIN := Lib.hid (fun (v' : Value) (w1 : World) (hown' : w1.ownsRow (B + 1) 5 1 v' (l.length + 1) (l.map byteV ++ [byteV c])) (hg : (w.alloc (.cells #[byteV c] 5)).grownBy w1 v.ownBlock) =>
    have r1 : IsRow w1 B 33 #[.int .i64 (s : Int), v, .int .i64 (n : Int)] := row_grown (HR.out.alloc _) hg (fun e => by have := own_ge hown B e.symm; omega)
    have b1 : Below w0.heap.size w0 w1 := (hb.alloc hb.size _).grown hg (by have := hb.size; simp; omega) (fun k hk => by have := own_ge hown k hk; have := HB.out; omega)
    show w1.cell? ⟨B, 1, none⟩ = some v ∧ w1.cell? ⟨B, 0, none⟩ = some (.int .i64 (s : Int)) ∧ w1.frozen? ⟨B, 1, none⟩ = false ∧ (w1.setCell ⟨B, 1, none⟩ v').frozen? ⟨B, 0, none⟩ = false ∧ TakePost w0 B l s n c (.returned (.tuple #[])) ((w1.setCell ⟨B, 1, none⟩ v').setCell ⟨B, 0, none⟩ (.int .i64 0)) from
    ⟨r1.cell 1, r1.cell 0, r1.free 1, (r1.set 1 _).free 0, rfl, ⟨v', by rw [HS.out]; exact (r1.set 1 _).set 0 _, by rw [HS.out]; exact own_other (own_other (own_next hown') (by show B < B + 1; omega) _) (by show B < B + 1; omega) _⟩, (b1.setCell HB.out _).setCell HB.out _⟩)
  clear HR HS HB hb
  rcases D with ⟨q0, q1⟩ | ⟨rfl, rfl⟩
  · have q2 : ((s : Int) == 1) = false := by have := beq_iff_eq.1 q0; exact beq_eq_false_iff_ne.2 (by omega)
    have q3 : ((s : Int) == 2) = false := by have := beq_iff_eq.1 q0; exact beq_eq_false_iff_ne.2 (by omega)
    go_enter Tryd.func14, Tryd.ntmps14
    go_wp2_with (at_builtin; refine wpList_append_own _ rfl _ _ 22 rfl (B + 1) 5 i0 (.int .u8 0) 1 1 Tryd.underlying22 hi hz0 hz1 hz2 rfl (by decide) _ _ _ rfl (hown.alloc _) ⟨_, 0, none⟩ 1 1 [byteV c] rfl rfl ?c1 ?c2 ?c3 ?c4 ?c5 ?_)
    case c1 => exact one_new _ _ _
    case c2 => intro u hu; simp only [List.mem_singleton] at hu; subst hu; rfl
    case c3 => unfold maxLen; omega
    case c4 => omega
    case c5 => simp; omega
    intro v' w1 hown' hgrow _
    obtain ⟨p', cp', rfl⟩ := own_form hown'
    obtain ⟨d1, d0, f1, f0, F⟩ := FIN.out _ w1 hown' hgrow
    clear hown' hgrow hown FIN
    have FF := Lib.hid F
    clear F
    go_wp2_with fail
    go_end0
    exact FF.out
  · have iw : Calls Tryd.prog 16 #[.int .u8 255] w fun e w' => e = .returned (.bool false) ∧ w' = w := W.out 255 w
    go_enter Tryd.func14, Tryd.ntmps14
    go_wp2_with (first | (go_at_call 16; refine iw.mono ?_; rintro e w' ⟨rfl, rfl⟩) | (at_builtin; refine wpList_append_own _ rfl _ _ 22 rfl (B + 1) 5 i0 (.int .u8 0) 1 1 Tryd.underlying22 hi hz0 hz1 hz2 rfl (by decide) _ _ _ rfl (hown.alloc _) ⟨_, 0, none⟩ 1 1 [byteV 255] rfl rfl ?c1 ?c2 ?c3 ?c4 ?c5 ?_))
    case c1 => exact one_new _ _ _
    case c2 => intro u hu; simp only [List.mem_singleton] at hu; subst hu; rfl
    case c3 => unfold maxLen; omega
    case c4 => omega
    case c5 => simp; omega
    intro v' w1 hown' hgrow _
    obtain ⟨p', cp', rfl⟩ := own_form hown'
    obtain ⟨d1, d0, f1, f0, F⟩ := FIN.out _ w1 hown' hgrow
    clear hown' hgrow hown FIN
    have FF := Lib.hid F
    clear F
    go_wp2_with fail
    go_end0
    exact FF.out

#print axioms take_text
end Go.Proofs.YtkbekabpbgdhfaaDoor.Tel
