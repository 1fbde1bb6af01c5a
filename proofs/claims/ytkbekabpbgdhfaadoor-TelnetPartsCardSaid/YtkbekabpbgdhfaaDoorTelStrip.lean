/- The contract of package telnet's Strip. -/
import Derived.Test.YtkbekabpbgdhfaaDoorTelCode
namespace Go.Proofs.YtkbekabpbgdhfaaDoor.Tel
open Go.Proofs.YtkbekabpbgdhfaaDoor
open Go.ChangeShapes Go.WideShapes Go.ChangeAt Go.RowKit Go.Sort

/-- one byte taken, whichever -/
theorem take_any (w0 w : World) (B : Nat) (v : Value) (l : List UInt8) (s n : Nat) (c : UInt8) (hl : l.length ≤ 1000000000) (hn : n ≤ 1000000000) (hs : s ≤ 2) (hB : w0.heap.size ≤ B) (hb : Below w0.heap.size w0 w) (h : Has B v l s n w) :
    Calls Tryd.prog 14 #[.pointer (some ⟨B, 0, none⟩), .int .u8 (c.toNat : Int)] w (TakePost w0 B l s n c) := by
  by_cases h2 : s = 2
  · exact take_state w0 w B v l s n c hB hb h (Or.inr (Or.inr (Or.inl h2)))
  by_cases h0 : s = 0
  · by_cases hc : c = 255
    · exact take_state w0 w B v l s n c hB hb h (Or.inl ⟨h0, hc⟩)
    · exact take_text w0 w B v l s n c hl hB hb h (Or.inl ⟨h0, hc⟩)
  · obtain rfl : s = 1 := by omega
    by_cases hc : c = 255
    · exact take_text w0 w B v l 1 n c hl hB hb h (Or.inr ⟨rfl, hc⟩)
    by_cases hd : c = 242
    · subst hd
      exact take_drop w0 w B v l n hn hB hb h
    by_cases hw : 251 ≤ c.toNat ∧ c.toNat ≤ 254
    · exact take_state w0 w B v l 1 n c hB hb h (Or.inr (Or.inl ⟨rfl, hw.1, hw.2⟩))
    · exact take_state w0 w B v l 1 n c hB hb h (Or.inr (Or.inr (Or.inr ⟨rfl, hc, hd, hw⟩)))

def StripPost (st : Int) (l : List UInt8) (w : World) (e : Ending) (w' : World) : Prop :=
  ∃ x, e = .returned (.tuple #[.int .i64 ((run (norm st) l).1 : Int), x, .int .i64 ((run (norm st) l).2.2 : Int)]) ∧ BytesIs w' x (run (norm st) l).2.1 ∧ Below w.heap.size w w'

set_option maxHeartbeats 2000000 in
set_option maxRecDepth 100000 in
theorem strip_row (st : Int) (a : Addr) (cp : Nat) (l : List UInt8) (hl : l.length ≤ 1000000) (w : World) (hv : ∀ i (h : i < l.length), w.cell? (a.add i) = some (byteV l[i])) (hin : l ≠ [] → a.block < w.heap.size) :
    Calls Tryd.prog 9 #[.int .i64 st, .slice (some a) l.length cp] w (StripPost st l w) := by
  have K := Lib.hid (fun w => known_any st w)
  have hle := norm_le st
  have HV := Lib.hid hv
  clear hv
  unfold StripPost
  generalize hs : norm st = s at *
  clear hs
  go_enter Tryd.func9, Tryd.ntmps9
  go_wp2_with (go_at_call 13; refine (K.out _).mono ?_; rintro e w' ⟨rfl, rfl⟩)
  generalize hB : w'.heap.size = B
  have hB' : w'.heap.size ≤ B := by omega
  go_loopw [15] (fun i wr => ∃ (k : Nat) (v' : Value), i = .int .i64 k ∧ k ≤ l.length ∧ Has B v' (run s (l.take k)).2.1 (run s (l.take k)).1 (run s (l.take k)).2.2 wr ∧ Below w'.heap.size w' wr) (fun i _ => l.length - (intOf i).toNat)
  case atStart =>
    refine ⟨0, .slice none 0 0, rfl, Nat.zero_le _, ⟨?_, ?_⟩, (Below.refl _ _).alloc (Nat.le_refl _) _⟩
    · rw [← hB]; exact IsRow.made _ _ _
    · exact World.ownsRow_nil _ _ _ _
  case round =>
    obtain ⟨k, v', rfl, hk, hhas, hb⟩ := hrel
    by_cases hlt : k < l.length
    · have hne : l ≠ [] := by intro e; subst e; simp at hlt
      have hc : wr.cell? (a.add k) = some (.int .u8 (l[k].toNat : Int)) := by rw [hb.cell (by rw [add_block]; exact hin hne)]; exact HV.out k hlt
      have hsh := run_short s (l.take k)
      have hlk : (l.take k).length = k := by rw [List.length_take]; omega
      have T := Lib.hid (take_any w' wr B v' _ _ _ l[k] (by omega) (by omega) (run_le (l.take k) hle) hB' hb hhas)
      have R := Lib.hid (run_next (s := s) hlt)
      clear hhas hb hsh hlk hne
      go_wp2_with (go_at_call 14; refine T.out.mono ?_; rintro e w2 ⟨rfl, ⟨v2, h2⟩, b2⟩)
      go_roundw
      case rel => exact ⟨k + 1, v2, by go_num, by omega, by rw [R.out]; exact h2, b2⟩
      case measure => simp [intOf]; omega
    · obtain rfl : k = l.length := by omega
      rw [List.take_length] at hhas
      obtain ⟨hr, hown⟩ := hhas
      obtain ⟨p', c', rfl⟩ := own_form hown
      have OB := Lib.hid (bytes_of_own hown)
      have d0 : wr.cell? ⟨B, 0, none⟩ = some (.int .i64 ((run s l).1 : Int)) := hr.cell 0
      have d1 : wr.cell? ⟨B, 1, none⟩ = some (.slice p' (run s l).2.1.length c') := hr.cell 1
      have d2 : wr.cell? ⟨B, 2, none⟩ = some (.int .i64 ((run s l).2.2 : Int)) := hr.cell 2
      have HB := Lib.hid hb
      clear hr hown hb
      go_wp2_with fail
      go_region
      go_wp2_with fail
      go_ret3
      exact ⟨_, rfl, OB.out, HB.out.drew⟩

set_option maxHeartbeats 2000000 in
set_option maxRecDepth 100000 in
theorem strip_nil (st : Int) (w : World) : Calls Tryd.prog 9 #[.int .i64 st, .slice none 0 0] w (StripPost st [] w) := by
  have K := Lib.hid (fun w => known_any st w)
  unfold StripPost
  generalize norm st = s at *
  go_enter Tryd.func9, Tryd.ntmps9
  go_wp2_with (go_at_call 13; refine (K.out _).mono ?_; rintro e w' ⟨rfl, rfl⟩)
  refine wp_loop_rounds 1 ?_
  rw [rounds_succ]
  go_wp2_with fail
  have hr := IsRow.made w' 33 #[.int .i64 (s : Int), .slice none 0 0, .int .i64 0]
  have hb : Below w'.heap.size w' (w'.alloc (.cells #[.int .i64 (s : Int), .slice none 0 0, .int .i64 0] 33)) := (Below.refl _ _).alloc (Nat.le_refl _) _
  generalize World.alloc _ _ = wr at hr hb ⊢
  have d0 : wr.cell? ⟨w'.heap.size, 0, none⟩ = some (.int .i64 (s : Int)) := hr.cell 0
  have d1 : wr.cell? ⟨w'.heap.size, 1, none⟩ = some (.slice none 0 0) := hr.cell 1
  have d2 : wr.cell? ⟨w'.heap.size, 2, none⟩ = some (.int .i64 0) := hr.cell 2
  have HB := Lib.hid hb
  clear hr hb
  go_region
  go_wp2_with fail
  go_ret3
  exact ⟨_, rfl, .nil _, HB.out.drew⟩

theorem strip_any (st : Int) (v : Value) (l : List UInt8) (hl : l.length ≤ 1000000) (w : World) (hv : BytesIs w v l) : Calls Tryd.prog 9 #[.int .i64 st, v] w (StripPost st l w) := by
  have hlt := hv.lt
  rcases hv with ⟨rfl, rfl⟩ | ⟨a, c, rfl, h1, h2, h3⟩
  · exact strip_nil st w
  · exact strip_row st a c l hl w h3 (hlt a _ c rfl)

#print axioms strip_any
end Go.Proofs.YtkbekabpbgdhfaaDoor.Tel
