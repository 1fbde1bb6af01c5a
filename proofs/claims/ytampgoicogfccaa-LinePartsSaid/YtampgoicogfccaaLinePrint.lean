/- The contract of the document's answer of layer 6: wharfingerref06.Print. -/
import Derived.Test.YtampgoicogfccaaBytesConv
import Derived.Test.YtampgoicogfccaaLinePlain
import Derived.LoopTactic
import Derived.Lib.Hide
namespace Go.Proofs.Ytampgoicogfccaa.Ln
open Go.Proofs.Ytampgoicogfccaa
open Go.ChangeShapes Go.WideShapes Go.ChangeAt Go.RowKit
set_option linter.unusedSimpArgs false

/-- a text as it is sent, if it may be one -/
def PrintPost (s : List UInt8) (most : Int) (w : World) (e : Ending) (w' : World) : Prop :=
  ∃ x, e = .returned (.tuple #[x, .bool (prn s most)]) ∧ BytesIs w' x (if prn s most then s ++ [13, 10] else []) ∧ Below w.heap.size w w'

set_option maxHeartbeats 4000000 in
set_option maxRecDepth 100000 in
theorem rprint_any (s : List UInt8) (most : Int) (hl : s.length ≤ 140737488351232) (w : World) :
    Calls Try.prog 15 #[.string ⟨s.toArray⟩, .int .i64 most] w (PrintPost s most w) := by
  by_cases hm : most < (s.length : Int)
  · have hp : prn s most = false := decide_eq_false (by omega)
    go_enter Try.func15, Try.ntmps15
    go_wp2_with fail
    go_ret2
    exact ⟨.slice none 0 0, by rw [hp]; rfl, by rw [hp]; exact .nil _, Below.refl _ _⟩
  · go_enter Try.func15, Try.ntmps15
    go_wp2_with fail
    go_loop [6] (fun x6 => ∃ (k : Nat), x6 = .int .i64 (k : Int) ∧ k ≤ s.length ∧ Hid ((10 : UInt8) ∉ s.take k ∧ (13 : UInt8) ∉ s.take k)) (fun i => s.length - (intOf i).toNat)
    case atStart => exact ⟨0, rfl, Nat.zero_le _, Lib.hid (by simp)⟩
    case round =>
      obtain ⟨k, rfl, hk, HN⟩ := hrel
      by_cases hlt : k < s.length
      · have hsz : k < (ByteArray.mk s.toArray).size := by simpa [ByteArray.size] using hlt
        have hx : (ByteArray.mk s.toArray)[k]'hsz = s[k] := rfl
        have HT : Hid (s[k] ≠ 10 → s[k] ≠ 13 → (10 : UInt8) ∉ s.take (k + 1) ∧ (13 : UInt8) ∉ s.take (k + 1)) := Lib.hid (fun h1 h2 => by
          rw [List.take_succ_eq_append_getElem hlt]
          simp only [List.mem_append, List.mem_singleton, not_or]
          exact ⟨⟨HN.out.1, fun e => h1 e.symm⟩, ⟨HN.out.2, fun e => h2 e.symm⟩⟩)
        have HF : Hid ((s[k] = 10 ∨ s[k] = 13) → prn s most = false) := Lib.hid (fun h => decide_eq_false (by
          rintro ⟨_, h1, h2⟩
          rcases h with h | h
          · exact h1 (h ▸ List.getElem_mem hlt)
          · exact h2 (h ▸ List.getElem_mem hlt)))
        by_cases h10 : s[k] = 10
        · have q10 : ((((ByteArray.mk s.toArray)[k]'hsz).toNat : Int) == 10) = true := by rw [hx, h10]; rfl
          have hF := Lib.hid (HF.out (Or.inl h10))
          clear hx HT HF HN h10
          go_wp2_with fail
          go_ret2
          exact ⟨.slice none 0 0, by rw [hF.out]; rfl, by rw [hF.out]; exact .nil _, Below.refl _ _⟩
        · have q10 : ((((ByteArray.mk s.toArray)[k]'hsz).toNat : Int) == 10) = false := by rw [hx]; exact byte_ne h10
          by_cases h13 : s[k] = 13
          · have q13 : ((((ByteArray.mk s.toArray)[k]'hsz).toNat : Int) == 13) = true := by rw [hx, h13]; rfl
            have hF := Lib.hid (HF.out (Or.inr h13))
            clear hx HT HF HN h10 h13
            go_wp2_with fail
            go_ret2
            exact ⟨.slice none 0 0, by rw [hF.out]; rfl, by rw [hF.out]; exact .nil _, Below.refl _ _⟩
          · have q13 : ((((ByteArray.mk s.toArray)[k]'hsz).toNat : Int) == 13) = false := by rw [hx]; exact byte_ne h13
            have hT := Lib.hid (HT.out h10 h13)
            clear hx HT HF HN h10 h13
            go_wp2_with fail
            go_round
            case rel => exact ⟨k + 1, by go_num, by omega, hT⟩
            case measure => simp [intOf]; omega
      · obtain rfl : k = s.length := by omega
        rw [List.take_length] at HN
        have hp : prn s most = true := decide_eq_true ⟨by omega, HN.out.1, HN.out.2⟩
        have HP := Lib.hid hp
        obtain ⟨x, w2, hcv, hfr, b2⟩ := conv_bytes w s (by omega)
        have hsz := hfr.bytes.lt
        have B3 : Below w.heap.size w (w2.alloc (.cells ([13, 10].map byteV).toArray 5)) := b2.alloc b2.size _
        have hfr3 : FreshIs (w2.alloc (.cells ([13, 10].map byteV).toArray 5)) w.heap.size x s := by
          obtain ⟨g, cap, cur, fz, e1, e2, e3, e4⟩ := hfr
          exact ⟨g, cap, cur, fz, e1, e2, by rw [Below.heap_alloc _ _ _ (lt_of_block e3)]; exact e3, e4⟩
        have HFR := Lib.hid hfr3
        have HB := Lib.hid B3
        have hle := B3.size
        clear hp HN hsz hfr hfr3 b2 B3
        go_wp2_with (at_builtin; refine wpList_append_fresh rfl _ _ rfl w.heap.size _ s rfl HFR.out [13, 10] _ _ rfl (bytes_new w2 [13, 10] (by decide)) ?c1 ?c2 ?_)
        case c1 => first | omega | (simp; omega)
        try (case c2 => simp at hle; omega)
        intro v3 w3 hx3 b3
        have B4 := Lib.hid (HB.out.trans b3)
        obtain ⟨p3, c3, rfl⟩ := hx3.form
        have X3 := Lib.hid hx3
        clear hx3 b3 HB HFR hle hcv
        go_wp2_with fail
        go_ret2
        exact ⟨.slice p3 (s ++ [13, 10]).length c3, by rw [HP.out]; rfl, by rw [HP.out]; exact X3.out, B4.out⟩

#print axioms rprint_any
end Go.Proofs.Ytampgoicogfccaa.Ln
