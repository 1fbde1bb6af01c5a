/- The chapter's example of layer 6: the law's own test that the program is awake. -/
import Derived.Test.YtampgoicogfccaaLineCode
import Derived.Test.YtampgoicogfccaaEnvBare
import Derived.Lib.SmallJoins
namespace Go.Proofs.Ytampgoicogfccaa.Ln
open Go.Proofs.Ytampgoicogfccaa
open Go.ChangeShapes Go.WideShapes Go.ChangeAt Go.RowKit

theorem run_example : run 100 false none0 [97, 98, 13, 10, 99] = (⟨[99], false, false⟩, [([97, 98], false)]) := by decide
theorem prn_example : prn [97, 98] 100 = true := by decide
/-- bytes in a new block, whatever is frozen in it -/
theorem bytes_new_fz (wr : World) (l : List UInt8) (fz : Nat × Nat) (hm : l.length ≤ maxLen) : BytesIs (wr.alloc (.cells (l.map byteV).toArray 5 fz)) (.slice (some ⟨wr.heap.size, 0, none⟩) l.length l.length) l := by
  refine Or.inr ⟨_, _, rfl, Nat.le_refl _, hm, fun i hi => ?_⟩
  have e : (⟨wr.heap.size, 0, none⟩ : Addr).add i = ⟨wr.heap.size, i, none⟩ := by unfold Addr.add; split <;> simp_all
  rw [e, cell_block (heap_alloc_new wr _)]
  simp [hi]

theorem awake_facts {w1 w2 : World} {px py : Option Addr} {cx cy : Nat} (hx : BytesIs w1 (.slice px 1 cx) [99]) (hy : LinesIs w1 (.slice py 1 cy) [([97, 98], false)]) (r : IsRow (w1.alloc (.cells #[.slice px 1 cx, .bool false, .bool false] 24)) w1.heap.size 24 #[.slice px 1 cx, .bool false, .bool false])
    (b : Below (w1.alloc (.cells #[.slice px 1 cx, .bool false, .bool false] 24)).heap.size (w1.alloc (.cells #[.slice px 1 cx, .bool false, .bool false] 24)) w2) :
    ∃ bl ol, py = some ⟨bl, ol, none⟩ ∧ w2.cell? ⟨bl, ol, none⟩ = some (.string ⟨#[97, 98]⟩) ∧ w2.cell? ⟨bl, ol + 1, none⟩ = some (.bool false) ∧
      w2.cell? ⟨w1.heap.size, 0, none⟩ = some (.slice px 1 cx) ∧ w2.cell? ⟨w1.heap.size, 1, none⟩ = some (.bool false) ∧ w2.cell? ⟨w1.heap.size, 2, none⟩ = some (.bool false) ∧
      (convert 22 9 (.slice px 1 cx)).run Try.prog w2 = .ok (.string ⟨#[99]⟩) w2 ∧ BytesIs w2 (.slice px 1 cx) [99] := by
  have b1 : Below w1.heap.size w1 (w1.alloc (.cells #[.slice px 1 cx, .bool false, .bool false] 24)) := (Below.refl _ _).alloc (Nat.le_refl _) _
  have x2 := (hx.call b1).call b
  obtain ⟨bl, ol, e, _, hc⟩ := lines_some ((hy.call b1).call b) (by simp)
  have r2 := r.call b
  exact ⟨bl, ol, e, (hc 0 (by decide)).1, (hc 0 (by decide)).2, r2.cell 0, r2.cell 1, r2.cell 2, str_of_bytes x2, x2⟩

set_option maxHeartbeats 2000000 in
set_option maxRecDepth 100000 in
theorem awake_any (w : World) : Calls Try.prog 9 #[] w fun e w' => e = .returned (.bool true) ∧ Below w.heap.size w w' := by
  have B0 : Below w.heap.size w (w.alloc (.cells ([97, 98, 13, 10, 99].map byteV).toArray 5 (5, 6))) := (Below.refl _ _).alloc (Nat.le_refl _) _
  have S := Lib.hid (feed_any none0 (.slice none 0 0) _ [97, 98, 13, 10, 99] 100 false (by decide) (by decide) _ (.nil _) (bytes_new_fz w [97, 98, 13, 10, 99] (5, 6) (by decide)))
  unfold FeedPost at S
  rw [run_example] at S
  have hcv : (convert 22 22 (.slice (some ⟨w.heap.size, 0, none⟩) 5 5)).run Try.prog (w.alloc (.cells #[.int .u8 97, .int .u8 98, .int .u8 13, .int .u8 10, .int .u8 99] 5)) = .ok (.slice (some ⟨w.heap.size, 0, none⟩) 5 5) (w.alloc (.cells #[.int .u8 97, .int .u8 98, .int .u8 13, .int .u8 10, .int .u8 99] 5 (5, 6))) :=
    Lib.run_convert_bytes_const w 22 5 #[.int .u8 97, .int .u8 98, .int .u8 13, .int .u8 10, .int .u8 99] 5 5 Try.underlying22 Try.underlying5
  have HB0 := Lib.hid B0
  have P := Lib.hid (fun W => print_any [97, 98] 100 (by decide) W)
  unfold PrintPost at P
  rw [prn_example] at P
  have eqs : ∀ W, (Op.equalIn 10000 37 (.agg #[.string ⟨#[97, 98]⟩, .bool false]) (.agg #[.string ⟨#[97, 98]⟩, .bool false])).run Try.prog W = .ok true W := fun W => by have := equal_lines [97, 98] [97, 98] false false W; rw [this]; rfl
  clear B0
  go_enter Try.func9, Try.ntmps9
  go_wp2_with (first
    | (go_at_call 10; refine S.out.mono ?_; rintro e w1 ⟨x, y, rfl, hx, hy, b1⟩; obtain ⟨px, cx, rfl⟩ := hx.form; obtain ⟨py, cy, rfl⟩ := hy.form; have B1 := Lib.hid (below_then HB0.out b1); have X1 := Lib.hid hx; have Y1 := Lib.hid hy; have R1 := Lib.hid (IsRow.made w1 24 #[.slice px 1 cx, .bool false, .bool false]); clear hx hy b1 S)
    | (go_at_call 14; refine (P.out _).mono ?_; rintro e w2 ⟨z, rfl, hz, b2⟩; obtain ⟨pz, cz, rfl⟩ := hz.form; have F2 := awake_facts X1.out Y1.out R1.out b2; obtain ⟨bl, ol, rfl, k0, k1, r0, r1, r2, q1, XX⟩ := F2; have q2 : (convert 22 9 (.slice pz 4 cz)).run Try.prog w2 = .ok (.string ⟨#[97, 98, 13, 10]⟩) w2 := str_of_bytes hz; have HX := Lib.hid XX; have B2 := Lib.hid (below_new B1.out b2); clear hz b2 P X1 Y1 R1 XX)
    | (go_at_call 16; refine (same_any ⟨[99], false, false⟩ ⟨[99], false, false⟩ _ _ _ HX.out HX.out).mono ?_; rintro e w3 ⟨rfl, b3⟩; rw [decide_eq_true rfl]))
  go_ret
  exact ⟨rfl, below_then B2.out b3⟩

#print axioms awake_any
end Go.Proofs.Ytampgoicogfccaa.Ln
