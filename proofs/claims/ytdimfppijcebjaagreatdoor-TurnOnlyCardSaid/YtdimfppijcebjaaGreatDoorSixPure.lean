/- The contracts of package six that make no text: split, join, inside. -/
import Derived.Test.YtdimfppijcebjaaGreatDoorTie
import Derived.WalkKit
import Derived.WalkMore
import Derived.ProofKit
import Derived.OpenShut
import Derived.Lib.Hide
import Derived.Lib.QuietBelow
import Derived.Outline
import Derived.IntWalk
import Derived.LoopN
import Derived.Test.YtdimfppijcebjaaGreatDoorBlocks
import Derived.Test.YtdimfppijcebjaaGreatDoorPlains
namespace Go.Proofs.YtdimfppijcebjaaGreatDoor.Six
open Go.Proofs.YtdimfppijcebjaaGreatDoor.Quad
open Go.ChangeShapes Go.WideShapes Go.ChangeAt Go.RowKit Go.Sort

/-- an end as a value -/
abbrev endV (a b c d p : Int) : Value := .agg #[.int .u8 a, .int .u8 b, .int .u8 c, .int .u8 d, .int .i64 p]
/-- six numbers as a value -/
abbrev numV (a b c d x y : Int) : Value := .agg #[.int .u8 a, .int .u8 b, .int .u8 c, .int .u8 d, .int .u8 x, .int .u8 y]

theorem size_of (l : List UInt8) : (ByteArray.mk l.toArray).size = l.length := by show l.toArray.size = l.length; simp
theorem piece_of (l : List UInt8) (a b : Nat) : (ByteArray.mk l.toArray).extract a b = ⟨((l.drop a).take (b - a)).toArray⟩ := by
  apply ByteArray.ext
  simp

set_option maxHeartbeats 1000000 in
set_option maxRecDepth 100000 in
theorem split_any (a b c d p : Int) (h0 : -9223372036854775808 ≤ p) (h1 : p ≤ 9223372036854775807) (w : World) :
    Calls Tryz.prog 55 #[endV a b c d p] w fun e w' => (∃ x y, e = .returned (numV a b c d x y) ∧ (0 ≤ x ∧ x ≤ 255 ∧ 0 ≤ y ∧ y ≤ 255 ∧ (0 ≤ p ∧ p ≤ 65535 → x = p / 256 ∧ y = p % 256))) ∧ Below w.heap.size w w' := by
  go_enter Tryz.func55, Tryz.ntmps55
  go_wp2_with fail
  obtain ⟨x, hx⟩ : ∃ x, p.tdiv 256 % 256 = x := ⟨_, rfl⟩
  obtain ⟨y, hy⟩ : ∃ y, p.tmod 256 % 256 = y := ⟨_, rfl⟩
  rw [hx, hy]
  generalize hW : World.alloc (World.alloc (World.alloc _ _) _) _ = W9
  have FR : IsRow W9 (w.heap.size + 1) 88 #[.int .u8 a, .int .u8 b, .int .u8 c, .int .u8 d, .int .u8 x, .int .u8 y] := by
    rw [← hW]
    have := (IsRow.made (w.alloc (.cells #[.int .u8 a, .int .u8 b, .int .u8 c, .int .u8 d, .int .i64 p] 30)) 88 #[.int .u8 a, .int .u8 b, .int .u8 c, .int .u8 d, .int .u8 x, .int .u8 y]).alloc (.cells #[.int .u8 a, .int .u8 b, .int .u8 c, .int .u8 d] 28)
    simpa using this
  have B9 : Below w.heap.size w W9 := by rw [← hW]; exact (((Below.refl _ _).alloc (Nat.le_refl _) _).alloc (by simp) _).alloc (by simp; omega) _
  have g0 : W9.cell? ⟨w.heap.size + 1, 0, none⟩ = some (.int .u8 a) := FR.cell 0
  have g1 : W9.cell? ⟨w.heap.size + 1, 1, none⟩ = some (.int .u8 b) := FR.cell 1
  have g2 : W9.cell? ⟨w.heap.size + 1, 2, none⟩ = some (.int .u8 c) := FR.cell 2
  have g3 : W9.cell? ⟨w.heap.size + 1, 3, none⟩ = some (.int .u8 d) := FR.cell 3
  have g4 : W9.cell? ⟨w.heap.size + 1, 4, none⟩ = some (.int .u8 x) := FR.cell 4
  have g5 : W9.cell? ⟨w.heap.size + 1, 5, none⟩ = some (.int .u8 y) := FR.cell 5
  refine bodyPost_ret (v := numV a b c d x y) (by simp [results, Tryz.results55, go_sem, g0, g1, g2, g3, g4, g5]) rfl ⟨⟨x, y, rfl, ?_⟩, B9⟩
  refine ⟨by omega, by omega, by omega, by omega, ?_⟩
  rintro ⟨hp0, hp1⟩
  rw [Int.tdiv_eq_ediv_of_nonneg hp0] at hx
  rw [Int.tmod_eq_emod_of_nonneg hp0] at hy
  omega

set_option maxHeartbeats 1000000 in
set_option maxRecDepth 100000 in
theorem join_any (a b c d x y : Int) (hx : 0 ≤ x) (hx' : x ≤ 255) (hy : 0 ≤ y) (hy' : y ≤ 255) (w : World) :
    Calls Tryz.prog 56 #[numV a b c d x y] w fun e w' => e = .returned (endV a b c d (x * 256 + y)) ∧ Below w.heap.size w w' := by
  go_enter Tryz.func56, Tryz.ntmps56
  go_wp2_with fail
  generalize hW : World.alloc (World.alloc _ _) _ = W9
  have FR : IsRow W9 (w.heap.size + 1) 30 #[.int .u8 a, .int .u8 b, .int .u8 c, .int .u8 d, .int .i64 (x * 256 + y)] := by
    rw [← hW]
    have := IsRow.made (w.alloc (.cells #[.int .u8 a, .int .u8 b, .int .u8 c, .int .u8 d, .int .u8 x, .int .u8 y] 88)) 30 #[.int .u8 a, .int .u8 b, .int .u8 c, .int .u8 d, .int .i64 (x * 256 + y)]
    simpa using this
  have B9 : Below w.heap.size w W9 := by rw [← hW]; exact ((Below.refl _ _).alloc (Nat.le_refl _) _).alloc (by simp) _
  have g0 : W9.cell? ⟨w.heap.size + 1, 0, none⟩ = some (.int .u8 a) := FR.cell 0
  have g1 : W9.cell? ⟨w.heap.size + 1, 1, none⟩ = some (.int .u8 b) := FR.cell 1
  have g2 : W9.cell? ⟨w.heap.size + 1, 2, none⟩ = some (.int .u8 c) := FR.cell 2
  have g3 : W9.cell? ⟨w.heap.size + 1, 3, none⟩ = some (.int .u8 d) := FR.cell 3
  have g4 : W9.cell? ⟨w.heap.size + 1, 4, none⟩ = some (.int .i64 (x * 256 + y)) := FR.cell 4
  exact bodyPost_ret (v := endV a b c d (x * 256 + y)) (by simp [results, Tryz.results56, go_sem, g0, g1, g2, g3, g4]) rfl ⟨rfl, B9⟩

set_option maxHeartbeats 1000000 in
set_option maxRecDepth 100000 in
theorem inside_any (l : List UInt8) (hl : l.length ≤ 1000000) (w : World) :
    Calls Tryz.prog 72 #[.string ⟨l.toArray⟩] w fun e w' => e = .returned (.string ⟨(insL l).toArray⟩) ∧ w = w' := by
  go_enter Tryz.func72, Tryz.ntmps72
  go_wp2_with fail
  go_step3
  go_wp2_with fail
  go_step3
  go_wp2_with fail
  go_loop [3, 4, 8] (fun s f i => ∃ k : Nat, f = .string ⟨#[]⟩ ∧ i = .int .i64 k ∧ k ≤ l.length ∧ ((s = .int .i64 (-1) ∧ Hid ((40 : UInt8) ∉ l.take k)) ∨ ∃ fr : Nat, s = .int .i64 fr ∧ fr ≤ k ∧ Hid (Opened l fr) ∧ Hid ((41 : UInt8) ∉ (l.drop fr).take (k - fr)))) (fun _ _ i => l.length - (intOf i).toNat)
  case atStart => exact ⟨0, rfl, rfl, Nat.zero_le _, Or.inl ⟨rfl, Lib.hid (by simp)⟩⟩
  case round =>
    obtain ⟨k, rfl, rfl, hk, ⟨rfl, hno⟩ | ⟨fr, rfl, hf, hop, hno⟩⟩ := hrel
    · by_cases hlt : k < l.length
      · have hsz : k < (ByteArray.mk l.toArray).size := by rw [size_of]; exact hlt
        have hx : (ByteArray.mk l.toArray)[k]'hsz = l[k] := rfl
        by_cases hc : l[k] = 40
        · have hq : ((((ByteArray.mk l.toArray)[k]'hsz).toNat : Int) == 40) = true := by rw [hx, hc]; rfl
          have hs := Lib.hid (opened hno.out hlt hc)
          clear hx hc
          go_wp2_with fail
          go_round
          case rel => exact ⟨k + 1, rfl, by go_num, by omega, Or.inr ⟨k + 1, by go_num, Nat.le_refl _, hs, Lib.hid (by simp)⟩⟩
          case measure => simp [intOf]; omega
        · have hq : ((((ByteArray.mk l.toArray)[k]'hsz).toNat : Int) == 40) = false := by
            rw [hx, beq_eq_false_iff_ne]
            intro e; exact hc (UInt8.toNat.inj (by show l[k].toNat = 40; omega))
          have hs := Lib.hid (no_next0 hno.out hlt hc)
          clear hx hc
          cases hb : ((((ByteArray.mk l.toArray)[k]'hsz).toNat : Int) == 41)
          · go_wp2_with fail
            go_round
            case rel => exact ⟨k + 1, rfl, by go_num, by omega, Or.inl ⟨rfl, hs⟩⟩
            case measure => simp [intOf]; omega
          · go_wp2_with fail
            go_round
            case rel => exact ⟨k + 1, rfl, by go_num, by omega, Or.inl ⟨rfl, hs⟩⟩
            case measure => simp [intOf]; omega
      · obtain rfl : k = l.length := by omega
        have hi : Hid (insL l = []) := by
          have h := hno.out
          rw [List.take_length] at h
          show insL l = []
          unfold insL; rw [insO_no h]; rfl
        go_wp2_with fail
        try rw [Exit.noGoto_ret]
        go_ret
        rw [hi.out]; exact ⟨rfl, rfl⟩
    · by_cases hlt : k < l.length
      · have hsz : k < (ByteArray.mk l.toArray).size := by rw [size_of]; exact hlt
        have hx : (ByteArray.mk l.toArray)[k]'hsz = l[k] := rfl
        by_cases hc : l[k] = 41
        · have hq : ((((ByteArray.mk l.toArray)[k]'hsz).toNat : Int) == 41) = true := by rw [hx, hc]; rfl
          have hq' : ((((ByteArray.mk l.toArray)[k]'hsz).toNat : Int) == 40) = false := by rw [hx, hc]; rfl
          have hi : Hid (insL l = (l.drop fr).take (k - fr)) := by
            show insL l = _
            unfold insL; rw [found hop.out hno.out hf hlt hc]; rfl
          clear hx hc
          go_wp2_with fail
          try rw [Exit.noGoto_ret]
          go_ret
          rw [hi.out, ← piece_of]; exact ⟨rfl, rfl⟩
        · have hq : ((((ByteArray.mk l.toArray)[k]'hsz).toNat : Int) == 41) = false := by
            rw [hx, beq_eq_false_iff_ne]
            intro e; exact hc (UInt8.toNat.inj (by show l[k].toNat = 41; omega))
          have hs := Lib.hid (no_next hno.out hf hlt hc)
          clear hx hc
          cases hb : ((((ByteArray.mk l.toArray)[k]'hsz).toNat : Int) == 40)
          · go_wp2_with fail
            go_round
            case rel => exact ⟨k + 1, rfl, by go_num, by omega, Or.inr ⟨fr, rfl, by omega, hop, hs⟩⟩
            case measure => simp [intOf]; omega
          · go_wp2_with fail
            go_round
            case rel => exact ⟨k + 1, rfl, by go_num, by omega, Or.inr ⟨fr, rfl, by omega, hop, hs⟩⟩
            case measure => simp [intOf]; omega
      · obtain rfl : k = l.length := by omega
        have hi : Hid (insL l = []) := by
          show insL l = []
          unfold insL; rw [missed hop.out hno.out]; rfl
        go_wp2_with fail
        try rw [Exit.noGoto_ret]
        go_ret
        rw [hi.out]; exact ⟨rfl, rfl⟩

#print axioms split_any
#print axioms join_any
#print axioms inside_any
end Go.Proofs.YtdimfppijcebjaaGreatDoor.Six
