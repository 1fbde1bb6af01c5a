/- The contract of the document's answer of layer 3: wharfingerref03.Find. -/
import Derived.Test.YtdimfppijcebjaaGreatDoorSixRefRead
namespace Go.Proofs.YtdimfppijcebjaaGreatDoor.Six
open Go.Proofs.YtdimfppijcebjaaGreatDoor.Quad
open Go.ChangeShapes Go.WideShapes Go.ChangeAt Go.RowKit Go.Sort

set_option maxHeartbeats 2000000 in
set_option maxRecDepth 100000 in
theorem rfind_any (l : List UInt8) (hl : l.length ≤ 1000000) (w : World) :
    Calls Tryz.prog 26 #[str l] w fun e w' => e = .returned (readV (insL l)) ∧ Below w.heap.size w w' := by
  have CR := Lib.hid (fun (a b : Nat) W => show Calls Tryz.prog 22 #[.string ((ByteArray.mk l.toArray).extract a b)] W fun e w' => e = .returned (readV ((l.drop a).take (b - a))) ∧ Below W.heap.size W w' by
    rw [piece_of]; exact rread_any _ (by simp; omega) W)
  go_enter Tryz.func26, Tryz.ntmps26
  go_wp2_with fail
  go_loop [4] (fun i => ∃ k : Nat, i = .int .i64 k ∧ k ≤ l.length ∧ Hid ((40 : UInt8) ∉ l.take k)) (fun i => l.length - (intOf i).toNat)
  case atStart => exact ⟨0, rfl, Nat.zero_le _, Lib.hid (by simp)⟩
  case round =>
    obtain ⟨k, rfl, hk, hno⟩ := hrel
    by_cases hlt : k < l.length
    · have hsz : k < (ByteArray.mk l.toArray).size := by rw [size_of]; exact hlt
      have hx : (ByteArray.mk l.toArray)[k]'hsz = l[k] := rfl
      by_cases hc : l[k] = 40
      · have hq : ((((ByteArray.mk l.toArray)[k]'hsz).toNat : Int) != 40) = false := by rw [hx, hc]; rfl
        have hop := Lib.hid (opened hno.out hlt hc)
        clear hx hc hno
        go_wp2_with fail
        go_loop [5] (fun j => ∃ m : Nat, j = .int .i64 m ∧ m ≤ l.length ∧ k + 1 ≤ m ∧ Hid ((41 : UInt8) ∉ (l.drop (k + 1)).take (m - (k + 1)))) (fun j => l.length - (intOf j).toNat)
        case atStart => exact ⟨k + 1, by go_num, by omega, Nat.le_refl _, Lib.hid (by simp)⟩
        case round =>
          obtain ⟨m, rfl, hm, hkm, hn⟩ := hrel
          by_cases hlt2 : m < l.length
          · have hsz2 : m < (ByteArray.mk l.toArray).size := by rw [size_of]; exact hlt2
            have hx2 : (ByteArray.mk l.toArray)[m]'hsz2 = l[m] := rfl
            by_cases hc2 : l[m] = 41
            · have hq2 : ((((ByteArray.mk l.toArray)[m]'hsz2).toNat : Int) == 41) = true := by rw [hx2, hc2]; rfl
              have hi : Hid (insL l = (l.drop (k + 1)).take (m - (k + 1))) := by
                show insL l = _
                unfold insL; rw [found hop.out hn.out hkm hlt2 hc2]; rfl
              obtain ⟨r0, r1, r2, r3, rp, rb, hrv⟩ : ∃ r0 r1 r2 r3 rp rb, Hid (readV (insL l) = .tuple #[endV r0 r1 r2 r3 rp, .bool rb]) := ⟨_, _, _, _, _, _, Lib.hid rfl⟩
              clear hx2 hc2
              have hkm' : (k : Int) + 1 ≤ (m : Int) := by omega
              have hsl : ∀ W, (Instr.slice 9 (str l) (some (.int .i64 ((k : Int) + 1))) (some (.int .i64 (m : Int))) none).run Tryz.prog W = .ok (.string ((ByteArray.mk l.toArray).extract (k + 1) m)) W := fun W => by
                rw [run_slice_string W _ _ _ _ _ _ Tryz.underlying9 (by omega) hkm' (by rw [size_of]; omega)]; rfl
              go_wp2_with (go_at_call 22; refine (CR.out (k + 1) m _).mono ?_)
              rintro e w1 he b1
              rw [← hi.out, hrv.out] at he
              subst he
              have B1 : Below w.heap.size w w1 := ((Below.refl _ _).alloc (Nat.le_refl _) _).trans (b1.mono (by omega))
              have Q1 : IsRow w1 w.heap.size 30 #[.int .u8 0, .int .u8 0, .int .u8 0, .int .u8 0, .int .i64 0] := (IsRow.made w _ _).below b1 (by omega)
              have hN := Q1.lt
              clear b1
              have z0 : w1.cell? ⟨w.heap.size, 0, none⟩ = some (.int .u8 0) := Q1.cell 0
              have y0 : w1.frozen? ⟨w.heap.size, 0, none⟩ = false := Q1.free 0
              have z1 : w1.cell? ⟨w.heap.size, 1, none⟩ = some (.int .u8 0) := Q1.cell 1
              have y1 : w1.frozen? ⟨w.heap.size, 1, none⟩ = false := Q1.free 1
              have z2 : w1.cell? ⟨w.heap.size, 2, none⟩ = some (.int .u8 0) := Q1.cell 2
              have y2 : w1.frozen? ⟨w.heap.size, 2, none⟩ = false := Q1.free 2
              have z3 : w1.cell? ⟨w.heap.size, 3, none⟩ = some (.int .u8 0) := Q1.cell 3
              have y3 : w1.frozen? ⟨w.heap.size, 3, none⟩ = false := Q1.free 3
              have z4 : w1.cell? ⟨w.heap.size, 4, none⟩ = some (.int .i64 0) := Q1.cell 4
              have y4 : w1.frozen? ⟨w.heap.size, 4, none⟩ = false := Q1.free 4
              go_wp2_with fail
              generalize hW : World.alloc (World.setCell _ _ _) _ = W9
              have FR : IsRow W9 w.heap.size 30 #[.int .u8 r0, .int .u8 r1, .int .u8 r2, .int .u8 r3, .int .i64 rp] := by rw [← hW]; exact (((((Q1.set 0 _).set 1 _).set 2 _).set 3 _).set 4 _).alloc _
              have B9 : Below w.heap.size w W9 := by rw [← hW]; exact (((((B1.setCell (Nat.le_refl _) _).setCell (Nat.le_refl _) _).setCell (Nat.le_refl _) _).setCell (Nat.le_refl _) _).setCell (Nat.le_refl _) _).alloc (by simp; omega) _
              have g0 : W9.cell? ⟨w.heap.size, 0, none⟩ = some (.int .u8 r0) := FR.cell 0
              have g1 : W9.cell? ⟨w.heap.size, 1, none⟩ = some (.int .u8 r1) := FR.cell 1
              have g2 : W9.cell? ⟨w.heap.size, 2, none⟩ = some (.int .u8 r2) := FR.cell 2
              have g3 : W9.cell? ⟨w.heap.size, 3, none⟩ = some (.int .u8 r3) := FR.cell 3
              have g4 : W9.cell? ⟨w.heap.size, 4, none⟩ = some (.int .i64 rp) := FR.cell 4
              exact bodyPost_ret (v := .tuple #[endV r0 r1 r2 r3 rp, .bool rb]) (by simp [results, Tryz.results26, go_sem, g0, g1, g2, g3, g4]) rfl ⟨by rw [hrv.out], B9⟩
            · have hq2 : ((((ByteArray.mk l.toArray)[m]'hsz2).toNat : Int) == 41) = false := by
                rw [hx2, beq_eq_false_iff_ne]
                intro e; exact hc2 (UInt8.toNat.inj (by show l[m].toNat = 41; omega))
              have hs := Lib.hid (no_next hn.out hkm hlt2 hc2)
              clear hx2 hc2
              go_wp2_with fail
              go_round
              case rel => exact ⟨m + 1, by go_num, by omega, by omega, hs⟩
              case measure => simp [intOf]; omega
          · obtain rfl : m = l.length := by omega
            have hV : Hid (readV (insL l) = .tuple #[endV 0 0 0 0 0, .bool false]) := by
              show readV (insL l) = _
              unfold insL; rw [missed hop.out hn.out]; exact read_none six_empty
            go_wp2_with fail
            generalize hW : World.alloc _ _ = W9
            have FR : IsRow W9 w.heap.size 30 #[.int .u8 0, .int .u8 0, .int .u8 0, .int .u8 0, .int .i64 0] := by rw [← hW]; exact IsRow.made _ _ _
            have B9 : Below w.heap.size w W9 := by rw [← hW]; exact (Below.refl _ _).alloc (Nat.le_refl _) _
            have g0 : W9.cell? ⟨w.heap.size, 0, none⟩ = some (.int .u8 0) := FR.cell 0
            have g1 : W9.cell? ⟨w.heap.size, 1, none⟩ = some (.int .u8 0) := FR.cell 1
            have g2 : W9.cell? ⟨w.heap.size, 2, none⟩ = some (.int .u8 0) := FR.cell 2
            have g3 : W9.cell? ⟨w.heap.size, 3, none⟩ = some (.int .u8 0) := FR.cell 3
            have g4 : W9.cell? ⟨w.heap.size, 4, none⟩ = some (.int .i64 0) := FR.cell 4
            exact bodyPost_ret (v := .tuple #[endV 0 0 0 0 0, .bool false]) (by simp [results, Tryz.results26, go_sem, g0, g1, g2, g3, g4]) rfl ⟨by rw [hV.out], B9⟩
      · have hq : ((((ByteArray.mk l.toArray)[k]'hsz).toNat : Int) != 40) = true := by
          rw [hx, bne_iff_ne]
          intro e; exact hc (UInt8.toNat.inj (by show l[k].toNat = 40; omega))
        have hs := Lib.hid (no_next0 hno.out hlt hc)
        clear hx hc
        go_wp2_with fail
        go_round
        case rel => exact ⟨k + 1, by go_num, by omega, hs⟩
        case measure => simp [intOf]; omega
    · obtain rfl : k = l.length := by omega
      have hV : Hid (readV (insL l) = .tuple #[endV 0 0 0 0 0, .bool false]) := by
        have h := hno.out
        rw [List.take_length] at h
        show readV (insL l) = _
        unfold insL; rw [insO_no h]; exact read_none six_empty
      go_wp2_with fail
      generalize hW : World.alloc _ _ = W9
      have FR : IsRow W9 w.heap.size 30 #[.int .u8 0, .int .u8 0, .int .u8 0, .int .u8 0, .int .i64 0] := by rw [← hW]; exact IsRow.made _ _ _
      have B9 : Below w.heap.size w W9 := by rw [← hW]; exact (Below.refl _ _).alloc (Nat.le_refl _) _
      have g0 : W9.cell? ⟨w.heap.size, 0, none⟩ = some (.int .u8 0) := FR.cell 0
      have g1 : W9.cell? ⟨w.heap.size, 1, none⟩ = some (.int .u8 0) := FR.cell 1
      have g2 : W9.cell? ⟨w.heap.size, 2, none⟩ = some (.int .u8 0) := FR.cell 2
      have g3 : W9.cell? ⟨w.heap.size, 3, none⟩ = some (.int .u8 0) := FR.cell 3
      have g4 : W9.cell? ⟨w.heap.size, 4, none⟩ = some (.int .i64 0) := FR.cell 4
      exact bodyPost_ret (v := .tuple #[endV 0 0 0 0 0, .bool false]) (by simp [results, Tryz.results26, go_sem, g0, g1, g2, g3, g4]) rfl ⟨by rw [hV.out], B9⟩

#print axioms rfind_any
end Go.Proofs.YtdimfppijcebjaaGreatDoor.Six
