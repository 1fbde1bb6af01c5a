/- The contracts of the document's answer of layer 7: wharfingerref07.Upper, Find. -/
import Derived.Test.YtmodmfkcigibpaaDoorVerbAll
import Derived.Test.YtmodmfkcigibpaaDoorBytes
import Derived.LoopTactic
import Derived.WalkMore
namespace Go.Proofs.YtmodmfkcigibpaaDoor.Vb
open Go.Proofs.YtmodmfkcigibpaaDoor
open Go.ChangeShapes Go.WideShapes Go.ChangeAt Go.RowKit
set_option maxRecDepth 100000
set_option linter.unusedSimpArgs false

theorem up_value {c : UInt8} (h1 : 97 ≤ c.toNat) (h2 : c.toNat ≤ 122) : (c.toNat : Int) - 97 + 65 = ((upB c).toNat : Int) := by
  unfold upB
  rw [if_pos ⟨h1, h2⟩, UInt8.toNat_ofNat_of_lt' (by show c.toNat - 32 < 256; omega)]
  omega
theorem up_same {c : UInt8} (h : ¬ (97 ≤ c.toNat ∧ c.toNat ≤ 122)) : upB c = c := by
  unfold upB
  rw [if_neg h]
theorem upper_next {s : List UInt8} {k : Nat} (hk : k < s.length) : upper (s.take (k + 1)) = upper (s.take k) ++ [upB s[k]] := by
  unfold upper
  rw [List.take_succ_eq_append_getElem hk, List.map_append]
  rfl
theorem cat_one (l : List UInt8) (c : UInt8) : (ByteArray.mk l.toArray ++ ByteArray.mk [c].toArray) = ⟨(l ++ [c]).toArray⟩ := by
  apply ByteArray.ext
  simp [ByteArray.data_append]

set_option maxHeartbeats 4000000 in
set_option maxRecDepth 100000 in
theorem rupper_any (s : List UInt8) (hl : s.length ≤ 100000) (w : World) : Calls Tryd.prog 57 #[.string ⟨s.toArray⟩] w fun e w' => e = .returned (.string ⟨(upper s).toArray⟩) ∧ Below w.heap.size w w' := by
  go_enter Tryd.func57, Tryd.ntmps57
  go_wp2_with fail
  go_loopw [3, 4] (fun x3 x4 wr => ∃ (k : Nat) (o : List UInt8), x3 = .string ⟨o.toArray⟩ ∧ x4 = .int .i64 (k : Int) ∧ k ≤ s.length ∧ Hid (o = upper (s.take k)) ∧ o.length = k ∧ Hid (Below w.heap.size w wr)) (fun _ i _ => s.length - (intOf i).toNat)
  case atStart => exact ⟨0, [], rfl, rfl, Nat.zero_le _, Lib.hid (by simp [upper]), rfl, Lib.hid (Below.refl _ _)⟩
  case round =>
    obtain ⟨k, o, rfl, rfl, hk, HO, ho, HB⟩ := hrel
    by_cases hlt : k < s.length
    · have hsz : k < (ByteArray.mk s.toArray).size := by simpa [ByteArray.size] using hlt
      obtain ⟨c, hc⟩ : ∃ c : UInt8, (ByteArray.mk s.toArray)[k]'hsz = c := ⟨_, rfl⟩
      have HN : Hid (o ++ [upB c] = upper (s.take (k + 1))) := Lib.hid (by rw [upper_next hlt, ← HO.out, ← hc]; rfl)
      have hcv := str_of_bytes (bytes_new wr [upB c] (by show 1 ≤ maxLen; decide))
      have HC := Lib.hid (cat_one o (upB c))
      have hlen : (o ++ [upB c]).length = k + 1 := by simp [ho]
      have HL := Lib.hid hlen
      clear hlen
      by_cases h1 : 97 ≤ c.toNat
      · by_cases h2 : c.toNat ≤ 122
        · have e := up_value h1 h2
          have hcv' : (convert 103 9 (.slice (some ⟨wr.heap.size, 0, none⟩) 1 1)).run Tryd.prog (wr.alloc (.cells #[.int .u8 ((c.toNat : Int) - 97 + 65)] 5)) = .ok (.string ⟨#[upB c]⟩) (wr.alloc (.cells #[.int .u8 ((c.toNat : Int) - 97 + 65)] 5)) := by rw [e]; exact hcv
          have g1 : (97 : Int) ≤ (c.toNat : Int) := by omega
          have g2 : (c.toNat : Int) ≤ 122 := by omega
          clear hcv e
          go_wp2_with fail
          go_roundw
          case rel => exact ⟨k + 1, o ++ [upB c], congrArg Value.string HC.out, by go_num, by omega, HN, HL.out, Lib.hid (HB.out.alloc HB.out.size _)⟩
          case measure => simp [intOf]; omega
        · have g1 : (97 : Int) ≤ (c.toNat : Int) := by omega
          have g2 : ¬ (c.toNat : Int) ≤ 122 := by omega
          rw [up_same (fun h => h2 h.2)] at hcv HC HN HL
          have hcv' : (convert 103 9 (.slice (some ⟨wr.heap.size, 0, none⟩) 1 1)).run Tryd.prog (wr.alloc (.cells #[.int .u8 (c.toNat : Int)] 5)) = .ok (.string ⟨#[c]⟩) (wr.alloc (.cells #[.int .u8 (c.toNat : Int)] 5)) := hcv
          clear hcv
          go_wp2_with fail
          go_roundw
          case rel => exact ⟨k + 1, o ++ [c], congrArg Value.string HC.out, by go_num, by omega, HN, HL.out, Lib.hid (HB.out.alloc HB.out.size _)⟩
          case measure => simp [intOf]; omega
      · have g1 : ¬ (97 : Int) ≤ (c.toNat : Int) := by omega
        rw [up_same (fun h => h1 h.1)] at hcv HC HN HL
        have hcv' : (convert 103 9 (.slice (some ⟨wr.heap.size, 0, none⟩) 1 1)).run Tryd.prog (wr.alloc (.cells #[.int .u8 (c.toNat : Int)] 5)) = .ok (.string ⟨#[c]⟩) (wr.alloc (.cells #[.int .u8 (c.toNat : Int)] 5)) := hcv
        clear hcv
        go_wp2_with fail
        go_roundw
        case rel => exact ⟨k + 1, o ++ [c], congrArg Value.string HC.out, by go_num, by omega, HN, HL.out, Lib.hid (HB.out.alloc HB.out.size _)⟩
        case measure => simp [intOf]; omega
    · obtain rfl : k = s.length := by omega
      rw [List.take_length] at HO
      go_wp2_with fail
      go_ret
      exact ⟨by rw [← HO.out]; rfl, HB.out⟩

set_option maxHeartbeats 4000000 in
set_option maxRecDepth 100000 in
theorem rfind_any (s : List UInt8) (hl : s.length ≤ 100000) (w : World) : Calls Tryd.prog 47 #[.string ⟨s.toArray⟩] w fun e w' => e = .returned (.tuple #[verbV (found s).1, .bool (found s).2]) ∧ Below w.heap.size w w' := by
  have Q0 := IsRow.made w 89 #[.string ⟨#[]⟩, .int .i64 0, .int .i64 0, .bool false]
  have HA := Lib.hid (fun W => rall_any W)
  have HU := Lib.hid (fun W => rupper_any s hl W)
  have HQ := Lib.hid Q0
  clear Q0
  go_enter Tryd.func47, Tryd.ntmps47
  go_wp2_with (first
    | (go_at_call 56; refine (HA.out _).mono ?_; rintro e w2 ⟨p2, c2, rfl, h2, b2⟩; have Q2 := Lib.hid (HQ.out.call b2); have V2 := Lib.hid h2; have B2 := Lib.hid (((Below.refl w.heap.size w).alloc (Nat.le_refl _) (.cells #[.string ⟨#[]⟩, .int .i64 0, .int .i64 0, .bool false] 89)).trans (b2.mono (by simp))); clear b2 h2 HQ)
    | (go_at_call 57; refine (HU.out _).mono ?_; rintro e w3 ⟨rfl, b3⟩; have Q3 := Lib.hid (Q2.out.call b3); have V3 := Lib.hid (V2.out.call b3); have B3 := Lib.hid (B2.out.trans (b3.mono B2.out.size)); clear b3 V2 Q2 B2))
  clear HA HU
  have hul : (upper s).length ≤ 100000 := by rw [upper_length]; exact hl
  have HF : Hid (found s = hasIn (verbs.drop 0) (upper s)) := Lib.hid rfl
  obtain ⟨b, o, rfl, hb1, hcell⟩ := verbs_open V3.out
  have HCE := Lib.hid hcell
  have klt := Q3.out.lt
  clear hcell
  have hvl : verbs.length = 36 := rfl
  have HVL := Lib.hid hvl
  clear hvl
  generalize upper s = u at *
  go_loop [6] (fun x6 => ∃ (k : Nat), x6 = .int .i64 (k : Int) ∧ k ≤ 36 ∧ Hid (found s = hasIn (verbs.drop k) u)) (fun i => 36 - (intOf i).toNat)
  case atStart => exact ⟨0, rfl, Nat.zero_le _, HF⟩
  case round =>
    clear HF
    obtain ⟨k, rfl, hk, HF⟩ := hrel
    by_cases hlt : k < 36
    · have hlt' : k < verbs.length := by rw [HVL.out]; exact hlt
      obtain ⟨q0, q1, q2, q3⟩ := HCE.out k hlt'
      have HS : Hid (verbs[k].name ≠ u → found s = hasIn (verbs.drop (k + 1)) u) := Lib.hid (fun h => by rw [HF.out, has_step hlt' h])
      have HH : Hid (verbs[k].name = u → found s = (verbs[k], true)) := Lib.hid (fun h => by rw [HF.out, has_hit hlt' h])
      clear HF
      generalize verbs[k] = v at *
      obtain ⟨vn, vk, va, vp⟩ := v
      simp only at q0 q1 q2 q3
      have hki : (k : Int) < 36 := by omega
      by_cases hn : vn = u
      · subst hn
        have HR := Lib.hid (HH.out rfl)
        have e0 : (vn == vn) = true := by simp
        have z0 : w3.cell? ⟨w.heap.size, 0, none⟩ = some (.string ⟨#[]⟩) := Q3.out.cell 0
        have z1 : w3.cell? ⟨w.heap.size, 1, none⟩ = some (.int .i64 0) := Q3.out.cell 1
        have z2 : w3.cell? ⟨w.heap.size, 2, none⟩ = some (.int .i64 0) := Q3.out.cell 2
        have z3 : w3.cell? ⟨w.heap.size, 3, none⟩ = some (.bool false) := Q3.out.cell 3
        have zf0 : w3.frozen? ⟨w.heap.size, 0, none⟩ = false := Q3.out.free 0
        have zf1 : w3.frozen? ⟨w.heap.size, 1, none⟩ = false := Q3.out.free 1
        have zf2 : w3.frozen? ⟨w.heap.size, 2, none⟩ = false := Q3.out.free 2
        have zf3 : w3.frozen? ⟨w.heap.size, 3, none⟩ = false := Q3.out.free 3
        clear HS HH
        go_wp2_with fail
        generalize hW : World.setCell _ _ _ = W9
        have FR : IsRow W9 w.heap.size 89 #[.string ⟨vn.toArray⟩, .int .i64 vk, .int .i64 va, .bool vp] := by rw [← hW]; exact (((Q3.out.set 0 _).set 1 _).set 2 _).set 3 _
        have B9 : Below w.heap.size w W9 := by rw [← hW]; exact (((B3.out.setCell (Nat.le_refl _) _).setCell (Nat.le_refl _) _).setCell (Nat.le_refl _) _).setCell (Nat.le_refl _) _
        have y0 : W9.cell? ⟨w.heap.size, 0, none⟩ = some (.string ⟨vn.toArray⟩) := FR.cell 0
        have y1 : W9.cell? ⟨w.heap.size, 1, none⟩ = some (.int .i64 vk) := FR.cell 1
        have y2 : W9.cell? ⟨w.heap.size, 2, none⟩ = some (.int .i64 va) := FR.cell 2
        have y3 : W9.cell? ⟨w.heap.size, 3, none⟩ = some (.bool vp) := FR.cell 3
        exact bodyPost_ret (v := .tuple #[.agg #[.string ⟨vn.toArray⟩, .int .i64 vk, .int .i64 va, .bool vp], .bool true]) (by simp [results, Tryd.results47, go_sem, y0, y1, y2, y3]) rfl ⟨by rw [HR.out], B9⟩
      · have e0 : (vn == u) = false := beq_eq_false_iff_ne.2 hn
        have HR := Lib.hid (HS.out hn)
        clear HS HH hn
        go_wp2_with fail
        go_round
        case rel => exact ⟨k + 1, by go_num, by omega, HR⟩
        case measure => simp [intOf]; omega
    · obtain rfl : k = 36 := by omega
      have HR : Hid (found s = (noVb, false)) := Lib.hid (by rw [HF.out]; exact has_end verbs u)
      have z0 : w3.cell? ⟨w.heap.size, 0, none⟩ = some (.string ⟨#[]⟩) := Q3.out.cell 0
      have z1 : w3.cell? ⟨w.heap.size, 1, none⟩ = some (.int .i64 0) := Q3.out.cell 1
      have z2 : w3.cell? ⟨w.heap.size, 2, none⟩ = some (.int .i64 0) := Q3.out.cell 2
      have z3 : w3.cell? ⟨w.heap.size, 3, none⟩ = some (.bool false) := Q3.out.cell 3
      have zf0 : w3.frozen? ⟨w.heap.size, 0, none⟩ = false := Q3.out.free 0
      have zf1 : w3.frozen? ⟨w.heap.size, 1, none⟩ = false := Q3.out.free 1
      have zf2 : w3.frozen? ⟨w.heap.size, 2, none⟩ = false := Q3.out.free 2
      have zf3 : w3.frozen? ⟨w.heap.size, 3, none⟩ = false := Q3.out.free 3
      clear HF
      go_wp2_with fail
      generalize hW : World.setCell _ _ _ = W9
      have FR : IsRow W9 w.heap.size 89 #[.string ⟨#[]⟩, .int .i64 0, .int .i64 0, .bool false] := by rw [← hW]; exact (((Q3.out.set 0 _).set 1 _).set 2 _).set 3 _
      have B9 : Below w.heap.size w W9 := by rw [← hW]; exact (((B3.out.setCell (Nat.le_refl _) _).setCell (Nat.le_refl _) _).setCell (Nat.le_refl _) _).setCell (Nat.le_refl _) _
      have y0 : W9.cell? ⟨w.heap.size, 0, none⟩ = some (.string ⟨#[]⟩) := FR.cell 0
      have y1 : W9.cell? ⟨w.heap.size, 1, none⟩ = some (.int .i64 0) := FR.cell 1
      have y2 : W9.cell? ⟨w.heap.size, 2, none⟩ = some (.int .i64 0) := FR.cell 2
      have y3 : W9.cell? ⟨w.heap.size, 3, none⟩ = some (.bool false) := FR.cell 3
      exact bodyPost_ret (v := .tuple #[.agg #[.string ⟨#[]⟩, .int .i64 0, .int .i64 0, .bool false], .bool false]) (by simp [results, Tryd.results47, go_sem, y0, y1, y2, y3]) rfl ⟨by rw [HR.out]; rfl, B9⟩

#print axioms rfind_any
end Go.Proofs.YtmodmfkcigibpaaDoor.Vb
