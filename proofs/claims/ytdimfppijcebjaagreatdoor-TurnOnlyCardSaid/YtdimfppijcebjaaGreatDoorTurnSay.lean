/- The contract of package turn's Tell (gen-turn-ref.py). -/
import Derived.Test.YtdimfppijcebjaaGreatDoorTurnCode
import Derived.Test.YtdimfppijcebjaaGreatDoorSixText
import Derived.Test.YtdimfppijcebjaaGreatDoorExtCode
namespace Go.Proofs.YtdimfppijcebjaaGreatDoor.Tu
open Go.Proofs.YtdimfppijcebjaaGreatDoor
open Go.Proofs.YtdimfppijcebjaaGreatDoor.Six (sixB sixN sixP sixL insL insO)
open Go.Proofs.YtdimfppijcebjaaGreatDoor.Ext (extC extH extP extL portL holdB holdN)
open Go Go.ChangeShapes Go.WideShapes Go.ChangeAt Go.RowKit
set_option maxRecDepth 100000
set_option linter.unusedSimpArgs false
set_option linter.unusedVariables false

theorem app_str (a b : List UInt8) : (ByteArray.mk a.toArray ++ ByteArray.mk b.toArray) = ⟨(a ++ b).toArray⟩ := by
  apply ByteArray.ext
  simp
theorem pass_bytes (t : List UInt8) : (ByteArray.mk #[69, 110, 116, 101, 114, 105, 110, 103, 32, 80, 97, 115, 115, 105, 118, 101, 32, 77, 111, 100, 101, 32, 40] ++ ByteArray.mk t.toArray ++ ByteArray.mk #[41] ++ ByteArray.mk #[46]) = ⟨(passT ++ [40] ++ t ++ [41] ++ [46]).toArray⟩ := by
  rw [show ByteArray.mk #[69, 110, 116, 101, 114, 105, 110, 103, 32, 80, 97, 115, 115, 105, 118, 101, 32, 77, 111, 100, 101, 32, 40] = ⟨(passT ++ [40]).toArray⟩ from rfl, show ByteArray.mk #[41] = ⟨([41] : List UInt8).toArray⟩ from rfl, show ByteArray.mk #[46] = ⟨([46] : List UInt8).toArray⟩ from rfl, app_str, app_str, app_str]
theorem extd_bytes (t : List UInt8) : (ByteArray.mk #[69, 110, 116, 101, 114, 105, 110, 103, 32, 69, 120, 116, 101, 110, 100, 101, 100, 32, 80, 97, 115, 115, 105, 118, 101, 32, 77, 111, 100, 101, 32] ++ ByteArray.mk t.toArray ++ ByteArray.mk #[46]) = ⟨(extdT ++ t ++ [46]).toArray⟩ := by
  rw [show ByteArray.mk #[69, 110, 116, 101, 114, 105, 110, 103, 32, 69, 120, 116, 101, 110, 100, 101, 100, 32, 80, 97, 115, 115, 105, 118, 101, 32, 77, 111, 100, 101, 32] = ⟨extdT.toArray⟩ from rfl, show ByteArray.mk #[46] = ⟨([46] : List UInt8).toArray⟩ from rfl, app_str, app_str]
theorem rpass_bytes (t : List UInt8) : (ByteArray.mk #[69, 110, 116, 101, 114, 105, 110, 103, 32, 80, 97, 115, 115, 105, 118, 101, 32, 77, 111, 100, 101, 32, 40] ++ ByteArray.mk t.toArray ++ ByteArray.mk #[41, 46]) = ⟨(passT ++ [40] ++ t ++ [41] ++ [46]).toArray⟩ := by
  rw [show ByteArray.mk #[69, 110, 116, 101, 114, 105, 110, 103, 32, 80, 97, 115, 115, 105, 118, 101, 32, 77, 111, 100, 101, 32, 40] = ⟨(passT ++ [40]).toArray⟩ from rfl, show ByteArray.mk #[41, 46] = ⟨([41, 46] : List UInt8).toArray⟩ from rfl, app_str, app_str]
  simp
theorem portL_long {n : Int} (h : 1 ≤ n ∧ n ≤ 65535) : (portL n).length ≤ 100 := by
  have := Ext.port_long (n := n) (by omega) h.2
  unfold portL; simp only [List.length_append, List.length_cons, List.length_nil]; omega
set_option maxHeartbeats 4000000 in
theorem tell_of (v : List UInt8) (x : En) (HW : x.Wf) (c : Int) (ls : List (List UInt8)) (k : Bool) (h : tellE v x = ((c, ls), k)) (w : World) (E : Env w) : Calls Tryz.prog 15 #[str v, enV x] w fun e w' => ∃ u, e = .returned (.tuple #[replyV c u, .bool k]) ∧ TextsIs w' u ls ∧ Below w.heap.size w w' := by
  obtain ⟨a, b, c, d, p⟩ := x
  obtain ⟨ha, hb, hc, hd, hp⟩ := HW
  have ha : 0 ≤ a ∧ a ≤ 255 := ha
  have hb : 0 ≤ b ∧ b ≤ 255 := hb
  have hc : 0 ≤ c ∧ c ≤ 255 := hc
  have hd : 0 ≤ d ∧ d ≤ 255 := hd
  have hp : -9223372036854775808 ≤ p ∧ p ≤ 9223372036854775807 := hp
  rcases Decidable.em (v = pasvV) with hv | hv
  · subst hv
    cases hop : openB p with
    | true =>
      have hq := open_is.1 hop
      have HO := Lib.hid (fun W => isOpen_of (n := p) hop W)
      obtain ⟨t, ht⟩ : ∃ t, sixL a b c d p = t := ⟨_, rfl⟩
      have HT := Lib.hid (fun W (EW : Env W) => ht ▸ Six.text_yes a b c d p ha.1 ha.2 hb.1 hb.2 hc.1 hc.2 hd.1 hd.2 (by omega) (by omega) W EW)
      have hl : t.length ≤ 100 := by rw [← ht]; have := Six.six_length ha hb hc hd (show 0 ≤ p ∧ p ≤ 65535 by omega); omega
      have n0 : ¬ 9223372036854775807 < 23 + t.length := by omega
      have n1 : ¬ 9223372036854775807 < 23 + t.length + 1 := by omega
      have n2 : ¬ 9223372036854775807 < 23 + t.length + 1 + 1 := by omega
      have e : tellE pasvV ⟨a, b, c, d, p⟩ = ((227, [passT ++ [40] ++ t ++ [41] ++ [46]]), true) := by unfold tellE tellB tellT tellC; simp [hop, ht]
      rw [e] at h
      injection h with i1 i2
      injection i1 with i3 i4
      subst i2; subst i3; subst i4
      clear e
      clear hop hq ht ha hb hc hd hp hl
      go_enter Tryz.func15, Tryz.ntmps15
      go_wp2_with (first
        | (go_at_call 28; refine (HT.out _ (E.below (((((Below.refl w.heap.size w)).alloc (Below.refl w.heap.size w).size (.cells #[.int .u8 a, .int .u8 b, .int .u8 c, .int .u8 d, .int .i64 p] 30))).alloc (by have := (Below.refl w.heap.size w).size; simp <;> omega) (.cells #[.int .i64 0, .slice none 0 0] 26)))).mono ?_; rintro e w1 ⟨rfl, b1⟩; have B1 := Lib.hid (((((((Below.refl w.heap.size w)).alloc (Below.refl w.heap.size w).size (.cells #[.int .u8 a, .int .u8 b, .int .u8 c, .int .u8 d, .int .i64 p] 30))).alloc (by have := (Below.refl w.heap.size w).size; simp <;> omega) (.cells #[.int .i64 0, .slice none 0 0] 26))).trans (b1.mono (by have := (((((Below.refl w.heap.size w)).alloc (Below.refl w.heap.size w).size (.cells #[.int .u8 a, .int .u8 b, .int .u8 c, .int .u8 d, .int .i64 p] 30))).alloc (by have := (Below.refl w.heap.size w).size; simp <;> omega) (.cells #[.int .i64 0, .slice none 0 0] 26)).size; first | exact this | (simp <;> omega)))); have X1 : Hid (IsRow w1 (w.heap.size) 30 #[.int .u8 a, .int .u8 b, .int .u8 c, .int .u8 d, .int .i64 p]) := Lib.hid (by first | exact ((IsRow.made w 30 #[.int .u8 a, .int .u8 b, .int .u8 c, .int .u8 d, .int .i64 p]).alloc (.cells #[.int .i64 0, .slice none 0 0] 26)).call b1 | (have h := ((IsRow.made w 30 #[.int .u8 a, .int .u8 b, .int .u8 c, .int .u8 d, .int .i64 p]).alloc (.cells #[.int .i64 0, .slice none 0 0] 26)).call b1; simp at h; exact h)); have R1 : Hid (IsRow w1 (w.heap.size + 1) 26 #[.int .i64 0, .slice none 0 0]) := Lib.hid (by first | exact (IsRow.made (w.alloc (.cells #[.int .u8 a, .int .u8 b, .int .u8 c, .int .u8 d, .int .i64 p] 30)) 26 #[.int .i64 0, .slice none 0 0]).call b1 | (have h := (IsRow.made (w.alloc (.cells #[.int .u8 a, .int .u8 b, .int .u8 c, .int .u8 d, .int .i64 p] 30)) 26 #[.int .i64 0, .slice none 0 0]).call b1; simp at h; exact h)); have Xc0 : w1.cell? ⟨w.heap.size, 0, none⟩ = some (.int .u8 a) := X1.out.cell 0; have Xf0 : w1.frozen? ⟨w.heap.size, 0, none⟩ = false := X1.out.free 0; have Xc1 : w1.cell? ⟨w.heap.size, 1, none⟩ = some (.int .u8 b) := X1.out.cell 1; have Xf1 : w1.frozen? ⟨w.heap.size, 1, none⟩ = false := X1.out.free 1; have Xc2 : w1.cell? ⟨w.heap.size, 2, none⟩ = some (.int .u8 c) := X1.out.cell 2; have Xf2 : w1.frozen? ⟨w.heap.size, 2, none⟩ = false := X1.out.free 2; have Xc3 : w1.cell? ⟨w.heap.size, 3, none⟩ = some (.int .u8 d) := X1.out.cell 3; have Xf3 : w1.frozen? ⟨w.heap.size, 3, none⟩ = false := X1.out.free 3; have Xc4 : w1.cell? ⟨w.heap.size, 4, none⟩ = some (.int .i64 p) := X1.out.cell 4; have Xf4 : w1.frozen? ⟨w.heap.size, 4, none⟩ = false := X1.out.free 4; have Xlt : w.heap.size < w1.heap.size := X1.out.lt; have Rc0 : w1.cell? ⟨w.heap.size + 1, 0, none⟩ = some (.int .i64 0) := R1.out.cell 0; have Rf0 : w1.frozen? ⟨w.heap.size + 1, 0, none⟩ = false := R1.out.free 0; have Rc1 : w1.cell? ⟨w.heap.size + 1, 1, none⟩ = some (.slice none 0 0) := R1.out.cell 1; have Rf1 : w1.frozen? ⟨w.heap.size + 1, 1, none⟩ = false := R1.out.free 1; have Rlt : w.heap.size + 1 < w1.heap.size := R1.out.lt; clear HT)
        | (go_at_call 30; refine (HO.out _).mono ?_; rintro e w9 ⟨rfl, h9⟩; obtain rfl := h9.symm))
      obtain ⟨W9, hW⟩ : ∃ W9, ((World.setCell (World.setCell w1 ⟨w.heap.size + 1, 0, none⟩ (.int .i64 227)) ⟨w.heap.size + 1, 1, none⟩ (.slice (some ⟨w1.heap.size, 0, none⟩) 1 1)).alloc (.cells #[.string (ByteArray.mk #[69, 110, 116, 101, 114, 105, 110, 103, 32, 80, 97, 115, 115, 105, 118, 101, 32, 77, 111, 100, 101, 32, 40] ++ ByteArray.mk t.toArray ++ ByteArray.mk #[41] ++ ByteArray.mk #[46])] 9)) = W9 := ⟨_, rfl⟩
      have R9 : IsRow W9 (w.heap.size + 1) 26 #[.int .i64 227, .slice (some ⟨w1.heap.size, 0, none⟩) 1 1] := by
        rw [← hW]
        exact (((R1.out.set 0 (.int .i64 227)).set 1 (.slice (some ⟨w1.heap.size, 0, none⟩) 1 1)).alloc (.cells #[.string (ByteArray.mk #[69, 110, 116, 101, 114, 105, 110, 103, 32, 80, 97, 115, 115, 105, 118, 101, 32, 77, 111, 100, 101, 32, 40] ++ ByteArray.mk t.toArray ++ ByteArray.mk #[41] ++ ByteArray.mk #[46])] 9))
      have L9 : IsRow W9 (w1.heap.size) 9 #[.string (ByteArray.mk #[69, 110, 116, 101, 114, 105, 110, 103, 32, 80, 97, 115, 115, 105, 118, 101, 32, 77, 111, 100, 101, 32, 40] ++ ByteArray.mk t.toArray ++ ByteArray.mk #[41] ++ ByteArray.mk #[46])] := by
        rw [← hW]
        first | exact (IsRow.made (World.setCell (World.setCell w1 ⟨w.heap.size + 1, 0, none⟩ (.int .i64 227)) ⟨w.heap.size + 1, 1, none⟩ (.slice (some ⟨w1.heap.size, 0, none⟩) 1 1)) 9 #[.string (ByteArray.mk #[69, 110, 116, 101, 114, 105, 110, 103, 32, 80, 97, 115, 115, 105, 118, 101, 32, 77, 111, 100, 101, 32, 40] ++ ByteArray.mk t.toArray ++ ByteArray.mk #[41] ++ ByteArray.mk #[46])]) | (have h := (IsRow.made (World.setCell (World.setCell w1 ⟨w.heap.size + 1, 0, none⟩ (.int .i64 227)) ⟨w.heap.size + 1, 1, none⟩ (.slice (some ⟨w1.heap.size, 0, none⟩) 1 1)) 9 #[.string (ByteArray.mk #[69, 110, 116, 101, 114, 105, 110, 103, 32, 80, 97, 115, 115, 105, 118, 101, 32, 77, 111, 100, 101, 32, 40] ++ ByteArray.mk t.toArray ++ ByteArray.mk #[41] ++ ByteArray.mk #[46])]); simp at h; exact h)
      have B9 : Below w.heap.size w W9 := by
        rw [← hW]
        exact ((((((B1.out).setCell (p := ⟨w.heap.size + 1, 0, none⟩) (by show w.heap.size ≤ w.heap.size + 1; (try have hs1 := B1.out.size); omega) (.int .i64 227))).setCell (p := ⟨w.heap.size + 1, 1, none⟩) (by show w.heap.size ≤ w.heap.size + 1; (try have hs1 := B1.out.size); omega) (.slice (some ⟨w1.heap.size, 0, none⟩) 1 1))).alloc (by have := B1.out.size; simp <;> omega) (.cells #[.string (ByteArray.mk #[69, 110, 116, 101, 114, 105, 110, 103, 32, 80, 97, 115, 115, 105, 118, 101, 32, 77, 111, 100, 101, 32, 40] ++ ByteArray.mk t.toArray ++ ByteArray.mk #[41] ++ ByteArray.mk #[46])] 9))
      rw [hW]
      clear Xc0 Xf0 Xc1 Xf1 Xc2 Xf2 Xc3 Xf3 Xc4 Xf4 Xlt Rc0 Rf0 Rc1 Rf1 Rlt
      have y0 : W9.cell? ⟨w.heap.size + 1, 0, none⟩ = some (.int .i64 227) := R9.cell 0
      have y1 : W9.cell? ⟨w.heap.size + 1, 1, none⟩ = some (.slice (some ⟨w1.heap.size, 0, none⟩) 1 1) := R9.cell 1
      have x9 : W9.cell? ⟨w1.heap.size, 0, none⟩ = some (.string (ByteArray.mk #[69, 110, 116, 101, 114, 105, 110, 103, 32, 80, 97, 115, 115, 105, 118, 101, 32, 77, 111, 100, 101, 32, 40] ++ ByteArray.mk t.toArray ++ ByteArray.mk #[41] ++ ByteArray.mk #[46])) := L9.cell 0
      rw [pass_bytes] at x9
      refine bodyPost_ret (v := .tuple #[.agg #[.int .i64 227, .slice (some ⟨w1.heap.size, 0, none⟩) 1 1], .bool true]) (by simp [results, Tryz.results15, go_sem, y0, y1]; done) rfl ?_
      refine ⟨_, rfl, Or.inr ⟨⟨w1.heap.size, 0, none⟩, 1, ⟨rfl, show (1 : Nat) ≤ maxLen by decide⟩, fun i hi => ?_⟩, B9⟩
      obtain rfl : i = 0 := by simp at hi; omega
      exact x9
    | false =>
      have e : tellE pasvV ⟨a, b, c, d, p⟩ = ((0, []), false) := by unfold tellE tellB; simp [hop]
      rw [e] at h
      injection h with i1 i2
      injection i1 with i3 i4
      subst i2; subst i3; subst i4
      clear e
      rcases Decidable.em (0 ≤ p ∧ p ≤ 65535) with hq | hq
      · have HO := Lib.hid (fun W => isOpen_of (n := p) hop W)
        obtain ⟨t, ht⟩ : ∃ t, sixL a b c d p = t := ⟨_, rfl⟩
        have HT := Lib.hid (fun W (EW : Env W) => ht ▸ Six.text_yes a b c d p ha.1 ha.2 hb.1 hb.2 hc.1 hc.2 hd.1 hd.2 hq.1 hq.2 W EW)
        have hl : t.length ≤ 100 := by rw [← ht]; have := Six.six_length ha hb hc hd (show 0 ≤ p ∧ p ≤ 65535 by omega); omega
        have n0 : ¬ 9223372036854775807 < 23 + t.length := by omega
        have n1 : ¬ 9223372036854775807 < 23 + t.length + 1 := by omega
        have n2 : ¬ 9223372036854775807 < 23 + t.length + 1 + 1 := by omega
        clear hop hq ht ha hb hc hd hp hl
        go_enter Tryz.func15, Tryz.ntmps15
        go_wp2_with (first
          | (go_at_call 28; refine (HT.out _ (E.below (((((Below.refl w.heap.size w)).alloc (Below.refl w.heap.size w).size (.cells #[.int .u8 a, .int .u8 b, .int .u8 c, .int .u8 d, .int .i64 p] 30))).alloc (by have := (Below.refl w.heap.size w).size; simp <;> omega) (.cells #[.int .i64 0, .slice none 0 0] 26)))).mono ?_; rintro e w1 ⟨rfl, b1⟩; have B1 := Lib.hid (((((((Below.refl w.heap.size w)).alloc (Below.refl w.heap.size w).size (.cells #[.int .u8 a, .int .u8 b, .int .u8 c, .int .u8 d, .int .i64 p] 30))).alloc (by have := (Below.refl w.heap.size w).size; simp <;> omega) (.cells #[.int .i64 0, .slice none 0 0] 26))).trans (b1.mono (by have := (((((Below.refl w.heap.size w)).alloc (Below.refl w.heap.size w).size (.cells #[.int .u8 a, .int .u8 b, .int .u8 c, .int .u8 d, .int .i64 p] 30))).alloc (by have := (Below.refl w.heap.size w).size; simp <;> omega) (.cells #[.int .i64 0, .slice none 0 0] 26)).size; first | exact this | (simp <;> omega)))); have X1 : Hid (IsRow w1 (w.heap.size) 30 #[.int .u8 a, .int .u8 b, .int .u8 c, .int .u8 d, .int .i64 p]) := Lib.hid (by first | exact ((IsRow.made w 30 #[.int .u8 a, .int .u8 b, .int .u8 c, .int .u8 d, .int .i64 p]).alloc (.cells #[.int .i64 0, .slice none 0 0] 26)).call b1 | (have h := ((IsRow.made w 30 #[.int .u8 a, .int .u8 b, .int .u8 c, .int .u8 d, .int .i64 p]).alloc (.cells #[.int .i64 0, .slice none 0 0] 26)).call b1; simp at h; exact h)); have R1 : Hid (IsRow w1 (w.heap.size + 1) 26 #[.int .i64 0, .slice none 0 0]) := Lib.hid (by first | exact (IsRow.made (w.alloc (.cells #[.int .u8 a, .int .u8 b, .int .u8 c, .int .u8 d, .int .i64 p] 30)) 26 #[.int .i64 0, .slice none 0 0]).call b1 | (have h := (IsRow.made (w.alloc (.cells #[.int .u8 a, .int .u8 b, .int .u8 c, .int .u8 d, .int .i64 p] 30)) 26 #[.int .i64 0, .slice none 0 0]).call b1; simp at h; exact h)); have Xc0 : w1.cell? ⟨w.heap.size, 0, none⟩ = some (.int .u8 a) := X1.out.cell 0; have Xf0 : w1.frozen? ⟨w.heap.size, 0, none⟩ = false := X1.out.free 0; have Xc1 : w1.cell? ⟨w.heap.size, 1, none⟩ = some (.int .u8 b) := X1.out.cell 1; have Xf1 : w1.frozen? ⟨w.heap.size, 1, none⟩ = false := X1.out.free 1; have Xc2 : w1.cell? ⟨w.heap.size, 2, none⟩ = some (.int .u8 c) := X1.out.cell 2; have Xf2 : w1.frozen? ⟨w.heap.size, 2, none⟩ = false := X1.out.free 2; have Xc3 : w1.cell? ⟨w.heap.size, 3, none⟩ = some (.int .u8 d) := X1.out.cell 3; have Xf3 : w1.frozen? ⟨w.heap.size, 3, none⟩ = false := X1.out.free 3; have Xc4 : w1.cell? ⟨w.heap.size, 4, none⟩ = some (.int .i64 p) := X1.out.cell 4; have Xf4 : w1.frozen? ⟨w.heap.size, 4, none⟩ = false := X1.out.free 4; have Xlt : w.heap.size < w1.heap.size := X1.out.lt; have Rc0 : w1.cell? ⟨w.heap.size + 1, 0, none⟩ = some (.int .i64 0) := R1.out.cell 0; have Rf0 : w1.frozen? ⟨w.heap.size + 1, 0, none⟩ = false := R1.out.free 0; have Rc1 : w1.cell? ⟨w.heap.size + 1, 1, none⟩ = some (.slice none 0 0) := R1.out.cell 1; have Rf1 : w1.frozen? ⟨w.heap.size + 1, 1, none⟩ = false := R1.out.free 1; have Rlt : w.heap.size + 1 < w1.heap.size := R1.out.lt; clear HT)
          | (go_at_call 30; refine (HO.out _).mono ?_; rintro e w9 ⟨rfl, h9⟩; obtain rfl := h9.symm))
        obtain ⟨W9, hW⟩ : ∃ W9, (World.setCell (World.setCell w1 ⟨w.heap.size + 1, 0, none⟩ (.int .i64 0)) ⟨w.heap.size + 1, 1, none⟩ (.slice none 0 0)) = W9 := ⟨_, rfl⟩
        have R9 : IsRow W9 (w.heap.size + 1) 26 #[.int .i64 0, .slice none 0 0] := by
          rw [← hW]
          exact ((R1.out.set 0 (.int .i64 0)).set 1 (.slice none 0 0))
        have B9 : Below w.heap.size w W9 := by
          rw [← hW]
          exact ((((B1.out).setCell (p := ⟨w.heap.size + 1, 0, none⟩) (by show w.heap.size ≤ w.heap.size + 1; (try have hs1 := B1.out.size); omega) (.int .i64 0))).setCell (p := ⟨w.heap.size + 1, 1, none⟩) (by show w.heap.size ≤ w.heap.size + 1; (try have hs1 := B1.out.size); omega) (.slice none 0 0))
        rw [hW]
        clear Xc0 Xf0 Xc1 Xf1 Xc2 Xf2 Xc3 Xf3 Xc4 Xf4 Xlt Rc0 Rf0 Rc1 Rf1 Rlt
        have y0 : W9.cell? ⟨w.heap.size + 1, 0, none⟩ = some (.int .i64 0) := R9.cell 0
        have y1 : W9.cell? ⟨w.heap.size + 1, 1, none⟩ = some (.slice none 0 0) := R9.cell 1
        refine bodyPost_ret (v := .tuple #[.agg #[.int .i64 0, .slice none 0 0], .bool false]) (by simp [results, Tryz.results15, go_sem, y0, y1]; done) rfl ?_
        exact ⟨_, rfl, TextsIs.nil _, B9⟩
      · have HT := Lib.hid (fun W (EW : Env W) => Six.text_no a b c d p hp.1 hp.2 (by omega) W)
        clear hop hq ha hb hc hd hp
        go_enter Tryz.func15, Tryz.ntmps15
        go_wp2_with (go_at_call 28; refine (HT.out _ (E.below (((((Below.refl w.heap.size w)).alloc (Below.refl w.heap.size w).size (.cells #[.int .u8 a, .int .u8 b, .int .u8 c, .int .u8 d, .int .i64 p] 30))).alloc (by have := (Below.refl w.heap.size w).size; simp <;> omega) (.cells #[.int .i64 0, .slice none 0 0] 26)))).mono ?_; rintro e w1 ⟨rfl, b1⟩; have B1 := Lib.hid (((((((Below.refl w.heap.size w)).alloc (Below.refl w.heap.size w).size (.cells #[.int .u8 a, .int .u8 b, .int .u8 c, .int .u8 d, .int .i64 p] 30))).alloc (by have := (Below.refl w.heap.size w).size; simp <;> omega) (.cells #[.int .i64 0, .slice none 0 0] 26))).trans (b1.mono (by have := (((((Below.refl w.heap.size w)).alloc (Below.refl w.heap.size w).size (.cells #[.int .u8 a, .int .u8 b, .int .u8 c, .int .u8 d, .int .i64 p] 30))).alloc (by have := (Below.refl w.heap.size w).size; simp <;> omega) (.cells #[.int .i64 0, .slice none 0 0] 26)).size; first | exact this | (simp <;> omega)))); have X1 : Hid (IsRow w1 (w.heap.size) 30 #[.int .u8 a, .int .u8 b, .int .u8 c, .int .u8 d, .int .i64 p]) := Lib.hid (by first | exact ((IsRow.made w 30 #[.int .u8 a, .int .u8 b, .int .u8 c, .int .u8 d, .int .i64 p]).alloc (.cells #[.int .i64 0, .slice none 0 0] 26)).call b1 | (have h := ((IsRow.made w 30 #[.int .u8 a, .int .u8 b, .int .u8 c, .int .u8 d, .int .i64 p]).alloc (.cells #[.int .i64 0, .slice none 0 0] 26)).call b1; simp at h; exact h)); have R1 : Hid (IsRow w1 (w.heap.size + 1) 26 #[.int .i64 0, .slice none 0 0]) := Lib.hid (by first | exact (IsRow.made (w.alloc (.cells #[.int .u8 a, .int .u8 b, .int .u8 c, .int .u8 d, .int .i64 p] 30)) 26 #[.int .i64 0, .slice none 0 0]).call b1 | (have h := (IsRow.made (w.alloc (.cells #[.int .u8 a, .int .u8 b, .int .u8 c, .int .u8 d, .int .i64 p] 30)) 26 #[.int .i64 0, .slice none 0 0]).call b1; simp at h; exact h)); have Xc0 : w1.cell? ⟨w.heap.size, 0, none⟩ = some (.int .u8 a) := X1.out.cell 0; have Xf0 : w1.frozen? ⟨w.heap.size, 0, none⟩ = false := X1.out.free 0; have Xc1 : w1.cell? ⟨w.heap.size, 1, none⟩ = some (.int .u8 b) := X1.out.cell 1; have Xf1 : w1.frozen? ⟨w.heap.size, 1, none⟩ = false := X1.out.free 1; have Xc2 : w1.cell? ⟨w.heap.size, 2, none⟩ = some (.int .u8 c) := X1.out.cell 2; have Xf2 : w1.frozen? ⟨w.heap.size, 2, none⟩ = false := X1.out.free 2; have Xc3 : w1.cell? ⟨w.heap.size, 3, none⟩ = some (.int .u8 d) := X1.out.cell 3; have Xf3 : w1.frozen? ⟨w.heap.size, 3, none⟩ = false := X1.out.free 3; have Xc4 : w1.cell? ⟨w.heap.size, 4, none⟩ = some (.int .i64 p) := X1.out.cell 4; have Xf4 : w1.frozen? ⟨w.heap.size, 4, none⟩ = false := X1.out.free 4; have Xlt : w.heap.size < w1.heap.size := X1.out.lt; have Rc0 : w1.cell? ⟨w.heap.size + 1, 0, none⟩ = some (.int .i64 0) := R1.out.cell 0; have Rf0 : w1.frozen? ⟨w.heap.size + 1, 0, none⟩ = false := R1.out.free 0; have Rc1 : w1.cell? ⟨w.heap.size + 1, 1, none⟩ = some (.slice none 0 0) := R1.out.cell 1; have Rf1 : w1.frozen? ⟨w.heap.size + 1, 1, none⟩ = false := R1.out.free 1; have Rlt : w.heap.size + 1 < w1.heap.size := R1.out.lt; clear HT)
        obtain ⟨W9, hW⟩ : ∃ W9, (World.setCell (World.setCell w1 ⟨w.heap.size + 1, 0, none⟩ (.int .i64 0)) ⟨w.heap.size + 1, 1, none⟩ (.slice none 0 0)) = W9 := ⟨_, rfl⟩
        have R9 : IsRow W9 (w.heap.size + 1) 26 #[.int .i64 0, .slice none 0 0] := by
          rw [← hW]
          exact ((R1.out.set 0 (.int .i64 0)).set 1 (.slice none 0 0))
        have B9 : Below w.heap.size w W9 := by
          rw [← hW]
          exact ((((B1.out).setCell (p := ⟨w.heap.size + 1, 0, none⟩) (by show w.heap.size ≤ w.heap.size + 1; (try have hs1 := B1.out.size); omega) (.int .i64 0))).setCell (p := ⟨w.heap.size + 1, 1, none⟩) (by show w.heap.size ≤ w.heap.size + 1; (try have hs1 := B1.out.size); omega) (.slice none 0 0))
        rw [hW]
        clear Xc0 Xf0 Xc1 Xf1 Xc2 Xf2 Xc3 Xf3 Xc4 Xf4 Xlt Rc0 Rf0 Rc1 Rf1 Rlt
        have y0 : W9.cell? ⟨w.heap.size + 1, 0, none⟩ = some (.int .i64 0) := R9.cell 0
        have y1 : W9.cell? ⟨w.heap.size + 1, 1, none⟩ = some (.slice none 0 0) := R9.cell 1
        refine bodyPost_ret (v := .tuple #[.agg #[.int .i64 0, .slice none 0 0], .bool false]) (by simp [results, Tryz.results15, go_sem, y0, y1]; done) rfl ?_
        exact ⟨_, rfl, TextsIs.nil _, B9⟩
  have b1 : (v == [80, 65, 83, 86]) = false := beq_eq_false_iff_ne.2 hv
  rcases Decidable.em (v = epsvV) with hw | hw
  · subst hw
    clear b1 hv
    cases hop : openB p with
    | true =>
      have hq := open_is.1 hop
      have HO := Lib.hid (fun W => isOpen_of (n := p) hop W)
      obtain ⟨t, ht⟩ : ∃ t, portL p = t := ⟨_, rfl⟩
      have HT := Lib.hid (fun W (EW : Env W) => ht ▸ Ext.port_yes p (by omega) (by omega) W EW)
      have hl : t.length ≤ 100 := by rw [← ht]; exact portL_long (by omega)
      have n0 : ¬ 9223372036854775807 < 31 + t.length := by omega
      have n1 : ¬ 9223372036854775807 < 31 + t.length + 1 := by omega
      have e : tellE epsvV ⟨a, b, c, d, p⟩ = ((229, [extdT ++ t ++ [46]]), true) := by unfold tellE tellB tellT tellC; simp [hop, ht]
      rw [e] at h
      injection h with i1 i2
      injection i1 with i3 i4
      subst i2; subst i3; subst i4
      clear e
      clear hop hq ht ha hb hc hd hp hl
      go_enter Tryz.func15, Tryz.ntmps15
      go_wp2_with (first
        | (go_at_call 34; refine (HT.out _ (E.below (((((Below.refl w.heap.size w)).alloc (Below.refl w.heap.size w).size (.cells #[.int .u8 a, .int .u8 b, .int .u8 c, .int .u8 d, .int .i64 p] 30))).alloc (by have := (Below.refl w.heap.size w).size; simp <;> omega) (.cells #[.int .i64 0, .slice none 0 0] 26)))).mono ?_; rintro e w1 ⟨rfl, b1⟩; have B1 := Lib.hid (((((((Below.refl w.heap.size w)).alloc (Below.refl w.heap.size w).size (.cells #[.int .u8 a, .int .u8 b, .int .u8 c, .int .u8 d, .int .i64 p] 30))).alloc (by have := (Below.refl w.heap.size w).size; simp <;> omega) (.cells #[.int .i64 0, .slice none 0 0] 26))).trans (b1.mono (by have := (((((Below.refl w.heap.size w)).alloc (Below.refl w.heap.size w).size (.cells #[.int .u8 a, .int .u8 b, .int .u8 c, .int .u8 d, .int .i64 p] 30))).alloc (by have := (Below.refl w.heap.size w).size; simp <;> omega) (.cells #[.int .i64 0, .slice none 0 0] 26)).size; first | exact this | (simp <;> omega)))); have X1 : Hid (IsRow w1 (w.heap.size) 30 #[.int .u8 a, .int .u8 b, .int .u8 c, .int .u8 d, .int .i64 p]) := Lib.hid (by first | exact ((IsRow.made w 30 #[.int .u8 a, .int .u8 b, .int .u8 c, .int .u8 d, .int .i64 p]).alloc (.cells #[.int .i64 0, .slice none 0 0] 26)).call b1 | (have h := ((IsRow.made w 30 #[.int .u8 a, .int .u8 b, .int .u8 c, .int .u8 d, .int .i64 p]).alloc (.cells #[.int .i64 0, .slice none 0 0] 26)).call b1; simp at h; exact h)); have R1 : Hid (IsRow w1 (w.heap.size + 1) 26 #[.int .i64 0, .slice none 0 0]) := Lib.hid (by first | exact (IsRow.made (w.alloc (.cells #[.int .u8 a, .int .u8 b, .int .u8 c, .int .u8 d, .int .i64 p] 30)) 26 #[.int .i64 0, .slice none 0 0]).call b1 | (have h := (IsRow.made (w.alloc (.cells #[.int .u8 a, .int .u8 b, .int .u8 c, .int .u8 d, .int .i64 p] 30)) 26 #[.int .i64 0, .slice none 0 0]).call b1; simp at h; exact h)); have Xc0 : w1.cell? ⟨w.heap.size, 0, none⟩ = some (.int .u8 a) := X1.out.cell 0; have Xf0 : w1.frozen? ⟨w.heap.size, 0, none⟩ = false := X1.out.free 0; have Xc1 : w1.cell? ⟨w.heap.size, 1, none⟩ = some (.int .u8 b) := X1.out.cell 1; have Xf1 : w1.frozen? ⟨w.heap.size, 1, none⟩ = false := X1.out.free 1; have Xc2 : w1.cell? ⟨w.heap.size, 2, none⟩ = some (.int .u8 c) := X1.out.cell 2; have Xf2 : w1.frozen? ⟨w.heap.size, 2, none⟩ = false := X1.out.free 2; have Xc3 : w1.cell? ⟨w.heap.size, 3, none⟩ = some (.int .u8 d) := X1.out.cell 3; have Xf3 : w1.frozen? ⟨w.heap.size, 3, none⟩ = false := X1.out.free 3; have Xc4 : w1.cell? ⟨w.heap.size, 4, none⟩ = some (.int .i64 p) := X1.out.cell 4; have Xf4 : w1.frozen? ⟨w.heap.size, 4, none⟩ = false := X1.out.free 4; have Xlt : w.heap.size < w1.heap.size := X1.out.lt; have Rc0 : w1.cell? ⟨w.heap.size + 1, 0, none⟩ = some (.int .i64 0) := R1.out.cell 0; have Rf0 : w1.frozen? ⟨w.heap.size + 1, 0, none⟩ = false := R1.out.free 0; have Rc1 : w1.cell? ⟨w.heap.size + 1, 1, none⟩ = some (.slice none 0 0) := R1.out.cell 1; have Rf1 : w1.frozen? ⟨w.heap.size + 1, 1, none⟩ = false := R1.out.free 1; have Rlt : w.heap.size + 1 < w1.heap.size := R1.out.lt; clear HT)
        | (go_at_call 30; refine (HO.out _).mono ?_; rintro e w9 ⟨rfl, h9⟩; obtain rfl := h9.symm))
      obtain ⟨W9, hW⟩ : ∃ W9, ((World.setCell (World.setCell w1 ⟨w.heap.size + 1, 0, none⟩ (.int .i64 229)) ⟨w.heap.size + 1, 1, none⟩ (.slice (some ⟨w1.heap.size, 0, none⟩) 1 1)).alloc (.cells #[.string (ByteArray.mk #[69, 110, 116, 101, 114, 105, 110, 103, 32, 69, 120, 116, 101, 110, 100, 101, 100, 32, 80, 97, 115, 115, 105, 118, 101, 32, 77, 111, 100, 101, 32] ++ ByteArray.mk t.toArray ++ ByteArray.mk #[46])] 9)) = W9 := ⟨_, rfl⟩
      have R9 : IsRow W9 (w.heap.size + 1) 26 #[.int .i64 229, .slice (some ⟨w1.heap.size, 0, none⟩) 1 1] := by
        rw [← hW]
        exact (((R1.out.set 0 (.int .i64 229)).set 1 (.slice (some ⟨w1.heap.size, 0, none⟩) 1 1)).alloc (.cells #[.string (ByteArray.mk #[69, 110, 116, 101, 114, 105, 110, 103, 32, 69, 120, 116, 101, 110, 100, 101, 100, 32, 80, 97, 115, 115, 105, 118, 101, 32, 77, 111, 100, 101, 32] ++ ByteArray.mk t.toArray ++ ByteArray.mk #[46])] 9))
      have L9 : IsRow W9 (w1.heap.size) 9 #[.string (ByteArray.mk #[69, 110, 116, 101, 114, 105, 110, 103, 32, 69, 120, 116, 101, 110, 100, 101, 100, 32, 80, 97, 115, 115, 105, 118, 101, 32, 77, 111, 100, 101, 32] ++ ByteArray.mk t.toArray ++ ByteArray.mk #[46])] := by
        rw [← hW]
        first | exact (IsRow.made (World.setCell (World.setCell w1 ⟨w.heap.size + 1, 0, none⟩ (.int .i64 229)) ⟨w.heap.size + 1, 1, none⟩ (.slice (some ⟨w1.heap.size, 0, none⟩) 1 1)) 9 #[.string (ByteArray.mk #[69, 110, 116, 101, 114, 105, 110, 103, 32, 69, 120, 116, 101, 110, 100, 101, 100, 32, 80, 97, 115, 115, 105, 118, 101, 32, 77, 111, 100, 101, 32] ++ ByteArray.mk t.toArray ++ ByteArray.mk #[46])]) | (have h := (IsRow.made (World.setCell (World.setCell w1 ⟨w.heap.size + 1, 0, none⟩ (.int .i64 229)) ⟨w.heap.size + 1, 1, none⟩ (.slice (some ⟨w1.heap.size, 0, none⟩) 1 1)) 9 #[.string (ByteArray.mk #[69, 110, 116, 101, 114, 105, 110, 103, 32, 69, 120, 116, 101, 110, 100, 101, 100, 32, 80, 97, 115, 115, 105, 118, 101, 32, 77, 111, 100, 101, 32] ++ ByteArray.mk t.toArray ++ ByteArray.mk #[46])]); simp at h; exact h)
      have B9 : Below w.heap.size w W9 := by
        rw [← hW]
        exact ((((((B1.out).setCell (p := ⟨w.heap.size + 1, 0, none⟩) (by show w.heap.size ≤ w.heap.size + 1; (try have hs1 := B1.out.size); omega) (.int .i64 229))).setCell (p := ⟨w.heap.size + 1, 1, none⟩) (by show w.heap.size ≤ w.heap.size + 1; (try have hs1 := B1.out.size); omega) (.slice (some ⟨w1.heap.size, 0, none⟩) 1 1))).alloc (by have := B1.out.size; simp <;> omega) (.cells #[.string (ByteArray.mk #[69, 110, 116, 101, 114, 105, 110, 103, 32, 69, 120, 116, 101, 110, 100, 101, 100, 32, 80, 97, 115, 115, 105, 118, 101, 32, 77, 111, 100, 101, 32] ++ ByteArray.mk t.toArray ++ ByteArray.mk #[46])] 9))
      rw [hW]
      clear Xc0 Xf0 Xc1 Xf1 Xc2 Xf2 Xc3 Xf3 Xc4 Xf4 Xlt Rc0 Rf0 Rc1 Rf1 Rlt
      have y0 : W9.cell? ⟨w.heap.size + 1, 0, none⟩ = some (.int .i64 229) := R9.cell 0
      have y1 : W9.cell? ⟨w.heap.size + 1, 1, none⟩ = some (.slice (some ⟨w1.heap.size, 0, none⟩) 1 1) := R9.cell 1
      have x9 : W9.cell? ⟨w1.heap.size, 0, none⟩ = some (.string (ByteArray.mk #[69, 110, 116, 101, 114, 105, 110, 103, 32, 69, 120, 116, 101, 110, 100, 101, 100, 32, 80, 97, 115, 115, 105, 118, 101, 32, 77, 111, 100, 101, 32] ++ ByteArray.mk t.toArray ++ ByteArray.mk #[46])) := L9.cell 0
      rw [extd_bytes] at x9
      refine bodyPost_ret (v := .tuple #[.agg #[.int .i64 229, .slice (some ⟨w1.heap.size, 0, none⟩) 1 1], .bool true]) (by simp [results, Tryz.results15, go_sem, y0, y1]; done) rfl ?_
      refine ⟨_, rfl, Or.inr ⟨⟨w1.heap.size, 0, none⟩, 1, ⟨rfl, show (1 : Nat) ≤ maxLen by decide⟩, fun i hi => ?_⟩, B9⟩
      obtain rfl : i = 0 := by simp at hi; omega
      exact x9
    | false =>
      have e : tellE epsvV ⟨a, b, c, d, p⟩ = ((0, []), false) := by unfold tellE tellB; simp [hop]
      rw [e] at h
      injection h with i1 i2
      injection i1 with i3 i4
      subst i2; subst i3; subst i4
      clear e
      rcases Decidable.em (1 ≤ p ∧ p ≤ 65535) with hq | hq
      · have HO := Lib.hid (fun W => isOpen_of (n := p) hop W)
        obtain ⟨t, ht⟩ : ∃ t, portL p = t := ⟨_, rfl⟩
        have HT := Lib.hid (fun W (EW : Env W) => ht ▸ Ext.port_yes p hq.1 hq.2 W EW)
        have hl : t.length ≤ 100 := by rw [← ht]; exact portL_long (by omega)
        have n0 : ¬ 9223372036854775807 < 31 + t.length := by omega
        have n1 : ¬ 9223372036854775807 < 31 + t.length + 1 := by omega
        clear hop hq ht ha hb hc hd hp hl
        go_enter Tryz.func15, Tryz.ntmps15
        go_wp2_with (first
          | (go_at_call 34; refine (HT.out _ (E.below (((((Below.refl w.heap.size w)).alloc (Below.refl w.heap.size w).size (.cells #[.int .u8 a, .int .u8 b, .int .u8 c, .int .u8 d, .int .i64 p] 30))).alloc (by have := (Below.refl w.heap.size w).size; simp <;> omega) (.cells #[.int .i64 0, .slice none 0 0] 26)))).mono ?_; rintro e w1 ⟨rfl, b1⟩; have B1 := Lib.hid (((((((Below.refl w.heap.size w)).alloc (Below.refl w.heap.size w).size (.cells #[.int .u8 a, .int .u8 b, .int .u8 c, .int .u8 d, .int .i64 p] 30))).alloc (by have := (Below.refl w.heap.size w).size; simp <;> omega) (.cells #[.int .i64 0, .slice none 0 0] 26))).trans (b1.mono (by have := (((((Below.refl w.heap.size w)).alloc (Below.refl w.heap.size w).size (.cells #[.int .u8 a, .int .u8 b, .int .u8 c, .int .u8 d, .int .i64 p] 30))).alloc (by have := (Below.refl w.heap.size w).size; simp <;> omega) (.cells #[.int .i64 0, .slice none 0 0] 26)).size; first | exact this | (simp <;> omega)))); have X1 : Hid (IsRow w1 (w.heap.size) 30 #[.int .u8 a, .int .u8 b, .int .u8 c, .int .u8 d, .int .i64 p]) := Lib.hid (by first | exact ((IsRow.made w 30 #[.int .u8 a, .int .u8 b, .int .u8 c, .int .u8 d, .int .i64 p]).alloc (.cells #[.int .i64 0, .slice none 0 0] 26)).call b1 | (have h := ((IsRow.made w 30 #[.int .u8 a, .int .u8 b, .int .u8 c, .int .u8 d, .int .i64 p]).alloc (.cells #[.int .i64 0, .slice none 0 0] 26)).call b1; simp at h; exact h)); have R1 : Hid (IsRow w1 (w.heap.size + 1) 26 #[.int .i64 0, .slice none 0 0]) := Lib.hid (by first | exact (IsRow.made (w.alloc (.cells #[.int .u8 a, .int .u8 b, .int .u8 c, .int .u8 d, .int .i64 p] 30)) 26 #[.int .i64 0, .slice none 0 0]).call b1 | (have h := (IsRow.made (w.alloc (.cells #[.int .u8 a, .int .u8 b, .int .u8 c, .int .u8 d, .int .i64 p] 30)) 26 #[.int .i64 0, .slice none 0 0]).call b1; simp at h; exact h)); have Xc0 : w1.cell? ⟨w.heap.size, 0, none⟩ = some (.int .u8 a) := X1.out.cell 0; have Xf0 : w1.frozen? ⟨w.heap.size, 0, none⟩ = false := X1.out.free 0; have Xc1 : w1.cell? ⟨w.heap.size, 1, none⟩ = some (.int .u8 b) := X1.out.cell 1; have Xf1 : w1.frozen? ⟨w.heap.size, 1, none⟩ = false := X1.out.free 1; have Xc2 : w1.cell? ⟨w.heap.size, 2, none⟩ = some (.int .u8 c) := X1.out.cell 2; have Xf2 : w1.frozen? ⟨w.heap.size, 2, none⟩ = false := X1.out.free 2; have Xc3 : w1.cell? ⟨w.heap.size, 3, none⟩ = some (.int .u8 d) := X1.out.cell 3; have Xf3 : w1.frozen? ⟨w.heap.size, 3, none⟩ = false := X1.out.free 3; have Xc4 : w1.cell? ⟨w.heap.size, 4, none⟩ = some (.int .i64 p) := X1.out.cell 4; have Xf4 : w1.frozen? ⟨w.heap.size, 4, none⟩ = false := X1.out.free 4; have Xlt : w.heap.size < w1.heap.size := X1.out.lt; have Rc0 : w1.cell? ⟨w.heap.size + 1, 0, none⟩ = some (.int .i64 0) := R1.out.cell 0; have Rf0 : w1.frozen? ⟨w.heap.size + 1, 0, none⟩ = false := R1.out.free 0; have Rc1 : w1.cell? ⟨w.heap.size + 1, 1, none⟩ = some (.slice none 0 0) := R1.out.cell 1; have Rf1 : w1.frozen? ⟨w.heap.size + 1, 1, none⟩ = false := R1.out.free 1; have Rlt : w.heap.size + 1 < w1.heap.size := R1.out.lt; clear HT)
          | (go_at_call 30; refine (HO.out _).mono ?_; rintro e w9 ⟨rfl, h9⟩; obtain rfl := h9.symm))
        obtain ⟨W9, hW⟩ : ∃ W9, (World.setCell (World.setCell w1 ⟨w.heap.size + 1, 0, none⟩ (.int .i64 0)) ⟨w.heap.size + 1, 1, none⟩ (.slice none 0 0)) = W9 := ⟨_, rfl⟩
        have R9 : IsRow W9 (w.heap.size + 1) 26 #[.int .i64 0, .slice none 0 0] := by
          rw [← hW]
          exact ((R1.out.set 0 (.int .i64 0)).set 1 (.slice none 0 0))
        have B9 : Below w.heap.size w W9 := by
          rw [← hW]
          exact ((((B1.out).setCell (p := ⟨w.heap.size + 1, 0, none⟩) (by show w.heap.size ≤ w.heap.size + 1; (try have hs1 := B1.out.size); omega) (.int .i64 0))).setCell (p := ⟨w.heap.size + 1, 1, none⟩) (by show w.heap.size ≤ w.heap.size + 1; (try have hs1 := B1.out.size); omega) (.slice none 0 0))
        rw [hW]
        clear Xc0 Xf0 Xc1 Xf1 Xc2 Xf2 Xc3 Xf3 Xc4 Xf4 Xlt Rc0 Rf0 Rc1 Rf1 Rlt
        have y0 : W9.cell? ⟨w.heap.size + 1, 0, none⟩ = some (.int .i64 0) := R9.cell 0
        have y1 : W9.cell? ⟨w.heap.size + 1, 1, none⟩ = some (.slice none 0 0) := R9.cell 1
        refine bodyPost_ret (v := .tuple #[.agg #[.int .i64 0, .slice none 0 0], .bool false]) (by simp [results, Tryz.results15, go_sem, y0, y1]; done) rfl ?_
        exact ⟨_, rfl, TextsIs.nil _, B9⟩
      · have HT := Lib.hid (fun W (EW : Env W) => Ext.port_no p (by omega) W)
        clear hop hq ha hb hc hd hp
        go_enter Tryz.func15, Tryz.ntmps15
        go_wp2_with (go_at_call 34; refine (HT.out _ (E.below (((((Below.refl w.heap.size w)).alloc (Below.refl w.heap.size w).size (.cells #[.int .u8 a, .int .u8 b, .int .u8 c, .int .u8 d, .int .i64 p] 30))).alloc (by have := (Below.refl w.heap.size w).size; simp <;> omega) (.cells #[.int .i64 0, .slice none 0 0] 26)))).mono ?_; rintro e w1 ⟨rfl, b1⟩; have B1 := Lib.hid (((((((Below.refl w.heap.size w)).alloc (Below.refl w.heap.size w).size (.cells #[.int .u8 a, .int .u8 b, .int .u8 c, .int .u8 d, .int .i64 p] 30))).alloc (by have := (Below.refl w.heap.size w).size; simp <;> omega) (.cells #[.int .i64 0, .slice none 0 0] 26))).trans (b1.mono (by have := (((((Below.refl w.heap.size w)).alloc (Below.refl w.heap.size w).size (.cells #[.int .u8 a, .int .u8 b, .int .u8 c, .int .u8 d, .int .i64 p] 30))).alloc (by have := (Below.refl w.heap.size w).size; simp <;> omega) (.cells #[.int .i64 0, .slice none 0 0] 26)).size; first | exact this | (simp <;> omega)))); have X1 : Hid (IsRow w1 (w.heap.size) 30 #[.int .u8 a, .int .u8 b, .int .u8 c, .int .u8 d, .int .i64 p]) := Lib.hid (by first | exact ((IsRow.made w 30 #[.int .u8 a, .int .u8 b, .int .u8 c, .int .u8 d, .int .i64 p]).alloc (.cells #[.int .i64 0, .slice none 0 0] 26)).call b1 | (have h := ((IsRow.made w 30 #[.int .u8 a, .int .u8 b, .int .u8 c, .int .u8 d, .int .i64 p]).alloc (.cells #[.int .i64 0, .slice none 0 0] 26)).call b1; simp at h; exact h)); have R1 : Hid (IsRow w1 (w.heap.size + 1) 26 #[.int .i64 0, .slice none 0 0]) := Lib.hid (by first | exact (IsRow.made (w.alloc (.cells #[.int .u8 a, .int .u8 b, .int .u8 c, .int .u8 d, .int .i64 p] 30)) 26 #[.int .i64 0, .slice none 0 0]).call b1 | (have h := (IsRow.made (w.alloc (.cells #[.int .u8 a, .int .u8 b, .int .u8 c, .int .u8 d, .int .i64 p] 30)) 26 #[.int .i64 0, .slice none 0 0]).call b1; simp at h; exact h)); have Xc0 : w1.cell? ⟨w.heap.size, 0, none⟩ = some (.int .u8 a) := X1.out.cell 0; have Xf0 : w1.frozen? ⟨w.heap.size, 0, none⟩ = false := X1.out.free 0; have Xc1 : w1.cell? ⟨w.heap.size, 1, none⟩ = some (.int .u8 b) := X1.out.cell 1; have Xf1 : w1.frozen? ⟨w.heap.size, 1, none⟩ = false := X1.out.free 1; have Xc2 : w1.cell? ⟨w.heap.size, 2, none⟩ = some (.int .u8 c) := X1.out.cell 2; have Xf2 : w1.frozen? ⟨w.heap.size, 2, none⟩ = false := X1.out.free 2; have Xc3 : w1.cell? ⟨w.heap.size, 3, none⟩ = some (.int .u8 d) := X1.out.cell 3; have Xf3 : w1.frozen? ⟨w.heap.size, 3, none⟩ = false := X1.out.free 3; have Xc4 : w1.cell? ⟨w.heap.size, 4, none⟩ = some (.int .i64 p) := X1.out.cell 4; have Xf4 : w1.frozen? ⟨w.heap.size, 4, none⟩ = false := X1.out.free 4; have Xlt : w.heap.size < w1.heap.size := X1.out.lt; have Rc0 : w1.cell? ⟨w.heap.size + 1, 0, none⟩ = some (.int .i64 0) := R1.out.cell 0; have Rf0 : w1.frozen? ⟨w.heap.size + 1, 0, none⟩ = false := R1.out.free 0; have Rc1 : w1.cell? ⟨w.heap.size + 1, 1, none⟩ = some (.slice none 0 0) := R1.out.cell 1; have Rf1 : w1.frozen? ⟨w.heap.size + 1, 1, none⟩ = false := R1.out.free 1; have Rlt : w.heap.size + 1 < w1.heap.size := R1.out.lt; clear HT)
        obtain ⟨W9, hW⟩ : ∃ W9, (World.setCell (World.setCell w1 ⟨w.heap.size + 1, 0, none⟩ (.int .i64 0)) ⟨w.heap.size + 1, 1, none⟩ (.slice none 0 0)) = W9 := ⟨_, rfl⟩
        have R9 : IsRow W9 (w.heap.size + 1) 26 #[.int .i64 0, .slice none 0 0] := by
          rw [← hW]
          exact ((R1.out.set 0 (.int .i64 0)).set 1 (.slice none 0 0))
        have B9 : Below w.heap.size w W9 := by
          rw [← hW]
          exact ((((B1.out).setCell (p := ⟨w.heap.size + 1, 0, none⟩) (by show w.heap.size ≤ w.heap.size + 1; (try have hs1 := B1.out.size); omega) (.int .i64 0))).setCell (p := ⟨w.heap.size + 1, 1, none⟩) (by show w.heap.size ≤ w.heap.size + 1; (try have hs1 := B1.out.size); omega) (.slice none 0 0))
        rw [hW]
        clear Xc0 Xf0 Xc1 Xf1 Xc2 Xf2 Xc3 Xf3 Xc4 Xf4 Xlt Rc0 Rf0 Rc1 Rf1 Rlt
        have y0 : W9.cell? ⟨w.heap.size + 1, 0, none⟩ = some (.int .i64 0) := R9.cell 0
        have y1 : W9.cell? ⟨w.heap.size + 1, 1, none⟩ = some (.slice none 0 0) := R9.cell 1
        refine bodyPost_ret (v := .tuple #[.agg #[.int .i64 0, .slice none 0 0], .bool false]) (by simp [results, Tryz.results15, go_sem, y0, y1]; done) rfl ?_
        exact ⟨_, rfl, TextsIs.nil _, B9⟩
  have b2 : (v == [69, 80, 83, 86]) = false := beq_eq_false_iff_ne.2 hw
  have e : tellE v ⟨a, b, c, d, p⟩ = ((0, []), false) := by unfold tellE tellB; simp [hv, hw]
  rw [e] at h
  injection h with i1 i2
  injection i1 with i3 i4
  subst i2; subst i3; subst i4
  clear e
  clear hv hw ha hb hc hd hp
  go_enter Tryz.func15, Tryz.ntmps15
  go_wp2_with fail
  refine bodyPost_ret (v := .tuple #[.agg #[.int .i64 0, .slice none 0 0], .bool false]) (by simp [results, Tryz.results15, go_sem]; done) rfl ?_
  exact ⟨_, rfl, TextsIs.nil _, (((((Below.refl w.heap.size w)).alloc (Below.refl w.heap.size w).size (.cells #[.int .u8 a, .int .u8 b, .int .u8 c, .int .u8 d, .int .i64 p] 30))).alloc (by have := (Below.refl w.heap.size w).size; simp <;> omega) (.cells #[.int .i64 0, .slice none 0 0] 26))⟩


#print axioms tell_of
end Go.Proofs.YtdimfppijcebjaaGreatDoor.Tu
