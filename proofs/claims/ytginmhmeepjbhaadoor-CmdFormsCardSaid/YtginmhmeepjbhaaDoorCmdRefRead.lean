/- The contract of the document's answer of layer 8: wharfingerref08.Read. -/
import Derived.Test.YtginmhmeepjbhaaDoorCmdRef
namespace Go.Proofs.YtginmhmeepjbhaaDoor.Cm
open Go.Proofs.YtginmhmeepjbhaaDoor Go.Proofs.YtginmhmeepjbhaaDoor.Vb
open Go.ChangeShapes Go.WideShapes Go.ChangeAt Go.RowKit
set_option linter.unusedSimpArgs false

theorem not_32 {c : UInt8} (h : c ≠ 32) : ((c.toNat : Int) != 32) = true := by
  simp only [bne_iff_ne, ne_eq]
  intro e
  exact h (UInt8.toNat_inj.1 (by show c.toNat = 32; omega))
theorem is_32 {c : UInt8} (h : c = 32) : ((c.toNat : Int) != 32) = false := by subst h; decide

set_option maxHeartbeats 16000000 in
set_option maxRecDepth 100000 in
theorem rread_any (s : List UInt8) (hl : s.length ≤ 100000) (w : World) : Calls Tryd.prog 14 #[.string ⟨s.toArray⟩] w fun e w' => e = .returned (.tuple #[cmdV (read s).1.1 (read s).1.2, .int .i64 (read s).2]) ∧ Below w.heap.size w w' := by
  have HR := Lib.hid (read_eq s)
  have hle := head_le s
  have HNE := Lib.hid (fun k (h : k < (head s).length) (h' : k < s.length) => head_ne (s := s) h h')
  have HST := Lib.hid (fun h => head_stop (s := s) h)
  have hul : (upper (head s)).length = (head s).length := upper_length _
  have HC := Lib.hid (fun W => rclean_any s hl W)
  have HU := Lib.hid (fun W => rupper_any (head s) (by omega) W)
  have HF := Lib.hid (fun W => rfind_any (upper (head s)) (by omega) W)
  have HM := Lib.hid (fun W => rmay_any (upper (head s)) (rest s) (by omega) (by unfold rest; rw [List.length_drop]; omega) W)
  have hex : (ByteArray.mk s.toArray).extract 0 (head s).length = ⟨(head s).toArray⟩ := by
    apply ByteArray.ext
    simp [ByteArray.data_extract, take_head]
  have hdr : (ByteArray.mk s.toArray).extract ((head s).length + 1) s.length = ⟨(rest s).toArray⟩ := by
    apply ByteArray.ext
    unfold rest
    simp [ByteArray.data_extract, List.extract_eq_take_drop]
    exact List.take_of_length_le (by rw [List.length_drop]; omega)
  have HRN : Hid ((head s).length = s.length → rest s = []) := Lib.hid (fun h => by unfold rest; exact List.drop_eq_nil_of_le (by omega))
  have HL1 := Lib.hid (fun k (h : k < (upper (head s)).length) => letters_next (u := upper (head s)) h)
  have HL2 := Lib.hid (fun k (h : k < (upper (head s)).length) h2 => letters_no (u := upper (head s)) (k := k) h h2)
  have HL3 : Hid (letters ((upper (head s)).take (upper (head s)).length) = letters (upper (head s))) := Lib.hid (by rw [List.take_length])
  generalize hm : (head s).length = m at *
  generalize rest s = r at *
  generalize clean s = cl at *
  generalize may (upper (head s)) r = my at *
  generalize found (upper (head s)) = F at *
  obtain ⟨⟨vn, vk, va, vp⟩, is⟩ := F
  simp only at HR HF
  generalize hlt0 : letters (upper (head s)) = lt at *
  generalize upper (head s) = u at *
  generalize head s = hd at *
  have HL0 := Lib.hid hlt0
  clear hlt0 hm
  have R0 : IsRow (w.alloc (.cells #[.string ⟨#[]⟩, .string ⟨#[]⟩] 23)) w.heap.size 23 #[.string ⟨#[]⟩, .string ⟨#[]⟩] := IsRow.made w _ _
  have b0 : Below w.heap.size w (w.alloc (.cells #[.string ⟨#[]⟩, .string ⟨#[]⟩] 23)) := (Below.refl _ w).alloc (Nat.le_refl _) _
  go_enter Tryd.func14, Tryd.ntmps14
  go_wp2_with (go_at_call 15; refine (HC.out _).mono ?_; rintro e w1 ⟨rfl, b1⟩; have R1 := R0.call b1; have B1 := Lib.hid (b0.trans (b1.mono b0.size)); clear b1)
  have HR1 := Lib.hid R1
  clear R0 b0 R1
  go_loopw [5] (fun x5 wr => ∃ (k : Nat), x5 = .int .i64 (k : Int) ∧ k ≤ m ∧ Hid (wr = w1)) (fun i _ => m - (intOf i).toNat)
  case atStart => exact ⟨0, rfl, Nat.zero_le _, by first | exact Lib.hid rfl | exact Lib.hid trivial⟩
  case round =>
    obtain ⟨k, rfl, hk, HW⟩ := hrel
    obtain rfl := HW.out
    by_cases hlt : k < m
    · have hks : k < s.length := by omega
      have hsz : k < (ByteArray.mk s.toArray).size := by simpa [ByteArray.size] using hks
      obtain ⟨c, hc⟩ : ∃ c : UInt8, (ByteArray.mk s.toArray)[k]'hsz = c := ⟨_, rfl⟩
      have hne := not_32 (c := c) (by rw [← hc]; exact HNE.out k hlt hks)
      go_wp2_with fail
      go_roundw
      case rel => exact ⟨k + 1, by go_num, by omega, by first | exact Lib.hid rfl | exact Lib.hid trivial⟩
      case measure => simp [intOf]; omega
    · have hkm : m = k := by omega
      subst hkm
      have hR2 := HR1.out
      by_cases hend : m < s.length
      · have hsz : m < (ByteArray.mk s.toArray).size := by simpa [ByteArray.size] using hend
        obtain ⟨c, hc⟩ : ∃ c : UInt8, (ByteArray.mk s.toArray)[m]'hsz = c := ⟨_, rfl⟩
        have hne := is_32 (c := c) (by rw [← hc]; exact HST.out hend)
        cases cl with
        | false =>
          have HV : Hid (read s = (([], []), 2)) := Lib.hid (by rw [HR.out]; simp)
          go_wp2_with (go_at_call 24; refine (HU.out _).mono ?_; rintro e w2 ⟨rfl, b2⟩; have R2 := hR2.call b2; have hlt2 := R2.lt; have B2 := Lib.hid (B1.out.trans (b2.mono B1.out.size)); have f0 := R2.free 0; have c0 := R2.cell 0; have f1 := R2.free 1; have c1 := R2.cell 1)
          generalize hW : World.setCell _ _ _ = W9
          have FR : IsRow W9 w.heap.size 23 #[.string ⟨#[]⟩, .string ⟨#[]⟩] := by rw [← hW]; exact (R2.set 0 _).set 1 _
          have B9 : Below w.heap.size w W9 := by rw [← hW]; exact (B2.out.setCell (Nat.le_refl _) _).setCell (Nat.le_refl _) _
          have g0 : W9.cell? ⟨w.heap.size, 0, none⟩ = some (.string ⟨#[]⟩) := FR.cell 0
          have g1 : W9.cell? ⟨w.heap.size, 1, none⟩ = some (.string ⟨#[]⟩) := FR.cell 1
          exact bodyPost_ret (v := .tuple #[.agg #[.string ⟨#[]⟩, .string ⟨#[]⟩], .int .i64 2]) (by simp [results, Tryd.results14, go_sem, g0, g1]) rfl ⟨by rw [HV.out] <;> rfl, B9⟩
        | true =>
          by_cases h3 : m < 3
          · have h3i : (m : Int) < 3 := by omega
            have HV : Hid (read s = (([], []), 2)) := Lib.hid (by rw [HR.out, show decide (3 ≤ m) = false from decide_eq_false (by omega)]; simp)
            go_wp2_with (go_at_call 24; refine (HU.out _).mono ?_; rintro e w2 ⟨rfl, b2⟩; have R2 := hR2.call b2; have hlt2 := R2.lt; have B2 := Lib.hid (B1.out.trans (b2.mono B1.out.size)); have f0 := R2.free 0; have c0 := R2.cell 0; have f1 := R2.free 1; have c1 := R2.cell 1)
            generalize hW : World.setCell _ _ _ = W9
            have FR : IsRow W9 w.heap.size 23 #[.string ⟨#[]⟩, .string ⟨#[]⟩] := by rw [← hW]; exact (R2.set 0 _).set 1 _
            have B9 : Below w.heap.size w W9 := by rw [← hW]; exact (B2.out.setCell (Nat.le_refl _) _).setCell (Nat.le_refl _) _
            have g0 : W9.cell? ⟨w.heap.size, 0, none⟩ = some (.string ⟨#[]⟩) := FR.cell 0
            have g1 : W9.cell? ⟨w.heap.size, 1, none⟩ = some (.string ⟨#[]⟩) := FR.cell 1
            exact bodyPost_ret (v := .tuple #[.agg #[.string ⟨#[]⟩, .string ⟨#[]⟩], .int .i64 2]) (by simp [results, Tryd.results14, go_sem, g0, g1]) rfl ⟨by rw [HV.out] <;> rfl, B9⟩
          · have h3i : ¬ (m : Int) < 3 := by omega
            by_cases h4 : 4 < m
            · have h4i : (4 : Int) < (m : Int) := by omega
              have HV : Hid (read s = (([], []), 2)) := Lib.hid (by rw [HR.out, show decide (m ≤ 4) = false from decide_eq_false (by omega)]; simp)
              go_wp2_with (go_at_call 24; refine (HU.out _).mono ?_; rintro e w2 ⟨rfl, b2⟩; have R2 := hR2.call b2; have hlt2 := R2.lt; have B2 := Lib.hid (B1.out.trans (b2.mono B1.out.size)); have f0 := R2.free 0; have c0 := R2.cell 0; have f1 := R2.free 1; have c1 := R2.cell 1)
              generalize hW : World.setCell _ _ _ = W9
              have FR : IsRow W9 w.heap.size 23 #[.string ⟨#[]⟩, .string ⟨#[]⟩] := by rw [← hW]; exact (R2.set 0 _).set 1 _
              have B9 : Below w.heap.size w W9 := by rw [← hW]; exact (B2.out.setCell (Nat.le_refl _) _).setCell (Nat.le_refl _) _
              have g0 : W9.cell? ⟨w.heap.size, 0, none⟩ = some (.string ⟨#[]⟩) := FR.cell 0
              have g1 : W9.cell? ⟨w.heap.size, 1, none⟩ = some (.string ⟨#[]⟩) := FR.cell 1
              exact bodyPost_ret (v := .tuple #[.agg #[.string ⟨#[]⟩, .string ⟨#[]⟩], .int .i64 2]) (by simp [results, Tryd.results14, go_sem, g0, g1]) rfl ⟨by rw [HV.out] <;> rfl, B9⟩
            · have h4i : ¬ (4 : Int) < (m : Int) := by omega
              have HX : Hid ((true && (decide (3 ≤ m) && (decide (m ≤ 4) && lt))) = lt) := Lib.hid (by rw [decide_eq_true (by omega : 3 ≤ m), decide_eq_true (by omega : m ≤ 4)]; rfl)
              go_wp2_with (go_at_call 24; refine (HU.out _).mono ?_; rintro e w2 ⟨rfl, b2⟩; have R2 := hR2.call b2; have hlt2 := R2.lt; have B2 := Lib.hid (B1.out.trans (b2.mono B1.out.size)))
              have HR2 := Lib.hid R2
              clear R2
              go_loopw [7] (fun x7 wr => ∃ (j : Nat), x7 = .int .i64 (j : Int) ∧ j ≤ m ∧ Hid (letters (u.take j) = true) ∧ Hid (wr = w2)) (fun i _ => m - (intOf i).toNat)
              case atStart => exact ⟨0, rfl, Nat.zero_le _, Lib.hid (by simp [letters]), by first | exact Lib.hid rfl | exact Lib.hid trivial⟩
              case round =>
                obtain ⟨j, rfl, hj, HJ, HW2⟩ := hrel
                obtain rfl := HW2.out
                by_cases hjm : j < m
                · have hju : j < u.length := by omega
                  have hsz : j < (ByteArray.mk u.toArray).size := by simpa [ByteArray.size] using hju
                  obtain ⟨c, hc⟩ : ∃ c : UInt8, (ByteArray.mk u.toArray)[j]'hsz = c := ⟨_, rfl⟩
                  have hc' : u[j] = c := hc
                  have HN : Hid (letters (u.take (j + 1)) = decide (65 ≤ c.toNat ∧ c.toNat ≤ 90)) := Lib.hid (by rw [HL1.out j hju, HJ.out, hc']; rfl)
                  have HO : Hid (¬ (65 ≤ c.toNat ∧ c.toNat ≤ 90) → lt = false) := Lib.hid (fun h => HL2.out j hju (by rw [hc']; exact h))
                  clear hc'
                  by_cases h5 : (c.toNat : Int) < 65
                  · have HV : Hid (read s = (([], []), 2)) := Lib.hid (by have h := HO.out (by omega); subst h; rw [HR.out, HX.out]; rfl)
                    have R2 := HR2.out
                    have f0 := R2.free 0; have c0 := R2.cell 0; have f1 := R2.free 1; have c1 := R2.cell 1; have hlt2' := R2.lt
                    go_wp2_with fail
                    generalize hW : World.setCell _ _ _ = W9
                    have FR : IsRow W9 w.heap.size 23 #[.string ⟨#[]⟩, .string ⟨#[]⟩] := by rw [← hW]; exact (R2.set 0 _).set 1 _
                    have B9 : Below w.heap.size w W9 := by rw [← hW]; exact (B2.out.setCell (Nat.le_refl _) _).setCell (Nat.le_refl _) _
                    have g0 : W9.cell? ⟨w.heap.size, 0, none⟩ = some (.string ⟨#[]⟩) := FR.cell 0
                    have g1 : W9.cell? ⟨w.heap.size, 1, none⟩ = some (.string ⟨#[]⟩) := FR.cell 1
                    exact bodyPost_ret (v := .tuple #[.agg #[.string ⟨#[]⟩, .string ⟨#[]⟩], .int .i64 2]) (by simp [results, Tryd.results14, go_sem, g0, g1]) rfl ⟨by rw [HV.out] <;> rfl, B9⟩
                  · by_cases h6 : 90 < (c.toNat : Int)
                    · have HV : Hid (read s = (([], []), 2)) := Lib.hid (by have h := HO.out (by omega); subst h; rw [HR.out, HX.out]; rfl)
                      have R2 := HR2.out
                      have f0 := R2.free 0; have c0 := R2.cell 0; have f1 := R2.free 1; have c1 := R2.cell 1; have hlt2' := R2.lt
                      go_wp2_with fail
                      generalize hW : World.setCell _ _ _ = W9
                      have FR : IsRow W9 w.heap.size 23 #[.string ⟨#[]⟩, .string ⟨#[]⟩] := by rw [← hW]; exact (R2.set 0 _).set 1 _
                      have B9 : Below w.heap.size w W9 := by rw [← hW]; exact (B2.out.setCell (Nat.le_refl _) _).setCell (Nat.le_refl _) _
                      have g0 : W9.cell? ⟨w.heap.size, 0, none⟩ = some (.string ⟨#[]⟩) := FR.cell 0
                      have g1 : W9.cell? ⟨w.heap.size, 1, none⟩ = some (.string ⟨#[]⟩) := FR.cell 1
                      exact bodyPost_ret (v := .tuple #[.agg #[.string ⟨#[]⟩, .string ⟨#[]⟩], .int .i64 2]) (by simp [results, Tryd.results14, go_sem, g0, g1]) rfl ⟨by rw [HV.out] <;> rfl, B9⟩
                    · have HT := Lib.hid (HN.out.trans (decide_eq_true (by omega)))
                      clear HN HO
                      go_wp2_with fail
                      go_roundw
                      case rel => exact ⟨j + 1, by go_num, by omega, HT.out, by first | exact Lib.hid rfl | exact Lib.hid trivial⟩
                      case measure => simp [intOf]; omega
                · have hjm' : m = j := by omega
                  have hlt1 : lt = true := by
                    have h := HJ.out
                    rw [← hjm', ← hul, HL3.out] at h
                    exact h
                  subst hjm'
                  subst hlt1
                  cases is with
                  | false =>
                    have HV : Hid (read s = (([], []), 3)) := Lib.hid (by rw [HR.out, HX.out]; rfl)
                    go_wp2_with (go_at_call 21; refine (HF.out _).mono ?_; rintro e w3 ⟨rfl, b3⟩; have R3 := HR2.out.call b3; have hlt3 := R3.lt; have B3 := Lib.hid (B2.out.trans (b3.mono B2.out.size)); have f0 := R3.free 0; have c0 := R3.cell 0; have f1 := R3.free 1; have c1 := R3.cell 1)
                    generalize hW : World.alloc (World.setCell _ _ _) _ = W9
                    have FR : IsRow W9 w.heap.size 23 #[.string ⟨#[]⟩, .string ⟨#[]⟩] := by rw [← hW]; exact ((R3.set 0 _).set 1 _).alloc _
                    have B9 : Below w.heap.size w W9 := by rw [← hW]; exact ((B3.out.setCell (Nat.le_refl _) _).setCell (Nat.le_refl _) _).alloc (by have := B3.out.size; simp; omega) _
                    have g0 : W9.cell? ⟨w.heap.size, 0, none⟩ = some (.string ⟨#[]⟩) := FR.cell 0
                    have g1 : W9.cell? ⟨w.heap.size, 1, none⟩ = some (.string ⟨#[]⟩) := FR.cell 1
                    exact bodyPost_ret (v := .tuple #[.agg #[.string ⟨#[]⟩, .string ⟨#[]⟩], .int .i64 3]) (by simp [results, Tryd.results14, go_sem, g0, g1]) rfl ⟨by rw [HV.out] <;> rfl, B9⟩
                  | true =>
                    cases my with
                    | false =>
                      have HV : Hid (read s = (([], []), 1)) := Lib.hid (by rw [HR.out, HX.out]; rfl)
                      go_wp2_with (first | (go_at_call 21; refine (HF.out _).mono ?_; rintro e w3 ⟨rfl, b3⟩; have R3 := HR2.out.call b3; have hlt3 := R3.lt; have B3 := Lib.hid (B2.out.trans (b3.mono B2.out.size))) | (go_at_call 10; refine (HM.out _).mono ?_; rintro e w4 ⟨rfl, b4⟩; have R4 := ((R3.alloc (.cells #[.string ⟨vn.toArray⟩, .int .i64 vk, .int .i64 va, .bool vp] 37)).alloc (.cells #[.string ⟨u.toArray⟩, .string ⟨r.toArray⟩] 23)).call b4; have hlt4 := R4.lt; have Q4 := (IsRow.made (w3.alloc (.cells #[.string ⟨vn.toArray⟩, .int .i64 vk, .int .i64 va, .bool vp] 37)) 23 #[.string ⟨u.toArray⟩, .string ⟨r.toArray⟩]).call b4; have B4 := Lib.hid (((B3.out.alloc B3.out.size (.cells #[.string ⟨vn.toArray⟩, .int .i64 vk, .int .i64 va, .bool vp] 37)).alloc (by have := B3.out.size; simp; omega) (.cells #[.string ⟨u.toArray⟩, .string ⟨r.toArray⟩] 23)).trans (b4.mono (by have := B3.out.size; simp; omega))); have f0 := R4.free 0; have c0 := R4.cell 0; have f1 := R4.free 1; have c1 := R4.cell 1))
                      generalize hW : World.setCell _ _ _ = W9
                      have FR : IsRow W9 w.heap.size 23 #[.string ⟨#[]⟩, .string ⟨#[]⟩] := by rw [← hW]; exact (R4.set 0 _).set 1 _
                      have B9 : Below w.heap.size w W9 := by rw [← hW]; exact (B4.out.setCell (Nat.le_refl _) _).setCell (Nat.le_refl _) _
                      have g0 : W9.cell? ⟨w.heap.size, 0, none⟩ = some (.string ⟨#[]⟩) := FR.cell 0
                      have g1 : W9.cell? ⟨w.heap.size, 1, none⟩ = some (.string ⟨#[]⟩) := FR.cell 1
                      exact bodyPost_ret (v := .tuple #[.agg #[.string ⟨#[]⟩, .string ⟨#[]⟩], .int .i64 1]) (by simp [results, Tryd.results14, go_sem, g0, g1]) rfl ⟨by rw [HV.out] <;> rfl, B9⟩
                    | true =>
                      have HV : Hid (read s = ((u, r), 0)) := Lib.hid (by rw [HR.out, HX.out]; rfl)
                      go_wp2_with (first | (go_at_call 21; refine (HF.out _).mono ?_; rintro e w3 ⟨rfl, b3⟩; have R3 := HR2.out.call b3; have hlt3 := R3.lt; have B3 := Lib.hid (B2.out.trans (b3.mono B2.out.size))) | (go_at_call 10; refine (HM.out _).mono ?_; rintro e w4 ⟨rfl, b4⟩; have R4 := ((R3.alloc (.cells #[.string ⟨vn.toArray⟩, .int .i64 vk, .int .i64 va, .bool vp] 37)).alloc (.cells #[.string ⟨u.toArray⟩, .string ⟨r.toArray⟩] 23)).call b4; have hlt4 := R4.lt; have Q4 := (IsRow.made (w3.alloc (.cells #[.string ⟨vn.toArray⟩, .int .i64 vk, .int .i64 va, .bool vp] 37)) 23 #[.string ⟨u.toArray⟩, .string ⟨r.toArray⟩]).call b4; have B4 := Lib.hid (((B3.out.alloc B3.out.size (.cells #[.string ⟨vn.toArray⟩, .int .i64 vk, .int .i64 va, .bool vp] 37)).alloc (by have := B3.out.size; simp; omega) (.cells #[.string ⟨u.toArray⟩, .string ⟨r.toArray⟩] 23)).trans (b4.mono (by have := B3.out.size; simp; omega))); have f0 := R4.free 0; have c0 := R4.cell 0; have f1 := R4.free 1; have c1 := R4.cell 1; have e0 : w4.cell? ⟨w3.heap.size + 1, 0, none⟩ = some (.string ⟨u.toArray⟩) := (by have h := Q4.cell 0; rw [World.size_alloc] at h; exact h); have e1 : w4.cell? ⟨w3.heap.size + 1, 1, none⟩ = some (.string ⟨r.toArray⟩) := (by have h := Q4.cell 1; rw [World.size_alloc] at h; exact h)))
                      generalize hW : World.setCell _ _ _ = W9
                      have FR : IsRow W9 w.heap.size 23 #[.string ⟨u.toArray⟩, .string ⟨r.toArray⟩] := by rw [← hW]; exact (R4.set 0 _).set 1 _
                      have B9 : Below w.heap.size w W9 := by rw [← hW]; exact (B4.out.setCell (Nat.le_refl _) _).setCell (Nat.le_refl _) _
                      have g0 : W9.cell? ⟨w.heap.size, 0, none⟩ = some (.string ⟨u.toArray⟩) := FR.cell 0
                      have g1 : W9.cell? ⟨w.heap.size, 1, none⟩ = some (.string ⟨r.toArray⟩) := FR.cell 1
                      exact bodyPost_ret (v := .tuple #[.agg #[.string ⟨u.toArray⟩, .string ⟨r.toArray⟩], .int .i64 0]) (by simp [results, Tryd.results14, go_sem, g0, g1]) rfl ⟨by rw [HV.out] <;> rfl, B9⟩

      · have hnl : ¬ (m : Int) < (s.length : Int) := by omega
        have HEM : Hid (m = s.length) := Lib.hid (by omega)
        clear hdr hend
        cases cl with
        | false =>
          have HV : Hid (read s = (([], []), 2)) := Lib.hid (by rw [HR.out]; simp)
          go_wp2_with (go_at_call 24; refine (HU.out _).mono ?_; rintro e w2 ⟨rfl, b2⟩; have R2 := hR2.call b2; have hlt2 := R2.lt; have B2 := Lib.hid (B1.out.trans (b2.mono B1.out.size)); have f0 := R2.free 0; have c0 := R2.cell 0; have f1 := R2.free 1; have c1 := R2.cell 1)
          generalize hW : World.setCell _ _ _ = W9
          have FR : IsRow W9 w.heap.size 23 #[.string ⟨#[]⟩, .string ⟨#[]⟩] := by rw [← hW]; exact (R2.set 0 _).set 1 _
          have B9 : Below w.heap.size w W9 := by rw [← hW]; exact (B2.out.setCell (Nat.le_refl _) _).setCell (Nat.le_refl _) _
          have g0 : W9.cell? ⟨w.heap.size, 0, none⟩ = some (.string ⟨#[]⟩) := FR.cell 0
          have g1 : W9.cell? ⟨w.heap.size, 1, none⟩ = some (.string ⟨#[]⟩) := FR.cell 1
          exact bodyPost_ret (v := .tuple #[.agg #[.string ⟨#[]⟩, .string ⟨#[]⟩], .int .i64 2]) (by simp [results, Tryd.results14, go_sem, g0, g1]) rfl ⟨by rw [HV.out] <;> rfl, B9⟩
        | true =>
          by_cases h3 : m < 3
          · have h3i : (m : Int) < 3 := by omega
            have HV : Hid (read s = (([], []), 2)) := Lib.hid (by rw [HR.out, show decide (3 ≤ m) = false from decide_eq_false (by omega)]; simp)
            go_wp2_with (go_at_call 24; refine (HU.out _).mono ?_; rintro e w2 ⟨rfl, b2⟩; have R2 := hR2.call b2; have hlt2 := R2.lt; have B2 := Lib.hid (B1.out.trans (b2.mono B1.out.size)); have f0 := R2.free 0; have c0 := R2.cell 0; have f1 := R2.free 1; have c1 := R2.cell 1)
            generalize hW : World.setCell _ _ _ = W9
            have FR : IsRow W9 w.heap.size 23 #[.string ⟨#[]⟩, .string ⟨#[]⟩] := by rw [← hW]; exact (R2.set 0 _).set 1 _
            have B9 : Below w.heap.size w W9 := by rw [← hW]; exact (B2.out.setCell (Nat.le_refl _) _).setCell (Nat.le_refl _) _
            have g0 : W9.cell? ⟨w.heap.size, 0, none⟩ = some (.string ⟨#[]⟩) := FR.cell 0
            have g1 : W9.cell? ⟨w.heap.size, 1, none⟩ = some (.string ⟨#[]⟩) := FR.cell 1
            exact bodyPost_ret (v := .tuple #[.agg #[.string ⟨#[]⟩, .string ⟨#[]⟩], .int .i64 2]) (by simp [results, Tryd.results14, go_sem, g0, g1]) rfl ⟨by rw [HV.out] <;> rfl, B9⟩
          · have h3i : ¬ (m : Int) < 3 := by omega
            by_cases h4 : 4 < m
            · have h4i : (4 : Int) < (m : Int) := by omega
              have HV : Hid (read s = (([], []), 2)) := Lib.hid (by rw [HR.out, show decide (m ≤ 4) = false from decide_eq_false (by omega)]; simp)
              go_wp2_with (go_at_call 24; refine (HU.out _).mono ?_; rintro e w2 ⟨rfl, b2⟩; have R2 := hR2.call b2; have hlt2 := R2.lt; have B2 := Lib.hid (B1.out.trans (b2.mono B1.out.size)); have f0 := R2.free 0; have c0 := R2.cell 0; have f1 := R2.free 1; have c1 := R2.cell 1)
              generalize hW : World.setCell _ _ _ = W9
              have FR : IsRow W9 w.heap.size 23 #[.string ⟨#[]⟩, .string ⟨#[]⟩] := by rw [← hW]; exact (R2.set 0 _).set 1 _
              have B9 : Below w.heap.size w W9 := by rw [← hW]; exact (B2.out.setCell (Nat.le_refl _) _).setCell (Nat.le_refl _) _
              have g0 : W9.cell? ⟨w.heap.size, 0, none⟩ = some (.string ⟨#[]⟩) := FR.cell 0
              have g1 : W9.cell? ⟨w.heap.size, 1, none⟩ = some (.string ⟨#[]⟩) := FR.cell 1
              exact bodyPost_ret (v := .tuple #[.agg #[.string ⟨#[]⟩, .string ⟨#[]⟩], .int .i64 2]) (by simp [results, Tryd.results14, go_sem, g0, g1]) rfl ⟨by rw [HV.out] <;> rfl, B9⟩
            · have h4i : ¬ (4 : Int) < (m : Int) := by omega
              have HX : Hid ((true && (decide (3 ≤ m) && (decide (m ≤ 4) && lt))) = lt) := Lib.hid (by rw [decide_eq_true (by omega : 3 ≤ m), decide_eq_true (by omega : m ≤ 4)]; rfl)
              go_wp2_with (go_at_call 24; refine (HU.out _).mono ?_; rintro e w2 ⟨rfl, b2⟩; have R2 := hR2.call b2; have hlt2 := R2.lt; have B2 := Lib.hid (B1.out.trans (b2.mono B1.out.size)))
              have HR2 := Lib.hid R2
              clear R2
              go_loopw [7] (fun x7 wr => ∃ (j : Nat), x7 = .int .i64 (j : Int) ∧ j ≤ m ∧ Hid (letters (u.take j) = true) ∧ Hid (wr = w2)) (fun i _ => m - (intOf i).toNat)
              case atStart => exact ⟨0, rfl, Nat.zero_le _, Lib.hid (by simp [letters]), by first | exact Lib.hid rfl | exact Lib.hid trivial⟩
              case round =>
                obtain ⟨j, rfl, hj, HJ, HW2⟩ := hrel
                obtain rfl := HW2.out
                by_cases hjm : j < m
                · have hju : j < u.length := by omega
                  have hsz : j < (ByteArray.mk u.toArray).size := by simpa [ByteArray.size] using hju
                  obtain ⟨c, hc⟩ : ∃ c : UInt8, (ByteArray.mk u.toArray)[j]'hsz = c := ⟨_, rfl⟩
                  have hc' : u[j] = c := hc
                  have HN : Hid (letters (u.take (j + 1)) = decide (65 ≤ c.toNat ∧ c.toNat ≤ 90)) := Lib.hid (by rw [HL1.out j hju, HJ.out, hc']; rfl)
                  have HO : Hid (¬ (65 ≤ c.toNat ∧ c.toNat ≤ 90) → lt = false) := Lib.hid (fun h => HL2.out j hju (by rw [hc']; exact h))
                  clear hc'
                  by_cases h5 : (c.toNat : Int) < 65
                  · have HV : Hid (read s = (([], []), 2)) := Lib.hid (by have h := HO.out (by omega); subst h; rw [HR.out, HX.out]; rfl)
                    have R2 := HR2.out
                    have f0 := R2.free 0; have c0 := R2.cell 0; have f1 := R2.free 1; have c1 := R2.cell 1; have hlt2' := R2.lt
                    go_wp2_with fail
                    generalize hW : World.setCell _ _ _ = W9
                    have FR : IsRow W9 w.heap.size 23 #[.string ⟨#[]⟩, .string ⟨#[]⟩] := by rw [← hW]; exact (R2.set 0 _).set 1 _
                    have B9 : Below w.heap.size w W9 := by rw [← hW]; exact (B2.out.setCell (Nat.le_refl _) _).setCell (Nat.le_refl _) _
                    have g0 : W9.cell? ⟨w.heap.size, 0, none⟩ = some (.string ⟨#[]⟩) := FR.cell 0
                    have g1 : W9.cell? ⟨w.heap.size, 1, none⟩ = some (.string ⟨#[]⟩) := FR.cell 1
                    exact bodyPost_ret (v := .tuple #[.agg #[.string ⟨#[]⟩, .string ⟨#[]⟩], .int .i64 2]) (by simp [results, Tryd.results14, go_sem, g0, g1]) rfl ⟨by rw [HV.out] <;> rfl, B9⟩
                  · by_cases h6 : 90 < (c.toNat : Int)
                    · have HV : Hid (read s = (([], []), 2)) := Lib.hid (by have h := HO.out (by omega); subst h; rw [HR.out, HX.out]; rfl)
                      have R2 := HR2.out
                      have f0 := R2.free 0; have c0 := R2.cell 0; have f1 := R2.free 1; have c1 := R2.cell 1; have hlt2' := R2.lt
                      go_wp2_with fail
                      generalize hW : World.setCell _ _ _ = W9
                      have FR : IsRow W9 w.heap.size 23 #[.string ⟨#[]⟩, .string ⟨#[]⟩] := by rw [← hW]; exact (R2.set 0 _).set 1 _
                      have B9 : Below w.heap.size w W9 := by rw [← hW]; exact (B2.out.setCell (Nat.le_refl _) _).setCell (Nat.le_refl _) _
                      have g0 : W9.cell? ⟨w.heap.size, 0, none⟩ = some (.string ⟨#[]⟩) := FR.cell 0
                      have g1 : W9.cell? ⟨w.heap.size, 1, none⟩ = some (.string ⟨#[]⟩) := FR.cell 1
                      exact bodyPost_ret (v := .tuple #[.agg #[.string ⟨#[]⟩, .string ⟨#[]⟩], .int .i64 2]) (by simp [results, Tryd.results14, go_sem, g0, g1]) rfl ⟨by rw [HV.out] <;> rfl, B9⟩
                    · have HT := Lib.hid (HN.out.trans (decide_eq_true (by omega)))
                      clear HN HO
                      go_wp2_with fail
                      go_roundw
                      case rel => exact ⟨j + 1, by go_num, by omega, HT.out, by first | exact Lib.hid rfl | exact Lib.hid trivial⟩
                      case measure => simp [intOf]; omega
                · have hjm' : m = j := by omega
                  have hlt1 : lt = true := by
                    have h := HJ.out
                    rw [← hjm', ← hul, HL3.out] at h
                    exact h
                  subst hjm'
                  subst hlt1
                  have hr := HRN.out HEM.out
                  subst hr
                  cases is with
                  | false =>
                    have HV : Hid (read s = (([], []), 3)) := Lib.hid (by rw [HR.out, HX.out]; rfl)
                    go_wp2_with (go_at_call 21; refine (HF.out _).mono ?_; rintro e w3 ⟨rfl, b3⟩; have R3 := HR2.out.call b3; have hlt3 := R3.lt; have B3 := Lib.hid (B2.out.trans (b3.mono B2.out.size)); have f0 := R3.free 0; have c0 := R3.cell 0; have f1 := R3.free 1; have c1 := R3.cell 1)
                    generalize hW : World.alloc (World.setCell _ _ _) _ = W9
                    have FR : IsRow W9 w.heap.size 23 #[.string ⟨#[]⟩, .string ⟨#[]⟩] := by rw [← hW]; exact ((R3.set 0 _).set 1 _).alloc _
                    have B9 : Below w.heap.size w W9 := by rw [← hW]; exact ((B3.out.setCell (Nat.le_refl _) _).setCell (Nat.le_refl _) _).alloc (by have := B3.out.size; simp; omega) _
                    have g0 : W9.cell? ⟨w.heap.size, 0, none⟩ = some (.string ⟨#[]⟩) := FR.cell 0
                    have g1 : W9.cell? ⟨w.heap.size, 1, none⟩ = some (.string ⟨#[]⟩) := FR.cell 1
                    exact bodyPost_ret (v := .tuple #[.agg #[.string ⟨#[]⟩, .string ⟨#[]⟩], .int .i64 3]) (by simp [results, Tryd.results14, go_sem, g0, g1]) rfl ⟨by rw [HV.out] <;> rfl, B9⟩
                  | true =>
                    cases my with
                    | false =>
                      have HV : Hid (read s = (([], []), 1)) := Lib.hid (by rw [HR.out, HX.out]; rfl)
                      go_wp2_with (first | (go_at_call 21; refine (HF.out _).mono ?_; rintro e w3 ⟨rfl, b3⟩; have R3 := HR2.out.call b3; have hlt3 := R3.lt; have B3 := Lib.hid (B2.out.trans (b3.mono B2.out.size))) | (go_at_call 10; refine (HM.out _).mono ?_; rintro e w4 ⟨rfl, b4⟩; have R4 := ((R3.alloc (.cells #[.string ⟨vn.toArray⟩, .int .i64 vk, .int .i64 va, .bool vp] 37)).alloc (.cells #[.string ⟨u.toArray⟩, .string ⟨#[]⟩] 23)).call b4; have hlt4 := R4.lt; have Q4 := (IsRow.made (w3.alloc (.cells #[.string ⟨vn.toArray⟩, .int .i64 vk, .int .i64 va, .bool vp] 37)) 23 #[.string ⟨u.toArray⟩, .string ⟨#[]⟩]).call b4; have B4 := Lib.hid (((B3.out.alloc B3.out.size (.cells #[.string ⟨vn.toArray⟩, .int .i64 vk, .int .i64 va, .bool vp] 37)).alloc (by have := B3.out.size; simp; omega) (.cells #[.string ⟨u.toArray⟩, .string ⟨#[]⟩] 23)).trans (b4.mono (by have := B3.out.size; simp; omega))); have f0 := R4.free 0; have c0 := R4.cell 0; have f1 := R4.free 1; have c1 := R4.cell 1))
                      generalize hW : World.setCell _ _ _ = W9
                      have FR : IsRow W9 w.heap.size 23 #[.string ⟨#[]⟩, .string ⟨#[]⟩] := by rw [← hW]; exact (R4.set 0 _).set 1 _
                      have B9 : Below w.heap.size w W9 := by rw [← hW]; exact (B4.out.setCell (Nat.le_refl _) _).setCell (Nat.le_refl _) _
                      have g0 : W9.cell? ⟨w.heap.size, 0, none⟩ = some (.string ⟨#[]⟩) := FR.cell 0
                      have g1 : W9.cell? ⟨w.heap.size, 1, none⟩ = some (.string ⟨#[]⟩) := FR.cell 1
                      exact bodyPost_ret (v := .tuple #[.agg #[.string ⟨#[]⟩, .string ⟨#[]⟩], .int .i64 1]) (by simp [results, Tryd.results14, go_sem, g0, g1]) rfl ⟨by rw [HV.out] <;> rfl, B9⟩
                    | true =>
                      have HV : Hid (read s = ((u, []), 0)) := Lib.hid (by rw [HR.out, HX.out]; rfl)
                      go_wp2_with (first | (go_at_call 21; refine (HF.out _).mono ?_; rintro e w3 ⟨rfl, b3⟩; have R3 := HR2.out.call b3; have hlt3 := R3.lt; have B3 := Lib.hid (B2.out.trans (b3.mono B2.out.size))) | (go_at_call 10; refine (HM.out _).mono ?_; rintro e w4 ⟨rfl, b4⟩; have R4 := ((R3.alloc (.cells #[.string ⟨vn.toArray⟩, .int .i64 vk, .int .i64 va, .bool vp] 37)).alloc (.cells #[.string ⟨u.toArray⟩, .string ⟨#[]⟩] 23)).call b4; have hlt4 := R4.lt; have Q4 := (IsRow.made (w3.alloc (.cells #[.string ⟨vn.toArray⟩, .int .i64 vk, .int .i64 va, .bool vp] 37)) 23 #[.string ⟨u.toArray⟩, .string ⟨#[]⟩]).call b4; have B4 := Lib.hid (((B3.out.alloc B3.out.size (.cells #[.string ⟨vn.toArray⟩, .int .i64 vk, .int .i64 va, .bool vp] 37)).alloc (by have := B3.out.size; simp; omega) (.cells #[.string ⟨u.toArray⟩, .string ⟨#[]⟩] 23)).trans (b4.mono (by have := B3.out.size; simp; omega))); have f0 := R4.free 0; have c0 := R4.cell 0; have f1 := R4.free 1; have c1 := R4.cell 1; have e0 : w4.cell? ⟨w3.heap.size + 1, 0, none⟩ = some (.string ⟨u.toArray⟩) := (by have h := Q4.cell 0; rw [World.size_alloc] at h; exact h); have e1 : w4.cell? ⟨w3.heap.size + 1, 1, none⟩ = some (.string ⟨#[]⟩) := (by have h := Q4.cell 1; rw [World.size_alloc] at h; exact h)))
                      generalize hW : World.setCell _ _ _ = W9
                      have FR : IsRow W9 w.heap.size 23 #[.string ⟨u.toArray⟩, .string ⟨#[]⟩] := by rw [← hW]; exact (R4.set 0 _).set 1 _
                      have B9 : Below w.heap.size w W9 := by rw [← hW]; exact (B4.out.setCell (Nat.le_refl _) _).setCell (Nat.le_refl _) _
                      have g0 : W9.cell? ⟨w.heap.size, 0, none⟩ = some (.string ⟨u.toArray⟩) := FR.cell 0
                      have g1 : W9.cell? ⟨w.heap.size, 1, none⟩ = some (.string ⟨#[]⟩) := FR.cell 1
                      exact bodyPost_ret (v := .tuple #[.agg #[.string ⟨u.toArray⟩, .string ⟨#[]⟩], .int .i64 0]) (by simp [results, Tryd.results14, go_sem, g0, g1]) rfl ⟨by rw [HV.out] <;> rfl, B9⟩


#print axioms rread_any
end Go.Proofs.YtginmhmeepjbhaaDoor.Cm
