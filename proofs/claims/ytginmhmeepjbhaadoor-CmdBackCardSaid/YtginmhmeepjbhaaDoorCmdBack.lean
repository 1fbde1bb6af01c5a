/- Proved: for every command and every text the law CmdBack of layer 8 answers true. Conditions: none beyond the row's own (the library's variables start as the program's text lays them: the card ties them). -/
import Derived.Test.YtginmhmeepjbhaaDoorCmdAwake
import Derived.BigQuiet
import Derived.Lib.QuietBelow

namespace Go.Proofs.YtginmhmeepjbhaaDoor.cmdBack
open Go.Proofs.YtginmhmeepjbhaaDoor Go.Proofs.YtginmhmeepjbhaaDoor.Cm Go.Proofs.YtginmhmeepjbhaaDoor.Vb
open Go.ChangeShapes Go.WideShapes Go.ChangeAt Go.RowKit Go.Sort Go.ChangeMaps

set_option linter.unusedSimpArgs false
set_option linter.unusedVariables false in
set_option maxHeartbeats 8000000 in
set_option maxRecDepth 100000 in
theorem walk (cv0 ca0 : List UInt8) (yv0 : cv0.length ≤ 9223372036854775807) (ya0 : ca0.length ≤ 9223372036854775807) (s1 : List UInt8) (z1 : s1.length ≤ 9223372036854775807) (w : World)  (E : Env w) :
    Calls Tryd.prog 4 #[cmdV cv0 ca0, str s1] w fun e w' => e = .returned (.bool true) ∧ Below w.heap.size w w' := by
  by_cases hv : 300 < cv0.length
  · have hv' : (300 : Int) < (cv0.length : Int) := by omega
    have B0 := Lib.hid (Below.refl w.heap.size w)
    go_enter Tryd.func4, Tryd.ntmps4
    go_wp2_with (first
          | (go_at_call 9; refine (awake_any _ (E.below ((B0.out).alloc B0.out.size (.cells #[.string ⟨cv0.toArray⟩, .string ⟨ca0.toArray⟩] 23)))).mono ?_; rintro e w1 ⟨rfl, b1⟩; have B1 := Lib.hid (((B0.out).alloc B0.out.size (.cells #[.string ⟨cv0.toArray⟩, .string ⟨ca0.toArray⟩] 23)).trans (b1.mono (by have := B0.out.size; simp <;> omega))); have c1 := Lib.hid ((IsRow.made w 23 #[.string ⟨cv0.toArray⟩, .string ⟨ca0.toArray⟩]).call b1); have cc0 : w1.cell? ⟨w.heap.size, 0, none⟩ = some (.string ⟨cv0.toArray⟩) := c1.out.cell 0; have cc1 : w1.cell? ⟨w.heap.size, 1, none⟩ = some (.string ⟨ca0.toArray⟩) := c1.out.cell 1; have clt : w.heap.size < w1.heap.size := c1.out.lt))
    all_goals (go_ret; exact ⟨by first | rfl | (simp; done) | (simp; omega), B1.out⟩)
  have hv' : ¬ (300 : Int) < (cv0.length : Int) := by omega
  by_cases ha : 300 < ca0.length
  · have ha' : (300 : Int) < (ca0.length : Int) := by omega
    have B0 := Lib.hid (Below.refl w.heap.size w)
    go_enter Tryd.func4, Tryd.ntmps4
    go_wp2_with (first
          | (go_at_call 9; refine (awake_any _ (E.below ((B0.out).alloc B0.out.size (.cells #[.string ⟨cv0.toArray⟩, .string ⟨ca0.toArray⟩] 23)))).mono ?_; rintro e w1 ⟨rfl, b1⟩; have B1 := Lib.hid (((B0.out).alloc B0.out.size (.cells #[.string ⟨cv0.toArray⟩, .string ⟨ca0.toArray⟩] 23)).trans (b1.mono (by have := B0.out.size; simp <;> omega))); have c1 := Lib.hid ((IsRow.made w 23 #[.string ⟨cv0.toArray⟩, .string ⟨ca0.toArray⟩]).call b1); have cc0 : w1.cell? ⟨w.heap.size, 0, none⟩ = some (.string ⟨cv0.toArray⟩) := c1.out.cell 0; have cc1 : w1.cell? ⟨w.heap.size, 1, none⟩ = some (.string ⟨ca0.toArray⟩) := c1.out.cell 1; have clt : w.heap.size < w1.heap.size := c1.out.lt))
    all_goals (go_ret; exact ⟨by first | rfl | (simp; done) | (simp; omega), B1.out⟩)
  have ha' : ¬ (300 : Int) < (ca0.length : Int) := by omega
  by_cases hs : 300 < s1.length
  · have hs' : (300 : Int) < (s1.length : Int) := by omega
    have B0 := Lib.hid (Below.refl w.heap.size w)
    go_enter Tryd.func4, Tryd.ntmps4
    go_wp2_with (first
          | (go_at_call 9; refine (awake_any _ (E.below ((B0.out).alloc B0.out.size (.cells #[.string ⟨cv0.toArray⟩, .string ⟨ca0.toArray⟩] 23)))).mono ?_; rintro e w1 ⟨rfl, b1⟩; have B1 := Lib.hid (((B0.out).alloc B0.out.size (.cells #[.string ⟨cv0.toArray⟩, .string ⟨ca0.toArray⟩] 23)).trans (b1.mono (by have := B0.out.size; simp <;> omega))); have c1 := Lib.hid ((IsRow.made w 23 #[.string ⟨cv0.toArray⟩, .string ⟨ca0.toArray⟩]).call b1); have cc0 : w1.cell? ⟨w.heap.size, 0, none⟩ = some (.string ⟨cv0.toArray⟩) := c1.out.cell 0; have cc1 : w1.cell? ⟨w.heap.size, 1, none⟩ = some (.string ⟨ca0.toArray⟩) := c1.out.cell 1; have clt : w.heap.size < w1.heap.size := c1.out.lt))
    all_goals (go_ret; exact ⟨by first | rfl | (simp; done) | (simp; omega), B1.out⟩)
  have hs' : ¬ (300 : Int) < (s1.length : Int) := by omega
  have HP := Lib.hid (fun W => print_any cv0 ca0 (by omega) (by omega) W)
  have HPe : Hid (print cv0 ca0 = if may cv0 ca0 then (line cv0 ca0, true) else ([], false)) := Lib.hid rfl
  have HR := Lib.hid (fun W EW => read_any s1 (by omega) W EW)
  have HPR := Lib.hid (fun h => printed_read (v := cv0) (a := ca0) h)
  have hll : (line cv0 ca0).length ≤ 1000 := by have := line_le cv0 ca0; omega
  have HRp := Lib.hid (fun W EW => read_any (line cv0 ca0) (by omega) W EW)
  have HCp := Lib.hid (fun W => clean_any (line cv0 ca0) (by omega) W)
  have eqc : ∀ W, (Op.equalIn 10000 23 (.agg #[.string ⟨cv0.toArray⟩, .string ⟨ca0.toArray⟩]) (.agg #[.string ⟨cv0.toArray⟩, .string ⟨ca0.toArray⟩])).run Tryd.prog W = .ok true W := fun W => by
    have := equal_cmds cv0 ca0 cv0 ca0 W
    rw [decide_eq_true ⟨rfl, rfl⟩] at this
    exact this
  have eqn : ∀ W, (Op.equalIn 10000 23 (.agg #[.string ⟨#[]⟩, .string ⟨#[]⟩]) (.agg #[.string ⟨#[]⟩, .string ⟨#[]⟩])).run Tryd.prog W = .ok true W := fun W => by
    have := equal_cmds [] [] [] [] W
    rw [decide_eq_true ⟨rfl, rfl⟩] at this
    exact this
  have HBO := Lib.hid (fun h => back_ok (s := s1) h)
  have HER := Lib.hid (fun h => read_err (s := s1) h)
  have hx2 : (read s1).1.1.length ≤ 1000 ∧ (read s1).1.2.length ≤ 1000 ∧ (line (read s1).1.1 (read s1).1.2).length ≤ 2001 := by
    have e : (read s1).1.1.length ≤ 1000 ∧ (read s1).1.2.length ≤ 1000 := by
      by_cases h : (read s1).2 = 0
      · rw [(read_ok h).1]
        constructor
        · rw [upper_length]; have := head_le s1; omega
        · show (rest s1).length ≤ 1000; unfold rest; rw [List.length_drop]; omega
      · rw [read_err h]; exact ⟨by decide, by decide⟩
    have := line_le (read s1).1.1 (read s1).1.2
    exact ⟨e.1, e.2, by omega⟩
  have HQ := Lib.hid (fun W => print_any (read s1).1.1 (read s1).1.2 (by omega) (by omega) W)
  have HQe : Hid (print (read s1).1.1 (read s1).1.2 = if may (read s1).1.1 (read s1).1.2 then (line (read s1).1.1 (read s1).1.2, true) else ([], false)) := Lib.hid rfl
  have HMq := Lib.hid (fun W => may_any (read s1).1.1 (read s1).1.2 (by omega) (by omega) W)
  generalize read s1 = X at HR HBO HER HQ HQe HMq hx2
  obtain ⟨⟨xv, xa⟩, xe⟩ := X
  simp only at HR HBO HER HQ HQe HMq hx2
  clear hv ha
  cases hm0 : may cv0 ca0 with
  | false =>
    rw [show print cv0 ca0 = ([], false) from by rw [HPe.out, hm0]; rfl] at HP
    simp only at HP
    clear HPe HPR HRp HCp hm0
    by_cases hxe : xe = 0
    · subst hxe
      obtain ⟨hm, hd, y, hup, hc⟩ := HBO.out rfl
      rw [show print xv xa = (line xv xa, true) from by rw [HQe.out, hm]; rfl] at HQ
      rw [hm] at HMq
      simp only at HQ
      have hdl : hd.length = xv.length := by rw [← hup, upper_length]
      have HU := Lib.hid (fun W => upper_any hd (by omega) W)
      rw [hup] at HU
      generalize line xv xa = u at HQ hc hx2
      obtain ⟨n, hn⟩ : ∃ n, xv.length = n := ⟨_, rfl⟩
      rw [hn] at hdl
      clear HQe HBO HER hm hup
      rcases hc with ⟨h1, h2⟩ | ⟨h1, h2⟩
      · have hs1 : n ≤ s1.length := by rw [h1, List.length_append]; omega
        have hu1 : n ≤ u.length := by rw [h2, List.length_append]; omega
        have e1 : (ByteArray.mk s1.toArray).extract 0 n = ⟨hd.toArray⟩ := by apply ByteArray.ext; rw [h1]; simp [ByteArray.data_extract, ← hdl]
        have e2 : (ByteArray.mk u.toArray).extract 0 n = ⟨xv.toArray⟩ := by apply ByteArray.ext; rw [h2]; simp [ByteArray.data_extract, ← hn]
        have e3 : (ByteArray.mk s1.toArray).extract n s1.length = ⟨(y : List UInt8).toArray⟩ := by apply ByteArray.ext; rw [h1]; simp [ByteArray.data_extract, ← hdl]
        have e4 : (ByteArray.mk u.toArray).extract n u.length = ⟨(y : List UInt8).toArray⟩ := by apply ByteArray.ext; rw [h2]; simp [ByteArray.data_extract, ← hn]
        have g1 : ((u.length : Int) != (s1.length : Int)) = false := by rw [show u.length = s1.length from by rw [h1, h2, List.length_append, List.length_append]; omega]; simp
        clear h1 h2 hx2 hll
        have B0 := Lib.hid (Below.refl w.heap.size w)
        go_enter Tryd.func4, Tryd.ntmps4
        go_wp2_with (first
            | (go_at_call 9; refine (awake_any _ (E.below ((B0.out).alloc B0.out.size (.cells #[.string ⟨cv0.toArray⟩, .string ⟨ca0.toArray⟩] 23)))).mono ?_; rintro e w1 ⟨rfl, b1⟩; have B1 := Lib.hid (((B0.out).alloc B0.out.size (.cells #[.string ⟨cv0.toArray⟩, .string ⟨ca0.toArray⟩] 23)).trans (b1.mono (by have := B0.out.size; simp <;> omega))); have c1 := Lib.hid ((IsRow.made w 23 #[.string ⟨cv0.toArray⟩, .string ⟨ca0.toArray⟩]).call b1); have cc0 : w1.cell? ⟨w.heap.size, 0, none⟩ = some (.string ⟨cv0.toArray⟩) := c1.out.cell 0; have cc1 : w1.cell? ⟨w.heap.size, 1, none⟩ = some (.string ⟨ca0.toArray⟩) := c1.out.cell 1; have clt : w.heap.size < w1.heap.size := c1.out.lt)
            | (go_at_call 11; refine (HP.out _).mono ?_; rintro e w2 ⟨rfl, b2⟩; have B2 := Lib.hid (B1.out.trans (b2.mono B1.out.size)); have c2 := Lib.hid (c1.out.call b2); clear cc0 cc1 clt; have cc0 : w2.cell? ⟨w.heap.size, 0, none⟩ = some (.string ⟨cv0.toArray⟩) := c2.out.cell 0; have cc1 : w2.cell? ⟨w.heap.size, 1, none⟩ = some (.string ⟨ca0.toArray⟩) := c2.out.cell 1; have clt : w.heap.size < w2.heap.size := c2.out.lt; clear HP; clear c1)
            | (go_at_call 13; refine (HR.out _ (E.below (B2.out))).mono ?_; rintro e w3 ⟨rfl, b3⟩; have B3 := Lib.hid (B2.out.trans (b3.mono B2.out.size)); have c3 := Lib.hid (c2.out.call b3); clear cc0 cc1 clt; clear HR; clear c2)
            | (go_at_call 11; refine (HQ.out _).mono ?_; rintro e w4 ⟨rfl, b4⟩; have B4 := Lib.hid (((B3.out).alloc B3.out.size (.cells #[.string ⟨xv.toArray⟩, .string ⟨xa.toArray⟩] 23)).trans (b4.mono (by have := B3.out.size; simp <;> omega))); have c4 := Lib.hid ((c3.out.alloc (.cells #[.string ⟨xv.toArray⟩, .string ⟨xa.toArray⟩] 23)).call b4); have q4 := Lib.hid ((IsRow.made w3 23 #[.string ⟨xv.toArray⟩, .string ⟨xa.toArray⟩]).call b4); have qc0 : w4.cell? ⟨w3.heap.size, 0, none⟩ = some (.string ⟨xv.toArray⟩) := q4.out.cell 0; have qc1 : w4.cell? ⟨w3.heap.size, 1, none⟩ = some (.string ⟨xa.toArray⟩) := q4.out.cell 1; have qlt : w3.heap.size < w4.heap.size := q4.out.lt; clear HQ; clear c3)
            | (go_at_call 16; refine (HMq.out _).mono ?_; rintro e w5 ⟨rfl, b5⟩; have B5 := Lib.hid (B4.out.trans (b5.mono B4.out.size)); have c5 := Lib.hid (c4.out.call b5); have q5 := Lib.hid (q4.out.call b5); clear qc0 qc1 qlt; have qc0 : w5.cell? ⟨w3.heap.size, 0, none⟩ = some (.string ⟨xv.toArray⟩) := q5.out.cell 0; have qc1 : w5.cell? ⟨w3.heap.size, 1, none⟩ = some (.string ⟨xa.toArray⟩) := q5.out.cell 1; have qlt : w3.heap.size < w5.heap.size := q5.out.lt; clear c4 q4))
        have k0 := cell_regrown (show w5.cell? ⟨w3.heap.size, 0, none⟩ = some (.string ⟨xv.toArray⟩) from q5.out.cell 0)
        have KU := Lib.hid (show ∀ d os, Calls Tryd.prog 18 #[.string ⟨hd.toArray⟩] (grow (redrawn w5 d) os) fun e w'' => e = .returned (.string ⟨xv.toArray⟩) ∧ ∃ p : Regrown, w'' = grow (redrawn w5 p.d) p.os from fun d os => Calls.regrown_of (HU.out _))
        refine wp_region_quiet_below (by kernel_rfl) (by kernel_rfl) ?_
        repeat (go_big_quiet_step (first | with_reducible exact KU.out _ _))
        refine wpQuiet_nil ?_
        intro _ hw'
        obtain ⟨⟨dq, osq⟩, hw''⟩ := hw'
        subst hw''
        go_wp2_with fail
        go_ret
        exact ⟨by first | rfl | (simp; done), B5.out.trans ((below_regrown w5 dq osq).mono B5.out.size)⟩
      · have hs1 : n ≤ s1.length := by rw [h1, List.length_append]; omega
        have hu1 : n ≤ u.length := by rw [h2]; omega
        have e1 : (ByteArray.mk s1.toArray).extract 0 n = ⟨hd.toArray⟩ := by apply ByteArray.ext; rw [h1]; simp [ByteArray.data_extract, ← hdl]
        have e2 : (ByteArray.mk u.toArray).extract 0 n = ⟨xv.toArray⟩ := by apply ByteArray.ext; rw [h2]; simp [ByteArray.data_extract, ← hn]
        have e3 : (ByteArray.mk s1.toArray).extract n s1.length = ⟨([32] : List UInt8).toArray⟩ := by apply ByteArray.ext; rw [h1]; simp [ByteArray.data_extract, ← hdl]
        have e4 : (ByteArray.mk u.toArray).extract n u.length = ⟨([] : List UInt8).toArray⟩ := by apply ByteArray.ext; rw [h2]; simp [ByteArray.data_extract, ← hn]
        have hsl : s1.length = n + 1 := by rw [h1, List.length_append, hdl]; rfl
        have hul : u.length = n := by rw [h2]; exact hn
        have g1 : ((u.length : Int) != (s1.length : Int)) = true := by rw [hsl, hul]; simp <;> omega
        have g2 : ((u.length : Int) != (s1.length : Int) - 1) = false := by rw [hsl, hul]; simp
        obtain ⟨bl, hbl⟩ : ∃ b : List UInt8, b = [32] := ⟨_, rfl⟩
        obtain ⟨em, hem⟩ : ∃ b : List UInt8, b = [] := ⟨_, rfl⟩
        rw [← hbl] at e3
        rw [← hem] at e4
        have g3 : (em == bl) = false := by rw [hbl, hem]; decide
        have g4 : (bl == [32]) = true := by rw [hbl]; decide
        have g5 : (em == []) = true := by rw [hem]; decide
        clear hsl hul hbl hem
        clear h1 h2 hx2 hll
        have B0 := Lib.hid (Below.refl w.heap.size w)
        go_enter Tryd.func4, Tryd.ntmps4
        go_wp2_with (first
            | (go_at_call 9; refine (awake_any _ (E.below ((B0.out).alloc B0.out.size (.cells #[.string ⟨cv0.toArray⟩, .string ⟨ca0.toArray⟩] 23)))).mono ?_; rintro e w1 ⟨rfl, b1⟩; have B1 := Lib.hid (((B0.out).alloc B0.out.size (.cells #[.string ⟨cv0.toArray⟩, .string ⟨ca0.toArray⟩] 23)).trans (b1.mono (by have := B0.out.size; simp <;> omega))); have c1 := Lib.hid ((IsRow.made w 23 #[.string ⟨cv0.toArray⟩, .string ⟨ca0.toArray⟩]).call b1); have cc0 : w1.cell? ⟨w.heap.size, 0, none⟩ = some (.string ⟨cv0.toArray⟩) := c1.out.cell 0; have cc1 : w1.cell? ⟨w.heap.size, 1, none⟩ = some (.string ⟨ca0.toArray⟩) := c1.out.cell 1; have clt : w.heap.size < w1.heap.size := c1.out.lt)
            | (go_at_call 11; refine (HP.out _).mono ?_; rintro e w2 ⟨rfl, b2⟩; have B2 := Lib.hid (B1.out.trans (b2.mono B1.out.size)); have c2 := Lib.hid (c1.out.call b2); clear cc0 cc1 clt; have cc0 : w2.cell? ⟨w.heap.size, 0, none⟩ = some (.string ⟨cv0.toArray⟩) := c2.out.cell 0; have cc1 : w2.cell? ⟨w.heap.size, 1, none⟩ = some (.string ⟨ca0.toArray⟩) := c2.out.cell 1; have clt : w.heap.size < w2.heap.size := c2.out.lt; clear HP; clear c1)
            | (go_at_call 13; refine (HR.out _ (E.below (B2.out))).mono ?_; rintro e w3 ⟨rfl, b3⟩; have B3 := Lib.hid (B2.out.trans (b3.mono B2.out.size)); have c3 := Lib.hid (c2.out.call b3); clear cc0 cc1 clt; clear HR; clear c2)
            | (go_at_call 11; refine (HQ.out _).mono ?_; rintro e w4 ⟨rfl, b4⟩; have B4 := Lib.hid (((B3.out).alloc B3.out.size (.cells #[.string ⟨xv.toArray⟩, .string ⟨xa.toArray⟩] 23)).trans (b4.mono (by have := B3.out.size; simp <;> omega))); have c4 := Lib.hid ((c3.out.alloc (.cells #[.string ⟨xv.toArray⟩, .string ⟨xa.toArray⟩] 23)).call b4); have q4 := Lib.hid ((IsRow.made w3 23 #[.string ⟨xv.toArray⟩, .string ⟨xa.toArray⟩]).call b4); have qc0 : w4.cell? ⟨w3.heap.size, 0, none⟩ = some (.string ⟨xv.toArray⟩) := q4.out.cell 0; have qc1 : w4.cell? ⟨w3.heap.size, 1, none⟩ = some (.string ⟨xa.toArray⟩) := q4.out.cell 1; have qlt : w3.heap.size < w4.heap.size := q4.out.lt; clear HQ; clear c3)
            | (go_at_call 16; refine (HMq.out _).mono ?_; rintro e w5 ⟨rfl, b5⟩; have B5 := Lib.hid (B4.out.trans (b5.mono B4.out.size)); have c5 := Lib.hid (c4.out.call b5); have q5 := Lib.hid (q4.out.call b5); clear qc0 qc1 qlt; have qc0 : w5.cell? ⟨w3.heap.size, 0, none⟩ = some (.string ⟨xv.toArray⟩) := q5.out.cell 0; have qc1 : w5.cell? ⟨w3.heap.size, 1, none⟩ = some (.string ⟨xa.toArray⟩) := q5.out.cell 1; have qlt : w3.heap.size < w5.heap.size := q5.out.lt; clear c4 q4))
        have k0 := cell_regrown (show w5.cell? ⟨w3.heap.size, 0, none⟩ = some (.string ⟨xv.toArray⟩) from q5.out.cell 0)
        have KU := Lib.hid (show ∀ d os, Calls Tryd.prog 18 #[.string ⟨hd.toArray⟩] (grow (redrawn w5 d) os) fun e w'' => e = .returned (.string ⟨xv.toArray⟩) ∧ ∃ p : Regrown, w'' = grow (redrawn w5 p.d) p.os from fun d os => Calls.regrown_of (HU.out _))
        refine wp_region_quiet_below (by kernel_rfl) (by kernel_rfl) ?_
        repeat (go_big_quiet_step (first | with_reducible exact KU.out _ _))
        refine wpQuiet_nil ?_
        intro _ hw'
        obtain ⟨⟨dq, osq⟩, hw''⟩ := hw'
        subst hw''
        go_wp2_with fail
        go_ret
        exact ⟨by first | rfl | (simp; done), B5.out.trans ((below_regrown w5 dq osq).mono B5.out.size)⟩
    · have hxx := HER.out hxe
      simp only [Prod.mk.injEq] at hxx
      obtain ⟨rfl, rfl⟩ := hxx
      have gx : ((xe : Int) != 0) = true := by simpa using hxe
      clear HQ HQe HMq HBO HER hx2 hll
      have B0 := Lib.hid (Below.refl w.heap.size w)
      go_enter Tryd.func4, Tryd.ntmps4
      go_wp2_with (first
            | (go_at_call 9; refine (awake_any _ (E.below ((B0.out).alloc B0.out.size (.cells #[.string ⟨cv0.toArray⟩, .string ⟨ca0.toArray⟩] 23)))).mono ?_; rintro e w1 ⟨rfl, b1⟩; have B1 := Lib.hid (((B0.out).alloc B0.out.size (.cells #[.string ⟨cv0.toArray⟩, .string ⟨ca0.toArray⟩] 23)).trans (b1.mono (by have := B0.out.size; simp <;> omega))); have c1 := Lib.hid ((IsRow.made w 23 #[.string ⟨cv0.toArray⟩, .string ⟨ca0.toArray⟩]).call b1); have cc0 : w1.cell? ⟨w.heap.size, 0, none⟩ = some (.string ⟨cv0.toArray⟩) := c1.out.cell 0; have cc1 : w1.cell? ⟨w.heap.size, 1, none⟩ = some (.string ⟨ca0.toArray⟩) := c1.out.cell 1; have clt : w.heap.size < w1.heap.size := c1.out.lt)
            | (go_at_call 11; refine (HP.out _).mono ?_; rintro e w2 ⟨rfl, b2⟩; have B2 := Lib.hid (B1.out.trans (b2.mono B1.out.size)); have c2 := Lib.hid (c1.out.call b2); clear cc0 cc1 clt; have cc0 : w2.cell? ⟨w.heap.size, 0, none⟩ = some (.string ⟨cv0.toArray⟩) := c2.out.cell 0; have cc1 : w2.cell? ⟨w.heap.size, 1, none⟩ = some (.string ⟨ca0.toArray⟩) := c2.out.cell 1; have clt : w.heap.size < w2.heap.size := c2.out.lt; clear HP; clear c1)
            | (go_at_call 13; refine (HR.out _ (E.below (B2.out))).mono ?_; rintro e w3 ⟨rfl, b3⟩; have B3 := Lib.hid (B2.out.trans (b3.mono B2.out.size)); have c3 := Lib.hid (c2.out.call b3); clear cc0 cc1 clt; clear HR; clear c2))
      all_goals (go_ret; exact ⟨by first | rfl | (simp; done) | (simp; omega), (B3.out).alloc B3.out.size (.cells #[.string ⟨#[]⟩, .string ⟨#[]⟩] 23)⟩)
  | true =>
    rw [show print cv0 ca0 = (line cv0 ca0, true) from by rw [HPe.out, hm0]; rfl] at HP
    simp only at HP
    rw [(HPR.out hm0).1] at HRp
    rw [(HPR.out hm0).2] at HCp
    simp only at HRp
    generalize line cv0 ca0 = pt at HP HRp HCp hll
    clear HPe HPR hm0
    by_cases hxe : xe = 0
    · subst hxe
      obtain ⟨hm, hd, y, hup, hc⟩ := HBO.out rfl
      rw [show print xv xa = (line xv xa, true) from by rw [HQe.out, hm]; rfl] at HQ
      rw [hm] at HMq
      simp only at HQ
      have hdl : hd.length = xv.length := by rw [← hup, upper_length]
      have HU := Lib.hid (fun W => upper_any hd (by omega) W)
      rw [hup] at HU
      generalize line xv xa = u at HQ hc hx2
      obtain ⟨n, hn⟩ : ∃ n, xv.length = n := ⟨_, rfl⟩
      rw [hn] at hdl
      clear HQe HBO HER hm hup
      rcases hc with ⟨h1, h2⟩ | ⟨h1, h2⟩
      · have hs1 : n ≤ s1.length := by rw [h1, List.length_append]; omega
        have hu1 : n ≤ u.length := by rw [h2, List.length_append]; omega
        have e1 : (ByteArray.mk s1.toArray).extract 0 n = ⟨hd.toArray⟩ := by apply ByteArray.ext; rw [h1]; simp [ByteArray.data_extract, ← hdl]
        have e2 : (ByteArray.mk u.toArray).extract 0 n = ⟨xv.toArray⟩ := by apply ByteArray.ext; rw [h2]; simp [ByteArray.data_extract, ← hn]
        have e3 : (ByteArray.mk s1.toArray).extract n s1.length = ⟨(y : List UInt8).toArray⟩ := by apply ByteArray.ext; rw [h1]; simp [ByteArray.data_extract, ← hdl]
        have e4 : (ByteArray.mk u.toArray).extract n u.length = ⟨(y : List UInt8).toArray⟩ := by apply ByteArray.ext; rw [h2]; simp [ByteArray.data_extract, ← hn]
        have g1 : ((u.length : Int) != (s1.length : Int)) = false := by rw [show u.length = s1.length from by rw [h1, h2, List.length_append, List.length_append]; omega]; simp
        clear h1 h2 hx2 hll
        have B0 := Lib.hid (Below.refl w.heap.size w)
        go_enter Tryd.func4, Tryd.ntmps4
        go_wp2_with (first
            | (go_at_call 9; refine (awake_any _ (E.below ((B0.out).alloc B0.out.size (.cells #[.string ⟨cv0.toArray⟩, .string ⟨ca0.toArray⟩] 23)))).mono ?_; rintro e w1 ⟨rfl, b1⟩; have B1 := Lib.hid (((B0.out).alloc B0.out.size (.cells #[.string ⟨cv0.toArray⟩, .string ⟨ca0.toArray⟩] 23)).trans (b1.mono (by have := B0.out.size; simp <;> omega))); have c1 := Lib.hid ((IsRow.made w 23 #[.string ⟨cv0.toArray⟩, .string ⟨ca0.toArray⟩]).call b1); have cc0 : w1.cell? ⟨w.heap.size, 0, none⟩ = some (.string ⟨cv0.toArray⟩) := c1.out.cell 0; have cc1 : w1.cell? ⟨w.heap.size, 1, none⟩ = some (.string ⟨ca0.toArray⟩) := c1.out.cell 1; have clt : w.heap.size < w1.heap.size := c1.out.lt)
            | (go_at_call 11; refine (HP.out _).mono ?_; rintro e w2 ⟨rfl, b2⟩; have B2 := Lib.hid (B1.out.trans (b2.mono B1.out.size)); have c2 := Lib.hid (c1.out.call b2); clear cc0 cc1 clt; have cc0 : w2.cell? ⟨w.heap.size, 0, none⟩ = some (.string ⟨cv0.toArray⟩) := c2.out.cell 0; have cc1 : w2.cell? ⟨w.heap.size, 1, none⟩ = some (.string ⟨ca0.toArray⟩) := c2.out.cell 1; have clt : w.heap.size < w2.heap.size := c2.out.lt; clear HP; clear c1)
            | (go_at_call 13; refine (HRp.out _ (E.below (B2.out))).mono ?_; rintro e w3 ⟨rfl, b3⟩; have B3 := Lib.hid (B2.out.trans (b3.mono B2.out.size)); have c3 := Lib.hid (c2.out.call b3); clear cc0 cc1 clt; have cc0 : w3.cell? ⟨w.heap.size, 0, none⟩ = some (.string ⟨cv0.toArray⟩) := c3.out.cell 0; have cc1 : w3.cell? ⟨w.heap.size, 1, none⟩ = some (.string ⟨ca0.toArray⟩) := c3.out.cell 1; have clt : w.heap.size < w3.heap.size := c3.out.lt; clear HRp; clear c2)
            | (go_at_call 17; refine (HCp.out _).mono ?_; rintro e w4 ⟨rfl, b4⟩; have B4 := Lib.hid (((B3.out).alloc B3.out.size (.cells #[.string ⟨cv0.toArray⟩, .string ⟨ca0.toArray⟩] 23)).trans (b4.mono (by have := B3.out.size; simp <;> omega))); have c4 := Lib.hid ((c3.out.alloc (.cells #[.string ⟨cv0.toArray⟩, .string ⟨ca0.toArray⟩] 23)).call b4); have p4 := Lib.hid ((IsRow.made w3 23 #[.string ⟨cv0.toArray⟩, .string ⟨ca0.toArray⟩]).call b4); clear cc0 cc1 clt; clear c3)
            | (go_at_call 13; refine (HR.out _ (E.below (B4.out))).mono ?_; rintro e w5 ⟨rfl, b5⟩; have B5 := Lib.hid (B4.out.trans (b5.mono B4.out.size)); have c5 := Lib.hid (c4.out.call b5); have p5 := Lib.hid (p4.out.call b5); clear HR; clear c4 p4)
            | (go_at_call 11; refine (HQ.out _).mono ?_; rintro e w6 ⟨rfl, b6⟩; have B6 := Lib.hid (((B5.out).alloc B5.out.size (.cells #[.string ⟨xv.toArray⟩, .string ⟨xa.toArray⟩] 23)).trans (b6.mono (by have := B5.out.size; simp <;> omega))); have c6 := Lib.hid ((c5.out.alloc (.cells #[.string ⟨xv.toArray⟩, .string ⟨xa.toArray⟩] 23)).call b6); have p6 := Lib.hid ((p5.out.alloc (.cells #[.string ⟨xv.toArray⟩, .string ⟨xa.toArray⟩] 23)).call b6); have q6 := Lib.hid ((IsRow.made w5 23 #[.string ⟨xv.toArray⟩, .string ⟨xa.toArray⟩]).call b6); have qc0 : w6.cell? ⟨w5.heap.size, 0, none⟩ = some (.string ⟨xv.toArray⟩) := q6.out.cell 0; have qc1 : w6.cell? ⟨w5.heap.size, 1, none⟩ = some (.string ⟨xa.toArray⟩) := q6.out.cell 1; have qlt : w5.heap.size < w6.heap.size := q6.out.lt; clear HQ; clear c5 p5)
            | (go_at_call 16; refine (HMq.out _).mono ?_; rintro e w7 ⟨rfl, b7⟩; have B7 := Lib.hid (B6.out.trans (b7.mono B6.out.size)); have c7 := Lib.hid (c6.out.call b7); have p7 := Lib.hid (p6.out.call b7); have q7 := Lib.hid (q6.out.call b7); clear qc0 qc1 qlt; have qc0 : w7.cell? ⟨w5.heap.size, 0, none⟩ = some (.string ⟨xv.toArray⟩) := q7.out.cell 0; have qc1 : w7.cell? ⟨w5.heap.size, 1, none⟩ = some (.string ⟨xa.toArray⟩) := q7.out.cell 1; have qlt : w5.heap.size < w7.heap.size := q7.out.lt; clear c6 p6 q6))
        have k0 := cell_regrown (show w7.cell? ⟨w5.heap.size, 0, none⟩ = some (.string ⟨xv.toArray⟩) from q7.out.cell 0)
        have KU := Lib.hid (show ∀ d os, Calls Tryd.prog 18 #[.string ⟨hd.toArray⟩] (grow (redrawn w7 d) os) fun e w'' => e = .returned (.string ⟨xv.toArray⟩) ∧ ∃ p : Regrown, w'' = grow (redrawn w7 p.d) p.os from fun d os => Calls.regrown_of (HU.out _))
        refine wp_region_quiet_below (by kernel_rfl) (by kernel_rfl) ?_
        repeat (go_big_quiet_step (first | with_reducible exact KU.out _ _))
        refine wpQuiet_nil ?_
        intro _ hw'
        obtain ⟨⟨dq, osq⟩, hw''⟩ := hw'
        subst hw''
        go_wp2_with fail
        go_ret
        exact ⟨by first | rfl | (simp; done), B7.out.trans ((below_regrown w7 dq osq).mono B7.out.size)⟩
      · have hs1 : n ≤ s1.length := by rw [h1, List.length_append]; omega
        have hu1 : n ≤ u.length := by rw [h2]; omega
        have e1 : (ByteArray.mk s1.toArray).extract 0 n = ⟨hd.toArray⟩ := by apply ByteArray.ext; rw [h1]; simp [ByteArray.data_extract, ← hdl]
        have e2 : (ByteArray.mk u.toArray).extract 0 n = ⟨xv.toArray⟩ := by apply ByteArray.ext; rw [h2]; simp [ByteArray.data_extract, ← hn]
        have e3 : (ByteArray.mk s1.toArray).extract n s1.length = ⟨([32] : List UInt8).toArray⟩ := by apply ByteArray.ext; rw [h1]; simp [ByteArray.data_extract, ← hdl]
        have e4 : (ByteArray.mk u.toArray).extract n u.length = ⟨([] : List UInt8).toArray⟩ := by apply ByteArray.ext; rw [h2]; simp [ByteArray.data_extract, ← hn]
        have hsl : s1.length = n + 1 := by rw [h1, List.length_append, hdl]; rfl
        have hul : u.length = n := by rw [h2]; exact hn
        have g1 : ((u.length : Int) != (s1.length : Int)) = true := by rw [hsl, hul]; simp <;> omega
        have g2 : ((u.length : Int) != (s1.length : Int) - 1) = false := by rw [hsl, hul]; simp
        obtain ⟨bl, hbl⟩ : ∃ b : List UInt8, b = [32] := ⟨_, rfl⟩
        obtain ⟨em, hem⟩ : ∃ b : List UInt8, b = [] := ⟨_, rfl⟩
        rw [← hbl] at e3
        rw [← hem] at e4
        have g3 : (em == bl) = false := by rw [hbl, hem]; decide
        have g4 : (bl == [32]) = true := by rw [hbl]; decide
        have g5 : (em == []) = true := by rw [hem]; decide
        clear hsl hul hbl hem
        clear h1 h2 hx2 hll
        have B0 := Lib.hid (Below.refl w.heap.size w)
        go_enter Tryd.func4, Tryd.ntmps4
        go_wp2_with (first
            | (go_at_call 9; refine (awake_any _ (E.below ((B0.out).alloc B0.out.size (.cells #[.string ⟨cv0.toArray⟩, .string ⟨ca0.toArray⟩] 23)))).mono ?_; rintro e w1 ⟨rfl, b1⟩; have B1 := Lib.hid (((B0.out).alloc B0.out.size (.cells #[.string ⟨cv0.toArray⟩, .string ⟨ca0.toArray⟩] 23)).trans (b1.mono (by have := B0.out.size; simp <;> omega))); have c1 := Lib.hid ((IsRow.made w 23 #[.string ⟨cv0.toArray⟩, .string ⟨ca0.toArray⟩]).call b1); have cc0 : w1.cell? ⟨w.heap.size, 0, none⟩ = some (.string ⟨cv0.toArray⟩) := c1.out.cell 0; have cc1 : w1.cell? ⟨w.heap.size, 1, none⟩ = some (.string ⟨ca0.toArray⟩) := c1.out.cell 1; have clt : w.heap.size < w1.heap.size := c1.out.lt)
            | (go_at_call 11; refine (HP.out _).mono ?_; rintro e w2 ⟨rfl, b2⟩; have B2 := Lib.hid (B1.out.trans (b2.mono B1.out.size)); have c2 := Lib.hid (c1.out.call b2); clear cc0 cc1 clt; have cc0 : w2.cell? ⟨w.heap.size, 0, none⟩ = some (.string ⟨cv0.toArray⟩) := c2.out.cell 0; have cc1 : w2.cell? ⟨w.heap.size, 1, none⟩ = some (.string ⟨ca0.toArray⟩) := c2.out.cell 1; have clt : w.heap.size < w2.heap.size := c2.out.lt; clear HP; clear c1)
            | (go_at_call 13; refine (HRp.out _ (E.below (B2.out))).mono ?_; rintro e w3 ⟨rfl, b3⟩; have B3 := Lib.hid (B2.out.trans (b3.mono B2.out.size)); have c3 := Lib.hid (c2.out.call b3); clear cc0 cc1 clt; have cc0 : w3.cell? ⟨w.heap.size, 0, none⟩ = some (.string ⟨cv0.toArray⟩) := c3.out.cell 0; have cc1 : w3.cell? ⟨w.heap.size, 1, none⟩ = some (.string ⟨ca0.toArray⟩) := c3.out.cell 1; have clt : w.heap.size < w3.heap.size := c3.out.lt; clear HRp; clear c2)
            | (go_at_call 17; refine (HCp.out _).mono ?_; rintro e w4 ⟨rfl, b4⟩; have B4 := Lib.hid (((B3.out).alloc B3.out.size (.cells #[.string ⟨cv0.toArray⟩, .string ⟨ca0.toArray⟩] 23)).trans (b4.mono (by have := B3.out.size; simp <;> omega))); have c4 := Lib.hid ((c3.out.alloc (.cells #[.string ⟨cv0.toArray⟩, .string ⟨ca0.toArray⟩] 23)).call b4); have p4 := Lib.hid ((IsRow.made w3 23 #[.string ⟨cv0.toArray⟩, .string ⟨ca0.toArray⟩]).call b4); clear cc0 cc1 clt; clear c3)
            | (go_at_call 13; refine (HR.out _ (E.below (B4.out))).mono ?_; rintro e w5 ⟨rfl, b5⟩; have B5 := Lib.hid (B4.out.trans (b5.mono B4.out.size)); have c5 := Lib.hid (c4.out.call b5); have p5 := Lib.hid (p4.out.call b5); clear HR; clear c4 p4)
            | (go_at_call 11; refine (HQ.out _).mono ?_; rintro e w6 ⟨rfl, b6⟩; have B6 := Lib.hid (((B5.out).alloc B5.out.size (.cells #[.string ⟨xv.toArray⟩, .string ⟨xa.toArray⟩] 23)).trans (b6.mono (by have := B5.out.size; simp <;> omega))); have c6 := Lib.hid ((c5.out.alloc (.cells #[.string ⟨xv.toArray⟩, .string ⟨xa.toArray⟩] 23)).call b6); have p6 := Lib.hid ((p5.out.alloc (.cells #[.string ⟨xv.toArray⟩, .string ⟨xa.toArray⟩] 23)).call b6); have q6 := Lib.hid ((IsRow.made w5 23 #[.string ⟨xv.toArray⟩, .string ⟨xa.toArray⟩]).call b6); have qc0 : w6.cell? ⟨w5.heap.size, 0, none⟩ = some (.string ⟨xv.toArray⟩) := q6.out.cell 0; have qc1 : w6.cell? ⟨w5.heap.size, 1, none⟩ = some (.string ⟨xa.toArray⟩) := q6.out.cell 1; have qlt : w5.heap.size < w6.heap.size := q6.out.lt; clear HQ; clear c5 p5)
            | (go_at_call 16; refine (HMq.out _).mono ?_; rintro e w7 ⟨rfl, b7⟩; have B7 := Lib.hid (B6.out.trans (b7.mono B6.out.size)); have c7 := Lib.hid (c6.out.call b7); have p7 := Lib.hid (p6.out.call b7); have q7 := Lib.hid (q6.out.call b7); clear qc0 qc1 qlt; have qc0 : w7.cell? ⟨w5.heap.size, 0, none⟩ = some (.string ⟨xv.toArray⟩) := q7.out.cell 0; have qc1 : w7.cell? ⟨w5.heap.size, 1, none⟩ = some (.string ⟨xa.toArray⟩) := q7.out.cell 1; have qlt : w5.heap.size < w7.heap.size := q7.out.lt; clear c6 p6 q6))
        have k0 := cell_regrown (show w7.cell? ⟨w5.heap.size, 0, none⟩ = some (.string ⟨xv.toArray⟩) from q7.out.cell 0)
        have KU := Lib.hid (show ∀ d os, Calls Tryd.prog 18 #[.string ⟨hd.toArray⟩] (grow (redrawn w7 d) os) fun e w'' => e = .returned (.string ⟨xv.toArray⟩) ∧ ∃ p : Regrown, w'' = grow (redrawn w7 p.d) p.os from fun d os => Calls.regrown_of (HU.out _))
        refine wp_region_quiet_below (by kernel_rfl) (by kernel_rfl) ?_
        repeat (go_big_quiet_step (first | with_reducible exact KU.out _ _))
        refine wpQuiet_nil ?_
        intro _ hw'
        obtain ⟨⟨dq, osq⟩, hw''⟩ := hw'
        subst hw''
        go_wp2_with fail
        go_ret
        exact ⟨by first | rfl | (simp; done), B7.out.trans ((below_regrown w7 dq osq).mono B7.out.size)⟩
    · have hxx := HER.out hxe
      simp only [Prod.mk.injEq] at hxx
      obtain ⟨rfl, rfl⟩ := hxx
      have gx : ((xe : Int) != 0) = true := by simpa using hxe
      clear HQ HQe HMq HBO HER hx2 hll
      have B0 := Lib.hid (Below.refl w.heap.size w)
      go_enter Tryd.func4, Tryd.ntmps4
      go_wp2_with (first
            | (go_at_call 9; refine (awake_any _ (E.below ((B0.out).alloc B0.out.size (.cells #[.string ⟨cv0.toArray⟩, .string ⟨ca0.toArray⟩] 23)))).mono ?_; rintro e w1 ⟨rfl, b1⟩; have B1 := Lib.hid (((B0.out).alloc B0.out.size (.cells #[.string ⟨cv0.toArray⟩, .string ⟨ca0.toArray⟩] 23)).trans (b1.mono (by have := B0.out.size; simp <;> omega))); have c1 := Lib.hid ((IsRow.made w 23 #[.string ⟨cv0.toArray⟩, .string ⟨ca0.toArray⟩]).call b1); have cc0 : w1.cell? ⟨w.heap.size, 0, none⟩ = some (.string ⟨cv0.toArray⟩) := c1.out.cell 0; have cc1 : w1.cell? ⟨w.heap.size, 1, none⟩ = some (.string ⟨ca0.toArray⟩) := c1.out.cell 1; have clt : w.heap.size < w1.heap.size := c1.out.lt)
            | (go_at_call 11; refine (HP.out _).mono ?_; rintro e w2 ⟨rfl, b2⟩; have B2 := Lib.hid (B1.out.trans (b2.mono B1.out.size)); have c2 := Lib.hid (c1.out.call b2); clear cc0 cc1 clt; have cc0 : w2.cell? ⟨w.heap.size, 0, none⟩ = some (.string ⟨cv0.toArray⟩) := c2.out.cell 0; have cc1 : w2.cell? ⟨w.heap.size, 1, none⟩ = some (.string ⟨ca0.toArray⟩) := c2.out.cell 1; have clt : w.heap.size < w2.heap.size := c2.out.lt; clear HP; clear c1)
            | (go_at_call 13; refine (HRp.out _ (E.below (B2.out))).mono ?_; rintro e w3 ⟨rfl, b3⟩; have B3 := Lib.hid (B2.out.trans (b3.mono B2.out.size)); have c3 := Lib.hid (c2.out.call b3); clear cc0 cc1 clt; have cc0 : w3.cell? ⟨w.heap.size, 0, none⟩ = some (.string ⟨cv0.toArray⟩) := c3.out.cell 0; have cc1 : w3.cell? ⟨w.heap.size, 1, none⟩ = some (.string ⟨ca0.toArray⟩) := c3.out.cell 1; have clt : w.heap.size < w3.heap.size := c3.out.lt; clear HRp; clear c2)
            | (go_at_call 17; refine (HCp.out _).mono ?_; rintro e w4 ⟨rfl, b4⟩; have B4 := Lib.hid (((B3.out).alloc B3.out.size (.cells #[.string ⟨cv0.toArray⟩, .string ⟨ca0.toArray⟩] 23)).trans (b4.mono (by have := B3.out.size; simp <;> omega))); have c4 := Lib.hid ((c3.out.alloc (.cells #[.string ⟨cv0.toArray⟩, .string ⟨ca0.toArray⟩] 23)).call b4); have p4 := Lib.hid ((IsRow.made w3 23 #[.string ⟨cv0.toArray⟩, .string ⟨ca0.toArray⟩]).call b4); clear cc0 cc1 clt; clear c3)
            | (go_at_call 13; refine (HR.out _ (E.below (B4.out))).mono ?_; rintro e w5 ⟨rfl, b5⟩; have B5 := Lib.hid (B4.out.trans (b5.mono B4.out.size)); have c5 := Lib.hid (c4.out.call b5); have p5 := Lib.hid (p4.out.call b5); clear HR; clear c4 p4))
      all_goals (go_ret; exact ⟨by first | rfl | (simp; done) | (simp; omega), (B5.out).alloc B5.out.size (.cells #[.string ⟨#[]⟩, .string ⟨#[]⟩] 23)⟩)

set_option maxRecDepth 100000 in
theorem lifted (os : Os) (started : os.Started) (H : Type) (enc : TypeId × Value → H) :
    ReturnsInHanded {} Tryd.checked os 4 .any (fun w args => (Rows.cmdBackSpec.pre enc Tryd.prog Tryd.f4 [] false w args ∧ laidMetH Tryd.prog laidHere w) ∧ sizedMet enc Tryd.prog Tryd.f4 (OpenSpec.ofChange Rows.cmdBackSpec) false w args)
      (Rows.cmdBackSpec.post enc Tryd.prog Tryd.f4 false true false false) := by
  refine handed started (by kernel_rfl) Tryd.func4 #[.agg #[.string ⟨#[]⟩, .string ⟨#[]⟩], .string ⟨#[]⟩] (by kernel_rfl) (by kernel_rfl) (by kernel_rfl) (World.shaped_of_ZipB (by kernel_rfl) (by kernel_rfl)) ?_
  intro W base args ds gs before hval0 hW E
  have hval : ∀ (j : Nat) t v, Tryd.f4.params[j]? = some t → args[j]? = some v → Value.okWide Tryd.prog W .any base t v := hval0
  have hW' := hW
  obtain ⟨p, q, hA0, hV, rfl, _, _⟩ := hW
  have hA : DataW.TrodAll enc Tryd.prog W 0 (fun _ => true) true Tryd.f4.params.toList args.toList ds p := hA0
  rw [Tryd.params4] at hA hval
  obtain ⟨v0, vs0, d0, ds0, p0, q0, hargs, rfl, rfl, r0, t0⟩ := trodAll_cons hA
  obtain ⟨v1, vs1, d1, ds1, p1, q1, rfl, rfl, rfl, r1, t1⟩ := trodAll_cons t0
  obtain ⟨rfl, rfl, rfl⟩ := trodAll_nil t1
  obtain rfl : args = #[v0, v1] := by cases args; simp_all
  obtain ⟨rfl, rfl⟩ := trodVars_none hV
  obtain ⟨cv0, ca0, rfl, rfl, rfl, wv0, wa0⟩ := open_cmd (hval 0 23 v0 rfl rfl) r0
  obtain ⟨x1, rfl, rfl, rfl, w1⟩ := open_string Tryd.underlying9 (hval 1 9 v1 rfl rfl) r1
  obtain ⟨s1, rfl⟩ : ∃ l : List UInt8, x1 = ⟨l.toArray⟩ := ⟨x1.data.toList, by simp⟩
  clear hA0 hval0
  simp only [List.append_nil] at hW'
  refine (walk cv0 ca0 (by have := wv0; unfold maxLen at this; exact this) (by have := wa0; unfold maxLen at this; exact this) s1 (by have := w1; rw [size_mk] at this; unfold maxLen at this; exact this) W  E).mono fun e W' ⟨he, hb⟩ => ?_
  subst he
  exact ⟨_, rfl, told hW' (fun _ _ _ => trodAll_cons_mk (shut_bool Tryd.underlying4 _) trodAll_mk0) (trodAll_cons_mk (shut_cmd wv0 wa0) (trodAll_cons_mk (shut_string Tryd.underlying9 w1) trodAll_mk0)) (fun _ => rfl) hb⟩

theorem over : Rows.CmdBackSaid :=
  OpenClaim.holds_of_wide 4 Tryd.f4 rfl rfl rfl rfl rfl rfl rfl ⟨rfl, rfl, rfl, rfl, rfl⟩ rfl rfl rfl rfl rfl (by kernel_rfl) Tryd.func4 (by kernel_rfl)
    (of_decide_eq_true (by kernel_rfl)) (by unfold Func.isWrapper; first | (rw [if_pos (by decide +kernel)]; kernel_rfl) | (rw [if_neg (by decide +kernel)]; exact ⟨rfl, rfl⟩))
    (fun os started H enc _ => lifted os started H enc)

theorem proved : Rows.CmdBackCardSaid :=
  Claim7.holds_tied_plain_at .later [] Rows.cmdBackCard.laidKinds true Rows.cmdBackCard.stood.harness Rows.cmdBackCard.stood.looks
    over (fun _ h => by cases h) (by kernel_rfl) (fun _ h => by cases h) cmdBack_row_tie rfl ⟨rfl, rfl⟩ (by kernel_rfl) rfl
    (fun f fn hf hfn => by
      obtain rfl : f = 4 := Option.some.inj ((show Tryd.prog.funcNamed "wharfinger/wharfingerlaw08.CmdBack" = some 4 by kernel_rfl).symm.trans hf) |>.symm
      obtain rfl : fn = Tryd.f4 := (Option.some.inj (Tryd.func4.symm.trans hfn)).symm
      exact ⟨by kernel_rfl, fun j t ht => by
        rw [Tryd.params4] at ht
        have hm : t ∈ [23, 9] := by simpa using Array.mem_of_getElem? ht
        have hall : ([23, 9].all fun u => !Tryd.prog.wantsStandIn u) = true := by kernel_rfl
        exact (show Tryd.prog.wantsStandIn t = false by simpa using List.all_eq_true.1 hall t hm)⟩)
    (by kernel_rfl)
#print axioms proved
end Go.Proofs.YtginmhmeepjbhaaDoor.cmdBack
