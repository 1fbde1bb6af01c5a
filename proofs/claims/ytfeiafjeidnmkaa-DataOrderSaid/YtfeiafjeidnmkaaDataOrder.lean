/- Proved: what comes on the one goes to where it leads, in order, each byte once, as long as it has room, for every list of chunks and every place. Conditions: none beyond the row's own (the library's variables start as the program's text lays them: the card ties them). -/
import Derived.Test.YtfeiafjeidnmkaaDataAwake
import Derived.Test.YtfeiafjeidnmkaaLinkArg
import Derived.BigQuiet
import Derived.Deep.QuietTactic
import Derived.Deep.RegionHeld
import Derived.Deep.RegionLaw
import Derived.Test.YtfeiafjeidnmkaaDataMore
import Derived.Test.YtfeiafjeidnmkaaDataBox

namespace Go.Proofs.Ytfeiafjeidnmkaa.dataOrder
open Go.Proofs.Ytfeiafjeidnmkaa Go.Proofs.Ytfeiafjeidnmkaa.Da
open Go.ChangeShapes Go.WideShapes Go.ChangeAt Go.RowKit Go.Sort Go.ChangeMaps

set_option linter.unusedVariables false in
set_option maxHeartbeats 2000000 in
set_option maxRecDepth 100000 in
theorem walk (u0 : Value) (s0 : List Ck) (n1 : Int) (l1 : -9223372036854775808 ≤ n1) (h1 : n1 ≤ 9223372036854775807) (w : World) (y0 : RowIs chunks w u0 s0) (E : Env w) :
    Calls Try.prog 4 #[u0, .int .i64 n1] w fun e w' => e = .returned (.bool true) ∧ Below w.heap.size w w' := by
  obtain ⟨p0, n, c0, rfl, hn⟩ := RowIs.form y0
  have hmax := y0.max
  rw [← hn] at hmax
  replace y0 : Hid (RowIs chunks w (.slice p0 n c0) s0) := Lib.hid y0
  have HN := Lib.hid hn
  clear hn
  by_cases g1 : 10 < n
  · have g1' : (n : Int) > 10 := by omega
    clear g1
    go_enter Try.func4, Try.ntmps4
    go_wp2_with (go_at_call 8; refine (awake_any _ trivial).mono ?_; rintro e w1 ⟨rfl, b1⟩; have B1 := Lib.hid (((Below.refl w.heap.size w)).trans (b1.mono (by have := (Below.refl w.heap.size w).size; first | exact this | (simp <;> omega)))))
    go_ret
    exact ⟨by first | rfl | (simp; done), B1.out⟩
  · have g1' : ¬ (n : Int) > 10 := by omega
    by_cases g2 : n1 < 0
    · go_enter Try.func4, Try.ntmps4
      go_wp2_with (go_at_call 8; refine (awake_any _ trivial).mono ?_; rintro e w1 ⟨rfl, b1⟩; have B1 := Lib.hid (((Below.refl w.heap.size w)).trans (b1.mono (by have := (Below.refl w.heap.size w).size; first | exact this | (simp <;> omega)))))
      go_ret
      exact ⟨by first | rfl | (simp; done), B1.out⟩
    · by_cases g3 : n1 > (n : Int)
      · go_enter Try.func4, Try.ntmps4
        go_wp2_with (go_at_call 8; refine (awake_any _ trivial).mono ?_; rintro e w1 ⟨rfl, b1⟩; have B1 := Lib.hid (((Below.refl w.heap.size w)).trans (b1.mono (by have := (Below.refl w.heap.size w).size; first | exact this | (simp <;> omega)))))
        go_ret
        exact ⟨by first | rfl | (simp; done), B1.out⟩
      · obtain ⟨at_, rfl⟩ : ∃ k : Nat, n1 = (k : Int) := ⟨n1.toNat, by omega⟩
        have HAN : Hid (at_ ≤ n) := Lib.hid (by omega)
        have HN10 : Hid (n ≤ 10) := Lib.hid (by omega)
        clear g1
        go_enter Try.func4, Try.ntmps4
        go_wp2_with (go_at_call 8; refine (awake_any _ trivial).mono ?_; rintro e w1 ⟨rfl, b1⟩; have B1 := Lib.hid (((Below.refl w.heap.size w)).trans (b1.mono (by have := (Below.refl w.heap.size w).size; first | exact this | (simp <;> omega)))))
        obtain ⟨w2, hv⟩ : ∃ V, (w1.alloc (.cells #[.int .i64 0, .int .i64 5, .int .i64 (-1), .slice none 0 0] 24)) = V := ⟨_, rfl⟩
        have B2 := Lib.hid (show Below w.heap.size w w2 by rw [← hv]; exact ((B1.out).alloc B1.out.size (.cells #[.int .i64 0, .int .i64 5, .int .i64 (-1), .slice none 0 0] 24)))
        have BX2 : Hid (IsRow w2 (w1.heap.size) 24 #[.int .i64 0, .int .i64 5, .int .i64 (-1), .slice none 0 0]) := Lib.hid (by rw [← hv]; first | exact (IsRow.made w1 24 #[.int .i64 0, .int .i64 5, .int .i64 (-1), .slice none 0 0]) | (have h := (IsRow.made w1 24 #[.int .i64 0, .int .i64 5, .int .i64 (-1), .slice none 0 0]); simp at h; exact h))
        rw [hv]
        clear hv
        generalize decide ((10 : Int) < (n : Int)) = d1
        generalize decide ((at_ : Int) < 0) = d2
        generalize decide (n < at_) = d3
        go_loopw [7, 8, 9] (fun x7 x8 x9 wr => ∃ (i : Nat) (bx : Int) (W : List (List UInt8)) (al se : List UInt8) (p : Option Addr) (M c : Nat) (ws : List Ck), x7 = .string ⟨al.toArray⟩ ∧ x8 = .string ⟨se.toArray⟩ ∧ x9 = .int .i64 (i : Int) ∧ i ≤ n ∧ Hid ((i ≤ at_ ∧ bx = -1) ∨ (at_ < i ∧ bx = 6 ∧ W = [])) ∧ Hid (mayL ⟨0, 5, bx, W⟩ = true) ∧ Hid (se ++ W.flatten = al) ∧ Hid (al.length ≤ i * 100) ∧ Hid (∀ b ∈ W, b.length ≤ 100) ∧ Hid (W.length = M) ∧ Hid (texts ws = W) ∧ Hid (IsRow wr w1.heap.size 24 #[.int .i64 0, .int .i64 5, .int .i64 bx, .slice p M c]) ∧ Hid (RowIs chunks wr (.slice p M c) ws) ∧ Hid (Below w.heap.size w wr)) (fun _ _ i _ => n + 1 - (intOf i).toNat)
        case atStart => exact ⟨0, -1, [], [], [], none, 0, 0, [], rfl, rfl, rfl, Nat.zero_le _, Lib.hid (Or.inl ⟨Nat.zero_le _, rfl⟩), Lib.hid rfl, Lib.hid rfl, Lib.hid (Nat.zero_le _), Lib.hid (fun _ h => by cases h), Lib.hid rfl, Lib.hid rfl, BX2, Lib.hid (RowIs.nil _ _), B2⟩
        case round =>
          obtain ⟨i, bx, W, al, se, p, M, c, ws, rfl, rfl, rfl, hi, HP, HMAY, HEQ, HAL, HWB, HWM, HTW, BX30, WX30, B30⟩ := hrel
          have hcond : (i : Int) ≤ (n : Int) := by omega
          have x0 : wr.cell? ⟨w1.heap.size, 0, none⟩ = some (.int .i64 0) := BX30.out.cell 0; have xf0 : wr.frozen? ⟨w1.heap.size, 0, none⟩ = false := BX30.out.free 0; have x1 : wr.cell? ⟨w1.heap.size, 1, none⟩ = some (.int .i64 5) := BX30.out.cell 1; have xf1 : wr.frozen? ⟨w1.heap.size, 1, none⟩ = false := BX30.out.free 1; have x2 : wr.cell? ⟨w1.heap.size, 2, none⟩ = some (.int .i64 bx) := BX30.out.cell 2; have xf2 : wr.frozen? ⟨w1.heap.size, 2, none⟩ = false := BX30.out.free 2; have x3 : wr.cell? ⟨w1.heap.size, 3, none⟩ = some (.slice p M c) := BX30.out.cell 3; have xf3 : wr.frozen? ⟨w1.heap.size, 3, none⟩ = false := BX30.out.free 3; have xlt := BX30.out.lt
          have SEL0 : Hid (se.length ≤ 1000) := Lib.hid (by
            have h := congrArg List.length HEQ.out
            have h1 := HAL.out
            have h2 := HN10.out
            simp only [List.length_append] at h
            omega)
          rcases HP.out with ⟨hia, rfl⟩ | ⟨hia, rfl, rfl⟩
          · have OKX : Hid (okL (⟨0, 5, -1, .slice p M c, ws⟩ : Lk).p) := Lib.hid (by
              show okL ⟨0, 5, -1, texts ws⟩
              rw [HTW.out]
              exact ⟨by show W.length ≤ 1000; have := (asked_parts HMAY.out).1; omega, fun b hb => by have := HWB.out b hb; omega⟩)
            by_cases hie : i = at_
            · have hne : ((i : Int) == (at_ : Int)) = true := by rw [beq_iff_eq]; omega
              have HIE := Lib.hid hie
              clear hie hia
              have HJ := Lib.hid (join_own ⟨0, 5, -1, .slice p M c, ws⟩ 6 0 5 6 [] (W.map (sendO 6)) true 0 M (by show joinL ⟨0, 5, -1, texts ws⟩ 6 = _; rw [HTW.out]; exact asked_join HMAY.out) rfl (by rw [List.length_map]; exact HWM.out) OKX.out wr WX30.out)
              clear x0 x1 x2 x3 xf0 xf1 xf2 xf3 xlt
              have x0 : wr.cell? ⟨w1.heap.size, 0, none⟩ = some (.int .i64 0) := BX30.out.cell 0; have xf0 : wr.frozen? ⟨w1.heap.size, 0, none⟩ = false := BX30.out.free 0; have x1 : wr.cell? ⟨w1.heap.size, 1, none⟩ = some (.int .i64 5) := BX30.out.cell 1; have xf1 : wr.frozen? ⟨w1.heap.size, 1, none⟩ = false := BX30.out.free 1; have x2 : wr.cell? ⟨w1.heap.size, 2, none⟩ = some (.int .i64 (-1)) := BX30.out.cell 2; have xf2 : wr.frozen? ⟨w1.heap.size, 2, none⟩ = false := BX30.out.free 2; have x3 : wr.cell? ⟨w1.heap.size, 3, none⟩ = some (.slice p M c) := BX30.out.cell 3; have xf3 : wr.frozen? ⟨w1.heap.size, 3, none⟩ = false := BX30.out.free 3; have xlt := BX30.out.lt
              go_wp2_with (go_at_call 12; refine HJ.out.mono ?_; rintro e w3 ⟨⟨p3, c3, ws3, q3, k3, os3, rfl, et3, hr3, eo3, ho3, hc3, hq3⟩, b3⟩; have B3 := Lib.hid (B30.out.trans (b3.mono B30.out.size)); have BX3 := Lib.hid (BX30.out.call b3); have ET3 := Lib.hid et3; have EO3 := Lib.hid eo3; have HO3 := Lib.hid ho3; have HC3 := Lib.hid hc3; have HQ3 := Lib.hid hq3; clear x0 x1 x2 x3 xf0 xf1 xf2 xf3 xlt; have x0 : w3.cell? ⟨w1.heap.size, 0, none⟩ = some (.int .i64 0) := BX3.out.cell 0; have xf0 : w3.frozen? ⟨w1.heap.size, 0, none⟩ = false := BX3.out.free 0; have x1 : w3.cell? ⟨w1.heap.size, 1, none⟩ = some (.int .i64 5) := BX3.out.cell 1; have xf1 : w3.frozen? ⟨w1.heap.size, 1, none⟩ = false := BX3.out.free 1; have x2 : w3.cell? ⟨w1.heap.size, 2, none⟩ = some (.int .i64 (-1)) := BX3.out.cell 2; have xf2 : w3.frozen? ⟨w1.heap.size, 2, none⟩ = false := BX3.out.free 2; have x3 : w3.cell? ⟨w1.heap.size, 3, none⟩ = some (.slice p M c) := BX3.out.cell 3; have xf3 : w3.frozen? ⟨w1.heap.size, 3, none⟩ = false := BX3.out.free 3; have xlt := BX3.out.lt; clear et3 eo3 ho3 hc3 hq3 hr3 b3 HJ)
              have HX2 := Lib.hid (BoxL.fill (.int .i64 0) (.int .i64 5) (.int .i64 6) (.slice p3 0 c3) BX3.out)
              obtain ⟨v6, hv6⟩ : ∃ V, ((World.setCell (World.setCell (World.setCell (World.setCell w3 ⟨w1.heap.size, 0, none⟩ (.int .i64 0)) ⟨w1.heap.size, 1, none⟩ (.int .i64 5)) ⟨w1.heap.size, 2, none⟩ (.int .i64 6)) ⟨w1.heap.size, 3, none⟩ (.slice p3 0 c3))).alloc (.cells #[.int .i64 0, .int .i64 5, .int .i64 6, .slice p3 0 c3] 24) = V := ⟨_, rfl⟩
              have B6 : Hid (Below w.heap.size w v6) := Lib.hid (by rw [← hv6]; exact (HX2.out.below _ _ B3.out B1.out.size).alloc (HX2.out.below _ _ B3.out B1.out.size).size _)
              have BX6 : Hid (IsRow v6 w1.heap.size 24 #[.int .i64 0, .int .i64 5, .int .i64 6, .slice p3 0 c3]) := Lib.hid (by rw [← hv6]; exact HX2.out.row.alloc _)
              have OC6 : Hid (OwnCks wr.heap.size v6 (.slice p3 0 c3) ws3) := Lib.hid (by rw [← hv6]; exact OwnRow.alloc (HX2.out.own HC3.out ty_lc) _)
              have OQ6 : Hid (Owns wr.heap.size v6 ws3) := Lib.hid (by rw [← hv6]; exact Owns.call (fun y hy => HX2.out.own (HQ3.out y hy) ty_lu) ((Below.refl _ _).alloc (Nat.le_refl _) _))
              have HAL6 : Hid (∀ (b o : Nat) (u : Value), w3.cell? ⟨b, o, none⟩ = some u → b ≠ w1.heap.size → v6.cell? ⟨b, o, none⟩ = some u) := Lib.hid (fun b o u h hn => by
                rw [← hv6]
                have h1 := HX2.out.cell h hn
                have hl := World.block_lt_of_cell? _ _ h1
                exact (((Below.refl _ _).alloc (Nat.le_refl _) (.cells #[.int .i64 0, .int .i64 5, .int .i64 6, .slice p3 0 c3] 24)).cell (p := ⟨b, o, none⟩) hl).trans h1)
              have HBY6 : Hid (∀ v l, BytesIs w3 v l → BytesIs v6 v l) := Lib.hid (fun v l h => by rw [← hv6]; exact (HX2.out.bytes h).alloc _)
              rw [hv6]
              clear hv6 x0 x1 x2 x3 xf0 xf1 xf2 xf3 xlt
              go_loopw [8, 13] (fun x8 x13 wz => ∃ (k : Nat) (s2 : List UInt8), x8 = .string ⟨s2.toArray⟩ ∧ x13 = .int .i64 (k : Int) ∧ k ≤ M ∧ Hid (s2 = se ++ (W.take k).flatten) ∧ Hid (v6 = wz)) (fun _ i _ => M - (intOf i).toNat)
              case atStart => exact ⟨0, se, rfl, rfl, Nat.zero_le _, Lib.hid (by simp), Lib.hid rfl⟩
              case round =>
                obtain ⟨k, s2, rfl, rfl, hk, HS2, HV6⟩ := hrel
                obtain rfl := HV6.out
                have hM4 : M ≤ 4 := by have := (asked_parts HMAY.out).1; have := HWM.out; omega
                by_cases hlt : k < M
                · have hji : (k : Int) < (M : Int) := by omega
                  have HK2 : Hid (k + 1 ≤ M) := Lib.hid hlt
                  have hkW : k < W.length := by rw [HWM.out]; exact hlt
                  obtain ⟨bo, oo, rfl, hbo, hco⟩ := outs_at HO3.out EO3.out (by rw [List.length_map]; omega)
                  obtain ⟨zv, z0, z1, z7, zH⟩ := hco k (by rw [List.length_map]; exact hkW)
                  obtain ⟨zp, zc, ze⟩ := zH.form
                  have hwk : ((W.map (sendO 6))[k]'(by rw [List.length_map]; exact hkW)).b = W[k] := by simp [sendO]
                  rw [hwk] at zH ze
                  have z76 := HAL6.out _ _ _ z7 (HX2.out.ne z7)
                  have cz6 := str_of_bytes (HBY6.out _ _ zH)
                  have HS3 : Hid ((se ++ (W.take k).flatten) ++ W[k] = se ++ (W.take (k + 1)).flatten) := Lib.hid (take_flat hkW se).symm
                  have hsum : ¬ 9223372036854775807 < s2.length + (W[k]).length := by
                    have h1 := congrArg List.length HS2.out
                    have h2 := congrArg List.length HS3.out
                    have h3 := flat_len (W := W.take (k + 1)) (fun b hb => HWB.out b (List.mem_of_mem_take hb))
                    have h4 := congrArg List.length HEQ.out
                    have h5 := HAL.out
                    have h6 := HN10.out
                    have h7 : (W.take (k + 1)).length ≤ k + 1 := by rw [List.length_take]; omega
                    have h8 := (asked_parts HMAY.out).1
                    simp only [List.length_append] at h1 h2 h4
                    omega
                  generalize W[k] = zw at *
                  rw [ze] at z76 cz6
                  obtain ⟨NW, hNW⟩ : ∃ m, zw.length = m := ⟨_, rfl⟩
                  have HNW := Lib.hid hNW
                  clear hco z0 z1 z7 zH ze hwk hkW hNW
                  go_wp2_with fail
                  go_roundw
                  case rel => exact ⟨k + 1, s2 ++ zw, by first | rfl | (simp; done), by go_num, HK2.out, Lib.hid (by rw [HS2.out]; exact HS3.out), Lib.hid (by trivial)⟩
                  case measure => have := HK2.out; simp [intOf]; omega
                · have hji : ¬ (k : Int) < (M : Int) := by omega
                  have hs2 : al = s2 := by
                    rw [HS2.out, List.take_of_length_le (by have := HWM.out; omega)]
                    exact HEQ.out.symm
                  subst hs2
                  have HEQ2 : Hid (al ++ ([] : List (List UInt8)).flatten = al) := Lib.hid (by simp)
                  have SEL : Hid (al.length ≤ 1000) := Lib.hid (by have := HAL.out; have := HN10.out; omega)
                  have WX6 : Hid (RowIs chunks v6 (.slice p3 0 c3) ws3) := Lib.hid (OC6.out.row OQ6.out.ok)
                  have HTI : Hid (at_ ≤ i) := Lib.hid (by have := HIE.out; omega)
                  have OKX : Hid (okL (⟨0, 5, 6, .slice p3 0 c3, ws3⟩ : Lk).p) := Lib.hid (by show okL ⟨0, 5, 6, texts ws3⟩; rw [ET3.out]; exact okL_nil 0 5 6)
                  have x0 : v6.cell? ⟨w1.heap.size, 0, none⟩ = some (.int .i64 0) := BX6.out.cell 0; have xf0 : v6.frozen? ⟨w1.heap.size, 0, none⟩ = false := BX6.out.free 0; have x1 : v6.cell? ⟨w1.heap.size, 1, none⟩ = some (.int .i64 5) := BX6.out.cell 1; have xf1 : v6.frozen? ⟨w1.heap.size, 1, none⟩ = false := BX6.out.free 1; have x2 : v6.cell? ⟨w1.heap.size, 2, none⟩ = some (.int .i64 6) := BX6.out.cell 2; have xf2 : v6.frozen? ⟨w1.heap.size, 2, none⟩ = false := BX6.out.free 2; have x3 : v6.cell? ⟨w1.heap.size, 3, none⟩ = some (.slice p3 0 c3) := BX6.out.cell 3; have xf3 : v6.frozen? ⟨w1.heap.size, 3, none⟩ = false := BX6.out.free 3; have xlt := BX6.out.lt
                  clear hk hlt
                  by_cases hin : i < n
                  · have hnl : ((i : Int) == (n : Int)) = false := by rw [beq_eq_false_iff_ne]; omega
                    have HK : Hid (i + 1 ≤ n) := Lib.hid hin
                    have hkl : i < s0.length := by rw [← HN.out]; exact hin
                    have HCW0 := y0.out.1 (s0[i]'hkl) (List.getElem_mem hkl)
                    obtain ⟨b1, o1, rfl, hb1, hc1⟩ := y0.out.some (by omega)
                    have a000 : w.cell? ⟨b1, o1 + i, none⟩ = some ((s0[i]'hkl).v) := by
                      have := (hc1 i hkl).2 0 (by decide)
                      simpa using this
                    clear hc1
                    generalize s0[i]'hkl = zx at *
                    obtain ⟨zv, zb⟩ := zx
                    simp only at a000
                    replace HCW0 : BytesIs w zv zb := HCW0
                    obtain ⟨pz, cz, hz⟩ := HCW0.form
                    subst hz
                    obtain ⟨NZ, hNZ0⟩ : ∃ m, zb.length = m := ⟨_, rfl⟩
                    rw [hNZ0] at a000 HCW0
                    have HCW := Lib.hid HCW0
                    have a00 := Lib.hid a000
                    have hNZ := Lib.hid hNZ0
                    clear hNZ0 HCW0 a000
                    by_cases h100 : 100 < NZ
                    · have h100' : (NZ : Int) > 100 := by omega
                      have a0 : v6.cell? ⟨b1, o1 + i, none⟩ = some (.slice pz NZ cz) := (B6.out.cell (p := ⟨b1, o1 + i, none⟩) hb1).trans a00.out
                      have hb1' : b1 < v6.heap.size := Nat.lt_of_lt_of_le hb1 B6.out.size
                      go_wp2_with fail
                      go_ret
                      exact ⟨by first | rfl | (simp; done), B6.out⟩
                    · have h100' : ¬ (NZ : Int) > 100 := by omega
                      have HZL : Hid (zb.length ≤ 1000000) := Lib.hid (by have := hNZ.out; omega)
                      have HZ100 : Hid (zb.length ≤ 100) := Lib.hid (by have := hNZ.out; omega)
                      obtain ⟨os, hos⟩ := there_told zb
                      have HOS := Lib.hid hos
                      obtain ⟨N2, hN2⟩ : ∃ m, os.length = m := ⟨_, rfl⟩
                      have HN2 := Lib.hid hN2
                      clear hos hN2 h100
                      have HCA := Lib.hid (fun W' (h : RowIs chunks W' (.slice p3 0 c3) ws3) (hd : BytesIs W' (.slice pz NZ cz) zb) => carry_own ⟨0, 5, 6, .slice p3 0 c3, ws3⟩ 5 (.slice pz NZ cz) zb 0 5 6 [] os true 0 N2 (by show carryL ⟨0, 5, 6, texts ws3⟩ 5 zb = _; rw [ET3.out]; exact HOS.out.1) rfl HN2.out OKX.out W' h HZL.out hd)
                      have a0 : v6.cell? ⟨b1, o1 + i, none⟩ = some (.slice pz NZ cz) := (B6.out.cell (p := ⟨b1, o1 + i, none⟩) hb1).trans a00.out
                      have hb1' : b1 < v6.heap.size := Nat.lt_of_lt_of_le hb1 B6.out.size
                      go_wp2_with fail
                      have klt : w1.heap.size < v6.drew.heap.size := BX6.out.lt
                      have klt9 : w1.heap.size < v6.heap.size := BX6.out.lt
                      have xd0 : v6.drew.cell? ⟨w1.heap.size, 0, none⟩ = some (.int .i64 0) := BX6.out.cell 0
                      have xd1 : v6.drew.cell? ⟨w1.heap.size, 1, none⟩ = some (.int .i64 5) := BX6.out.cell 1
                      have xd2 : v6.drew.cell? ⟨w1.heap.size, 2, none⟩ = some (.int .i64 6) := BX6.out.cell 2
                      have xd3 : v6.drew.cell? ⟨w1.heap.size, 3, none⟩ = some (.slice p3 0 c3) := BX6.out.cell 3
                      replace a0 : v6.drew.cell? ⟨b1, o1 + i, none⟩ = some (.slice pz NZ cz) := a0
                      have hb1d : b1 < v6.drew.heap.size := hb1'
                      have a09 : v6.cell? ⟨b1, o1 + i, none⟩ = some (.slice pz NZ cz) := a0
                      apply via
                      case f =>
                        intro hkey
                        go_region_law (go_simp; go_at_call 10; refine (HCA.out _ (WX6.out.call (by first | exact (Below.refl v6.heap.size v6).drew | exact ((Below.refl v6.heap.size v6).alloc (Nat.le_refl _) (.cells #[.int .i64 0, .int .i64 0, .int .i64 0, .slice none 0 0] 24)).drew)) ((HCW.out.call B6.out).call (by first | exact (Below.refl v6.heap.size v6).drew | exact ((Below.refl v6.heap.size v6).alloc (Nat.le_refl _) (.cells #[.int .i64 0, .int .i64 0, .int .i64 0, .slice none 0 0] 24)).drew))).mono ?_; rintro e w4 ⟨⟨p4, c4, ws4, q4, k4, os4, rfl, et4, hr4, eo4, ho4, hc4, hq4⟩, b4⟩; have bd : Below v6.heap.size v6 w4 := (by first | exact dbelow (Below.refl v6.heap.size v6).drew b4 | exact dbelow ((Below.refl v6.heap.size v6).alloc (Nat.le_refl _) (.cells #[.int .i64 0, .int .i64 0, .int .i64 0, .slice none 0 0] 24)).drew b4); have BX4 := Lib.hid (BX6.out.call bd); have B4 := Lib.hid (B6.out.trans (bd.mono B6.out.size)); have ET4 := Lib.hid et4; have EO4 := Lib.hid eo4; have HO4 := Lib.hid ho4; have HC4 : Hid (OwnCks v6.heap.size w4 (.slice p4 0 c4) ws4) := Lib.hid (hc4.mono (by first | exact Nat.le_refl _ | exact Nat.le_succ _ | (simp [World.drew]; done) | (simp [World.drew]; omega))); have HQ4 : Hid (Owns v6.heap.size w4 ws4) := Lib.hid (hq4.mono (by first | exact Nat.le_refl _ | exact Nat.le_succ _ | (simp [World.drew]; done) | (simp [World.drew]; omega))); have klt4 := BX4.out.lt; have hb4 : b1 < w4.heap.size := Nat.lt_of_lt_of_le hb1 B4.out.size; (try (have RZ0 : IsRow w4 v6.heap.size 24 #[.int .i64 0, .int .i64 0, .int .i64 0, .slice none 0 0] := (IsRow.made v6 24 #[.int .i64 0, .int .i64 0, .int .i64 0, .slice none 0 0]).drew.call b4; have RZ := Lib.hid RZ0; have zz0 : w4.cell? ⟨v6.heap.size, 0, none⟩ = some (.int .i64 0) := RZ0.cell 0; have zzf0 : w4.frozen? ⟨v6.heap.size, 0, none⟩ = false := RZ0.free 0; have zz1 : w4.cell? ⟨v6.heap.size, 1, none⟩ = some (.int .i64 0) := RZ0.cell 1; have zzf1 : w4.frozen? ⟨v6.heap.size, 1, none⟩ = false := RZ0.free 1; have zz2 : w4.cell? ⟨v6.heap.size, 2, none⟩ = some (.int .i64 0) := RZ0.cell 2; have zzf2 : w4.frozen? ⟨v6.heap.size, 2, none⟩ = false := RZ0.free 2; have zz3 : w4.cell? ⟨v6.heap.size, 3, none⟩ = some (.slice none 0 0) := RZ0.cell 3; have zzf3 : w4.frozen? ⟨v6.heap.size, 3, none⟩ = false := RZ0.free 3; have zzlt := RZ0.lt; clear RZ0)); clear et4 eo4 ho4 hc4 hq4 hr4 b4)
                        all_goals (first
                          | (have HX := Lib.hid (BoxL.fill (.int .i64 0) (.int .i64 5) (.int .i64 6) (.slice p4 0 c4) RZ.out)
                             have hne5 : w1.heap.size ≠ v6.heap.size := by omega
                             have hle5 : w.heap.size ≤ v6.heap.size := B6.out.size
                             clear zz0 zz1 zz2 zz3 zzf0 zzf1 zzf2 zzf3 zzlt RZ
                             generalize (World.setCell (World.setCell (World.setCell (World.setCell w4 ⟨v6.heap.size, 0, none⟩ (.int .i64 0)) ⟨v6.heap.size, 1, none⟩ (.int .i64 5)) ⟨v6.heap.size, 2, none⟩ (.int .i64 6)) ⟨v6.heap.size, 3, none⟩ (.slice p4 0 c4)) = v5 at HX ⊢
                             generalize v6.heap.size = KY at HX hne5 hle5 ⊢)
                          | (have HX := Lib.hid (BoxL.new w4 (.int .i64 0) (.int .i64 5) (.int .i64 6) (.slice p4 0 c4))
                             have hne5 : w1.heap.size ≠ w4.heap.size := by omega
                             have hle5 : w.heap.size ≤ w4.heap.size := B4.out.size
                             generalize w4.alloc (.cells #[.int .i64 0, .int .i64 5, .int .i64 6, .slice p4 0 c4] 24) = v5 at HX ⊢
                             generalize w4.heap.size = KY at HX hne5 hle5 ⊢))
                        all_goals (clear bd klt4 hb4; revert hle5; revert hne5; revert HX; revert KY; revert v5; revert HQ4; revert HC4; revert HO4; revert EO4; revert ET4; revert B4; revert BX4; revert os4; revert k4; revert q4; revert ws4; revert c4; revert p4; revert w4; exact hkey.out)
                      case h =>
                        intro w4 p4 c4 ws4 q4 k4 os4 BX4 B4 ET4 EO4 HO4 HC4 HQ4 v5 KY HX hne5 hle5
                        clear x0 x1 x2 x3 xf0 xf1 xf2 xf3 xlt xd0 xd1 xd2 xd3 a0 a09 hb1d klt9 HCA
                        have BX5 := Lib.hid (HX.out.rows BX4.out hne5)
                        have BY5 := Lib.hid HX.out.row
                        have B5 := Lib.hid (HX.out.below _ _ B4.out hle5)
                        have x0 : v5.cell? ⟨w1.heap.size, 0, none⟩ = some (.int .i64 0) := BX5.out.cell 0; have xf0 : v5.frozen? ⟨w1.heap.size, 0, none⟩ = false := BX5.out.free 0; have x1 : v5.cell? ⟨w1.heap.size, 1, none⟩ = some (.int .i64 5) := BX5.out.cell 1; have xf1 : v5.frozen? ⟨w1.heap.size, 1, none⟩ = false := BX5.out.free 1; have x2 : v5.cell? ⟨w1.heap.size, 2, none⟩ = some (.int .i64 6) := BX5.out.cell 2; have xf2 : v5.frozen? ⟨w1.heap.size, 2, none⟩ = false := BX5.out.free 2; have x3 : v5.cell? ⟨w1.heap.size, 3, none⟩ = some (.slice p3 0 c3) := BX5.out.cell 3; have xf3 : v5.frozen? ⟨w1.heap.size, 3, none⟩ = false := BX5.out.free 3; have xlt := BX5.out.lt
                        have y0 : v5.cell? ⟨KY, 0, none⟩ = some (.int .i64 0) := BY5.out.cell 0; have yf0 : v5.frozen? ⟨KY, 0, none⟩ = false := BY5.out.free 0; have y1 : v5.cell? ⟨KY, 1, none⟩ = some (.int .i64 5) := BY5.out.cell 1; have yf1 : v5.frozen? ⟨KY, 1, none⟩ = false := BY5.out.free 1; have y2 : v5.cell? ⟨KY, 2, none⟩ = some (.int .i64 6) := BY5.out.cell 2; have yf2 : v5.frozen? ⟨KY, 2, none⟩ = false := BY5.out.free 2; have y3 : v5.cell? ⟨KY, 3, none⟩ = some (.slice p4 0 c4) := BY5.out.cell 3; have yf3 : v5.frozen? ⟨KY, 3, none⟩ = false := BY5.out.free 3; have ylt := BY5.out.lt
                        rcases HOS.out.2 with ⟨hz, ho⟩ | ho
                        · subst ho
                          obtain rfl : N2 = 0 := by rw [← HN2.out]; rfl
                          have HZN := Lib.hid hz
                          clear hz
                          have HX2 := Lib.hid (BoxL.fill (.int .i64 0) (.int .i64 5) (.int .i64 6) (.slice p4 0 c4) BX5.out)
                          have B6 := Lib.hid (HX2.out.below _ _ B5.out B1.out.size)
                          have BX6 := Lib.hid HX2.out.row
                          have OC6 := Lib.hid (HX2.out.own (HX.out.own HC4.out ty_lc) ty_lc)
                          have OQ6 := Lib.hid (fun y hy => HX2.out.own (HX.out.own (HQ4.out y hy) ty_lu) ty_lu)
                          have a06 : (World.setCell (World.setCell (World.setCell (World.setCell v5 ⟨w1.heap.size, 0, none⟩ (.int .i64 0)) ⟨w1.heap.size, 1, none⟩ (.int .i64 5)) ⟨w1.heap.size, 2, none⟩ (.int .i64 6)) ⟨w1.heap.size, 3, none⟩ (.slice p4 0 c4)).cell? ⟨b1, o1 + i, none⟩ = some (.slice pz NZ cz) := (B6.out.cell (p := ⟨b1, o1 + i, none⟩) hb1).trans a00.out
                          have cv6 := str_of_bytes (HCW.out.call B6.out)
                          have hsum : ¬ 9223372036854775807 < al.length + zb.length := by have := HAL.out; have := hNZ.out; have := HN10.out; omega
                          go_wp2_with fail
                          refine wp_loop_rounds 1 ?_
                          rw [rounds_succ]
                          go_wp2_with fail
                          go_roundw
                          case rel => exact ⟨i + 1, 6, [], al ++ zb, al, p4, 0, c4, ws4, by first | rfl | (simp; done), by first | rfl | (simp; done), by go_num, HK.out, Lib.hid (Or.inr ⟨by have := HTI.out; omega, rfl, rfl⟩), Lib.hid (there_may), Lib.hid (by rw [HZN.out, List.append_nil]; exact HEQ2.out), Lib.hid (by rw [List.length_append]; have := HAL.out; have := hNZ.out; omega), Lib.hid (fun _ h => by cases h), Lib.hid (rfl), ET4, BX6, Lib.hid (OwnRow.row (show OwnCks _ _ _ ws4 from OC6.out) (Owns.ok (show Owns _ _ ws4 from OQ6.out))), B6⟩
                          case measure => simp [intOf]; omega
                        · subst ho
                          obtain rfl : N2 = 1 := by rw [← HN2.out]; rfl
                          have HX2 := Lib.hid (BoxL.fill (.int .i64 0) (.int .i64 5) (.int .i64 6) (.slice p4 0 c4) BX5.out)
                          have B6 := Lib.hid (HX2.out.below _ _ B5.out B1.out.size)
                          have BX6 := Lib.hid HX2.out.row
                          have OC6 := Lib.hid (HX2.out.own (HX.out.own HC4.out ty_lc) ty_lc)
                          have OQ6 := Lib.hid (fun y hy => HX2.out.own (HX.out.own (HQ4.out y hy) ty_lu) ty_lu)
                          have a06 : (World.setCell (World.setCell (World.setCell (World.setCell v5 ⟨w1.heap.size, 0, none⟩ (.int .i64 0)) ⟨w1.heap.size, 1, none⟩ (.int .i64 5)) ⟨w1.heap.size, 2, none⟩ (.int .i64 6)) ⟨w1.heap.size, 3, none⟩ (.slice p4 0 c4)).cell? ⟨b1, o1 + i, none⟩ = some (.slice pz NZ cz) := (B6.out.cell (p := ⟨b1, o1 + i, none⟩) hb1).trans a00.out
                          have cv6 := str_of_bytes (HCW.out.call B6.out)
                          have hsum : ¬ 9223372036854775807 < al.length + zb.length := by have := HAL.out; have := hNZ.out; have := HN10.out; omega
                          obtain ⟨bo, oo, rfl, hbo, hco⟩ := outs_at HO4.out EO4.out (by simp)
                          obtain ⟨zv, z0, z1, z7, zH⟩ := hco 0 (by simp)
                          obtain ⟨zp, zc, ze⟩ := zH.form
                          rw [ze] at z7 zH
                          replace z0 : w4.cell? ⟨bo, oo, none⟩ = some (.int .i64 0) := (by simpa [shutO, sendO] using z0)
                          replace z1 : w4.cell? ⟨bo, oo + 1, none⟩ = some (.int .i64 6) := (by simpa [shutO, sendO] using z1)
                          replace z7 : w4.cell? ⟨bo, oo + 7, none⟩ = some (.slice zp NZ zc) := (by simpa [shutO, sendO, hNZ.out] using z7)
                          have zB : BytesIs w4 (.slice zp NZ zc) zb := (by simpa [shutO, sendO, hNZ.out] using zH)
                          clear zH ze
                          have nK := HX.out.ne z7
                          have z05 := HX.out.cell z0 nK
                          have z15 := HX.out.cell z1 nK
                          have z75 := HX.out.cell z7 nK
                          have nK2 := HX2.out.ne z75
                          have z06 := HX2.out.cell z05 nK2
                          have z16 := HX2.out.cell z15 nK2
                          have z76 := HX2.out.cell z75 nK2
                          have cz6 := str_of_bytes (HX2.out.bytes (HX.out.bytes zB))
                          have hsum2 : ¬ 9223372036854775807 < al.length + zb.length := by have := HAL.out; have := hNZ.out; have := HN10.out; have := SEL.out; omega
                          clear hco z0 z1 z7 zB z05 z15 z75 nK nK2
                          go_wp2_with fail
                          refine wp_loop_rounds 2 ?_
                          rw [rounds_succ]
                          go_wp2_with fail
                          rw [rounds_succ]
                          go_wp2_with fail
                          go_roundw
                          case rel => exact ⟨i + 1, 6, [], al ++ zb, (al ++ zb), p4, 0, c4, ws4, by first | rfl | (simp; done), by first | rfl | (simp; done), by go_num, HK.out, Lib.hid (Or.inr ⟨by have := HTI.out; omega, rfl, rfl⟩), Lib.hid (there_may), Lib.hid (by have h := HEQ2.out; simp only [List.flatten_nil, List.append_nil] at h ⊢ <;> rw [h]), Lib.hid (by rw [List.length_append]; have := HAL.out; have := hNZ.out; omega), Lib.hid (fun _ h => by cases h), Lib.hid (rfl), ET4, BX6, Lib.hid (OwnRow.row (show OwnCks _ _ _ ws4 from OC6.out) (Owns.ok (show Owns _ _ ws4 from OQ6.out))), B6⟩
                          case measure => simp [intOf]; omega
                  · have hnl : ((i : Int) == (n : Int)) = true := by rw [beq_iff_eq]; omega
                    have ess : (al == al) = true := by simp
                    have HME := Lib.hid (may_any ⟨0, 5, 6, .slice p3 0 c3, ws3⟩ true (by show mayL ⟨0, 5, 6, texts ws3⟩ = true; rw [ET3.out]; rfl) v6 WX6.out)
                    go_wp2_with (go_at_call 20; refine HME.out.mono ?_; rintro e w9 ⟨rfl, b9⟩; have B9 := Lib.hid (B6.out.trans (b9.mono B6.out.size)); clear b9 HME)
                    go_ret
                    exact ⟨by first | rfl | (simp; done), B9.out⟩
            · have hne : ((i : Int) == (at_ : Int)) = false := by rw [beq_eq_false_iff_ne]; omega
              have HLT : Hid (i < at_) := Lib.hid (by omega)
              have hin : i < n := by have := HAN.out; omega
              have hnl : ((i : Int) == (n : Int)) = false := by rw [beq_eq_false_iff_ne]; omega
              have HK : Hid (i + 1 ≤ n) := Lib.hid hin
              clear hie hia
              have hkl : i < s0.length := by rw [← HN.out]; exact hin
              have HCW0 := y0.out.1 (s0[i]'hkl) (List.getElem_mem hkl)
              obtain ⟨b1, o1, rfl, hb1, hc1⟩ := y0.out.some (by omega)
              have a000 : w.cell? ⟨b1, o1 + i, none⟩ = some ((s0[i]'hkl).v) := by
                have := (hc1 i hkl).2 0 (by decide)
                simpa using this
              clear hc1
              generalize s0[i]'hkl = zx at *
              obtain ⟨zv, zb⟩ := zx
              simp only at a000
              replace HCW0 : BytesIs w zv zb := HCW0
              obtain ⟨pz, cz, hz⟩ := HCW0.form
              subst hz
              obtain ⟨NZ, hNZ0⟩ : ∃ m, zb.length = m := ⟨_, rfl⟩
              rw [hNZ0] at a000 HCW0
              have HCW := Lib.hid HCW0
              have a00 := Lib.hid a000
              have hNZ := Lib.hid hNZ0
              clear hNZ0 HCW0 a000
              by_cases h100 : 100 < NZ
              · have h100' : (NZ : Int) > 100 := by omega
                have a0 : wr.cell? ⟨b1, o1 + i, none⟩ = some (.slice pz NZ cz) := (B30.out.cell (p := ⟨b1, o1 + i, none⟩) hb1).trans a00.out
                have hb1' : b1 < wr.heap.size := Nat.lt_of_lt_of_le hb1 B30.out.size
                go_wp2_with fail
                go_ret
                exact ⟨by first | rfl | (simp; done), B30.out⟩
              · have h100' : ¬ (NZ : Int) > 100 := by omega
                have HZL : Hid (zb.length ≤ 1000000) := Lib.hid (by have := hNZ.out; omega)
                have HZ100 : Hid (zb.length ≤ 100) := Lib.hid (by have := hNZ.out; omega)
                obtain ⟨yw, cr, hyw⟩ := asked_told HMAY.out HWB.out HZ100.out
                have HYW := Lib.hid hyw
                obtain ⟨M2, hM2⟩ : ∃ m, yw.length = m := ⟨_, rfl⟩
                have HM2 := Lib.hid hM2
                clear hyw hM2 h100
                have HCA := Lib.hid (fun W' (h : RowIs chunks W' (.slice p M c) ws) (hd : BytesIs W' (.slice pz NZ cz) zb) => carry_own ⟨0, 5, (-1), .slice p M c, ws⟩ 5 (.slice pz NZ cz) zb 0 5 (-1) yw [] cr M2 0 (by show carryL ⟨0, 5, -1, texts ws⟩ 5 zb = _; rw [HTW.out]; exact HYW.out.1) HM2.out rfl OKX.out W' h HZL.out hd)
                have a0 : wr.cell? ⟨b1, o1 + i, none⟩ = some (.slice pz NZ cz) := (B30.out.cell (p := ⟨b1, o1 + i, none⟩) hb1).trans a00.out
                have hb1' : b1 < wr.heap.size := Nat.lt_of_lt_of_le hb1 B30.out.size
                go_wp2_with fail
                have klt : w1.heap.size < wr.drew.heap.size := BX30.out.lt
                have klt9 : w1.heap.size < wr.heap.size := BX30.out.lt
                have xd0 : wr.drew.cell? ⟨w1.heap.size, 0, none⟩ = some (.int .i64 0) := BX30.out.cell 0
                have xd1 : wr.drew.cell? ⟨w1.heap.size, 1, none⟩ = some (.int .i64 5) := BX30.out.cell 1
                have xd2 : wr.drew.cell? ⟨w1.heap.size, 2, none⟩ = some (.int .i64 (-1)) := BX30.out.cell 2
                have xd3 : wr.drew.cell? ⟨w1.heap.size, 3, none⟩ = some (.slice p M c) := BX30.out.cell 3
                replace a0 : wr.drew.cell? ⟨b1, o1 + i, none⟩ = some (.slice pz NZ cz) := a0
                have hb1d : b1 < wr.drew.heap.size := hb1'
                have a09 : wr.cell? ⟨b1, o1 + i, none⟩ = some (.slice pz NZ cz) := a0
                apply via
                case f =>
                  intro hkey
                  go_region_law (go_simp; go_at_call 10; refine (HCA.out _ (WX30.out.call (by first | exact (Below.refl wr.heap.size wr).drew | exact ((Below.refl wr.heap.size wr).alloc (Nat.le_refl _) (.cells #[.int .i64 0, .int .i64 0, .int .i64 0, .slice none 0 0] 24)).drew)) ((HCW.out.call B30.out).call (by first | exact (Below.refl wr.heap.size wr).drew | exact ((Below.refl wr.heap.size wr).alloc (Nat.le_refl _) (.cells #[.int .i64 0, .int .i64 0, .int .i64 0, .slice none 0 0] 24)).drew))).mono ?_; rintro e w4 ⟨⟨p4, c4, ws4, q4, k4, os4, rfl, et4, hr4, eo4, ho4, hc4, hq4⟩, b4⟩; have bd : Below wr.heap.size wr w4 := (by first | exact dbelow (Below.refl wr.heap.size wr).drew b4 | exact dbelow ((Below.refl wr.heap.size wr).alloc (Nat.le_refl _) (.cells #[.int .i64 0, .int .i64 0, .int .i64 0, .slice none 0 0] 24)).drew b4); have BX4 := Lib.hid (BX30.out.call bd); have B4 := Lib.hid (B30.out.trans (bd.mono B30.out.size)); have ET4 := Lib.hid et4; have EO4 := Lib.hid eo4; have HO4 := Lib.hid ho4; have HC4 : Hid (OwnCks wr.heap.size w4 (.slice p4 M2 c4) ws4) := Lib.hid (hc4.mono (by first | exact Nat.le_refl _ | exact Nat.le_succ _ | (simp [World.drew]; done) | (simp [World.drew]; omega))); have HQ4 : Hid (Owns wr.heap.size w4 ws4) := Lib.hid (hq4.mono (by first | exact Nat.le_refl _ | exact Nat.le_succ _ | (simp [World.drew]; done) | (simp [World.drew]; omega))); have klt4 := BX4.out.lt; have hb4 : b1 < w4.heap.size := Nat.lt_of_lt_of_le hb1 B4.out.size; (try (have RZ0 : IsRow w4 wr.heap.size 24 #[.int .i64 0, .int .i64 0, .int .i64 0, .slice none 0 0] := (IsRow.made wr 24 #[.int .i64 0, .int .i64 0, .int .i64 0, .slice none 0 0]).drew.call b4; have RZ := Lib.hid RZ0; have zz0 : w4.cell? ⟨wr.heap.size, 0, none⟩ = some (.int .i64 0) := RZ0.cell 0; have zzf0 : w4.frozen? ⟨wr.heap.size, 0, none⟩ = false := RZ0.free 0; have zz1 : w4.cell? ⟨wr.heap.size, 1, none⟩ = some (.int .i64 0) := RZ0.cell 1; have zzf1 : w4.frozen? ⟨wr.heap.size, 1, none⟩ = false := RZ0.free 1; have zz2 : w4.cell? ⟨wr.heap.size, 2, none⟩ = some (.int .i64 0) := RZ0.cell 2; have zzf2 : w4.frozen? ⟨wr.heap.size, 2, none⟩ = false := RZ0.free 2; have zz3 : w4.cell? ⟨wr.heap.size, 3, none⟩ = some (.slice none 0 0) := RZ0.cell 3; have zzf3 : w4.frozen? ⟨wr.heap.size, 3, none⟩ = false := RZ0.free 3; have zzlt := RZ0.lt; clear RZ0)); clear et4 eo4 ho4 hc4 hq4 hr4 b4)
                  all_goals (first
                    | (have HX := Lib.hid (BoxL.fill (.int .i64 0) (.int .i64 5) (.int .i64 (-1)) (.slice p4 M2 c4) RZ.out)
                       have hne5 : w1.heap.size ≠ wr.heap.size := by omega
                       have hle5 : w.heap.size ≤ wr.heap.size := B30.out.size
                       clear zz0 zz1 zz2 zz3 zzf0 zzf1 zzf2 zzf3 zzlt RZ
                       generalize (World.setCell (World.setCell (World.setCell (World.setCell w4 ⟨wr.heap.size, 0, none⟩ (.int .i64 0)) ⟨wr.heap.size, 1, none⟩ (.int .i64 5)) ⟨wr.heap.size, 2, none⟩ (.int .i64 (-1))) ⟨wr.heap.size, 3, none⟩ (.slice p4 M2 c4)) = v5 at HX ⊢
                       generalize wr.heap.size = KY at HX hne5 hle5 ⊢)
                    | (have HX := Lib.hid (BoxL.new w4 (.int .i64 0) (.int .i64 5) (.int .i64 (-1)) (.slice p4 M2 c4))
                       have hne5 : w1.heap.size ≠ w4.heap.size := by omega
                       have hle5 : w.heap.size ≤ w4.heap.size := B4.out.size
                       generalize w4.alloc (.cells #[.int .i64 0, .int .i64 5, .int .i64 (-1), .slice p4 M2 c4] 24) = v5 at HX ⊢
                       generalize w4.heap.size = KY at HX hne5 hle5 ⊢))
                  all_goals (clear bd klt4 hb4; revert hle5; revert hne5; revert HX; revert KY; revert v5; revert HQ4; revert HC4; revert HO4; revert EO4; revert ET4; revert B4; revert BX4; revert os4; revert k4; revert q4; revert ws4; revert c4; revert p4; revert w4; exact hkey.out)
                case h =>
                  intro w4 p4 c4 ws4 q4 k4 os4 BX4 B4 ET4 EO4 HO4 HC4 HQ4 v5 KY HX hne5 hle5
                  clear x0 x1 x2 x3 xf0 xf1 xf2 xf3 xlt xd0 xd1 xd2 xd3 a0 a09 hb1d klt9 HCA
                  have BX5 := Lib.hid (HX.out.rows BX4.out hne5)
                  have BY5 := Lib.hid HX.out.row
                  have B5 := Lib.hid (HX.out.below _ _ B4.out hle5)
                  have x0 : v5.cell? ⟨w1.heap.size, 0, none⟩ = some (.int .i64 0) := BX5.out.cell 0; have xf0 : v5.frozen? ⟨w1.heap.size, 0, none⟩ = false := BX5.out.free 0; have x1 : v5.cell? ⟨w1.heap.size, 1, none⟩ = some (.int .i64 5) := BX5.out.cell 1; have xf1 : v5.frozen? ⟨w1.heap.size, 1, none⟩ = false := BX5.out.free 1; have x2 : v5.cell? ⟨w1.heap.size, 2, none⟩ = some (.int .i64 (-1)) := BX5.out.cell 2; have xf2 : v5.frozen? ⟨w1.heap.size, 2, none⟩ = false := BX5.out.free 2; have x3 : v5.cell? ⟨w1.heap.size, 3, none⟩ = some (.slice p M c) := BX5.out.cell 3; have xf3 : v5.frozen? ⟨w1.heap.size, 3, none⟩ = false := BX5.out.free 3; have xlt := BX5.out.lt
                  have y0 : v5.cell? ⟨KY, 0, none⟩ = some (.int .i64 0) := BY5.out.cell 0; have yf0 : v5.frozen? ⟨KY, 0, none⟩ = false := BY5.out.free 0; have y1 : v5.cell? ⟨KY, 1, none⟩ = some (.int .i64 5) := BY5.out.cell 1; have yf1 : v5.frozen? ⟨KY, 1, none⟩ = false := BY5.out.free 1; have y2 : v5.cell? ⟨KY, 2, none⟩ = some (.int .i64 (-1)) := BY5.out.cell 2; have yf2 : v5.frozen? ⟨KY, 2, none⟩ = false := BY5.out.free 2; have y3 : v5.cell? ⟨KY, 3, none⟩ = some (.slice p4 M2 c4) := BY5.out.cell 3; have yf3 : v5.frozen? ⟨KY, 3, none⟩ = false := BY5.out.free 3; have ylt := BY5.out.lt
                  rcases HYW.out.2 with ⟨ho, hq1, hq2, hq3⟩ | ⟨ho, hq1⟩
                  · subst ho
                    have Q1 := Lib.hid hq1
                    have Q2 := Lib.hid hq2
                    have Q3 := Lib.hid hq3
                    clear hq1 hq2 hq3
                    have HX2 := Lib.hid (BoxL.fill (.int .i64 0) (.int .i64 5) (.int .i64 (-1)) (.slice p4 M2 c4) BX5.out)
                    have B6 := Lib.hid (HX2.out.below _ _ B5.out B1.out.size)
                    have BX6 := Lib.hid HX2.out.row
                    have OC6 := Lib.hid (HX2.out.own (HX.out.own HC4.out ty_lc) ty_lc)
                    have OQ6 := Lib.hid (fun y hy => HX2.out.own (HX.out.own (HQ4.out y hy) ty_lu) ty_lu)
                    have a06 : (World.setCell (World.setCell (World.setCell (World.setCell v5 ⟨w1.heap.size, 0, none⟩ (.int .i64 0)) ⟨w1.heap.size, 1, none⟩ (.int .i64 5)) ⟨w1.heap.size, 2, none⟩ (.int .i64 (-1))) ⟨w1.heap.size, 3, none⟩ (.slice p4 M2 c4)).cell? ⟨b1, o1 + i, none⟩ = some (.slice pz NZ cz) := (B6.out.cell (p := ⟨b1, o1 + i, none⟩) hb1).trans a00.out
                    have cv6 := str_of_bytes (HCW.out.call B6.out)
                    have hsum : ¬ 9223372036854775807 < al.length + zb.length := by have := HAL.out; have := hNZ.out; have := HN10.out; omega
                    go_wp2_with fail
                    refine wp_loop_rounds 1 ?_
                    rw [rounds_succ]
                    go_wp2_with fail
                    go_roundw
                    case rel => exact ⟨i + 1, (-1), yw, al ++ zb, se, p4, M2, c4, ws4, by first | rfl | (simp; done), by first | rfl | (simp; done), by go_num, HK.out, Lib.hid (Or.inl ⟨by have := HLT.out; omega, rfl⟩), Lib.hid (Q1.out), Lib.hid (by rw [Q2.out, ← List.append_assoc, HEQ.out]), Lib.hid (by rw [List.length_append]; have := HAL.out; have := hNZ.out; omega), Lib.hid (Q3.out), Lib.hid (HM2.out), ET4, BX6, Lib.hid (OwnRow.row (show OwnCks _ _ _ ws4 from OC6.out) (Owns.ok (show Owns _ _ ws4 from OQ6.out))), B6⟩
                    case measure => simp [intOf]; omega
                  · subst ho
                    have hw4' : ((M : Int) == 4) = true := by rw [beq_iff_eq]; have := HWM.out; omega
                    clear hq1
                    go_wp2_with fail
                    go_ret
                    exact ⟨by first | rfl | (simp; done), B5.out⟩
          · have OKX : Hid (okL (⟨0, 5, 6, .slice p M c, ws⟩ : Lk).p) := Lib.hid (by show okL ⟨0, 5, 6, texts ws⟩; rw [HTW.out]; exact okL_nil 0 5 6)
            have hne : ((i : Int) == (at_ : Int)) = false := by rw [beq_eq_false_iff_ne]; omega
            have HTI : Hid (at_ ≤ i) := Lib.hid (by omega)
            obtain rfl : M = 0 := by rw [← HWM.out]; rfl
            have SEL := SEL0
            clear hia
            by_cases hin : i < n
            · have hnl : ((i : Int) == (n : Int)) = false := by rw [beq_eq_false_iff_ne]; omega
              have HK : Hid (i + 1 ≤ n) := Lib.hid hin
              have hkl : i < s0.length := by rw [← HN.out]; exact hin
              have HCW0 := y0.out.1 (s0[i]'hkl) (List.getElem_mem hkl)
              obtain ⟨b1, o1, rfl, hb1, hc1⟩ := y0.out.some (by omega)
              have a000 : w.cell? ⟨b1, o1 + i, none⟩ = some ((s0[i]'hkl).v) := by
                have := (hc1 i hkl).2 0 (by decide)
                simpa using this
              clear hc1
              generalize s0[i]'hkl = zx at *
              obtain ⟨zv, zb⟩ := zx
              simp only at a000
              replace HCW0 : BytesIs w zv zb := HCW0
              obtain ⟨pz, cz, hz⟩ := HCW0.form
              subst hz
              obtain ⟨NZ, hNZ0⟩ : ∃ m, zb.length = m := ⟨_, rfl⟩
              rw [hNZ0] at a000 HCW0
              have HCW := Lib.hid HCW0
              have a00 := Lib.hid a000
              have hNZ := Lib.hid hNZ0
              clear hNZ0 HCW0 a000
              by_cases h100 : 100 < NZ
              · have h100' : (NZ : Int) > 100 := by omega
                have a0 : wr.cell? ⟨b1, o1 + i, none⟩ = some (.slice pz NZ cz) := (B30.out.cell (p := ⟨b1, o1 + i, none⟩) hb1).trans a00.out
                have hb1' : b1 < wr.heap.size := Nat.lt_of_lt_of_le hb1 B30.out.size
                go_wp2_with fail
                go_ret
                exact ⟨by first | rfl | (simp; done), B30.out⟩
              · have h100' : ¬ (NZ : Int) > 100 := by omega
                have HZL : Hid (zb.length ≤ 1000000) := Lib.hid (by have := hNZ.out; omega)
                have HZ100 : Hid (zb.length ≤ 100) := Lib.hid (by have := hNZ.out; omega)
                obtain ⟨os, hos⟩ := there_told zb
                have HOS := Lib.hid hos
                obtain ⟨N2, hN2⟩ : ∃ m, os.length = m := ⟨_, rfl⟩
                have HN2 := Lib.hid hN2
                clear hos hN2 h100
                have HCA := Lib.hid (fun W' (h : RowIs chunks W' (.slice p 0 c) ws) (hd : BytesIs W' (.slice pz NZ cz) zb) => carry_own ⟨0, 5, 6, .slice p 0 c, ws⟩ 5 (.slice pz NZ cz) zb 0 5 6 [] os true 0 N2 (by show carryL ⟨0, 5, 6, texts ws⟩ 5 zb = _; rw [HTW.out]; exact HOS.out.1) rfl HN2.out OKX.out W' h HZL.out hd)
                have a0 : wr.cell? ⟨b1, o1 + i, none⟩ = some (.slice pz NZ cz) := (B30.out.cell (p := ⟨b1, o1 + i, none⟩) hb1).trans a00.out
                have hb1' : b1 < wr.heap.size := Nat.lt_of_lt_of_le hb1 B30.out.size
                go_wp2_with fail
                have klt : w1.heap.size < wr.drew.heap.size := BX30.out.lt
                have klt9 : w1.heap.size < wr.heap.size := BX30.out.lt
                have xd0 : wr.drew.cell? ⟨w1.heap.size, 0, none⟩ = some (.int .i64 0) := BX30.out.cell 0
                have xd1 : wr.drew.cell? ⟨w1.heap.size, 1, none⟩ = some (.int .i64 5) := BX30.out.cell 1
                have xd2 : wr.drew.cell? ⟨w1.heap.size, 2, none⟩ = some (.int .i64 6) := BX30.out.cell 2
                have xd3 : wr.drew.cell? ⟨w1.heap.size, 3, none⟩ = some (.slice p 0 c) := BX30.out.cell 3
                replace a0 : wr.drew.cell? ⟨b1, o1 + i, none⟩ = some (.slice pz NZ cz) := a0
                have hb1d : b1 < wr.drew.heap.size := hb1'
                have a09 : wr.cell? ⟨b1, o1 + i, none⟩ = some (.slice pz NZ cz) := a0
                apply via
                case f =>
                  intro hkey
                  go_region_law (go_simp; go_at_call 10; refine (HCA.out _ (WX30.out.call (by first | exact (Below.refl wr.heap.size wr).drew | exact ((Below.refl wr.heap.size wr).alloc (Nat.le_refl _) (.cells #[.int .i64 0, .int .i64 0, .int .i64 0, .slice none 0 0] 24)).drew)) ((HCW.out.call B30.out).call (by first | exact (Below.refl wr.heap.size wr).drew | exact ((Below.refl wr.heap.size wr).alloc (Nat.le_refl _) (.cells #[.int .i64 0, .int .i64 0, .int .i64 0, .slice none 0 0] 24)).drew))).mono ?_; rintro e w4 ⟨⟨p4, c4, ws4, q4, k4, os4, rfl, et4, hr4, eo4, ho4, hc4, hq4⟩, b4⟩; have bd : Below wr.heap.size wr w4 := (by first | exact dbelow (Below.refl wr.heap.size wr).drew b4 | exact dbelow ((Below.refl wr.heap.size wr).alloc (Nat.le_refl _) (.cells #[.int .i64 0, .int .i64 0, .int .i64 0, .slice none 0 0] 24)).drew b4); have BX4 := Lib.hid (BX30.out.call bd); have B4 := Lib.hid (B30.out.trans (bd.mono B30.out.size)); have ET4 := Lib.hid et4; have EO4 := Lib.hid eo4; have HO4 := Lib.hid ho4; have HC4 : Hid (OwnCks wr.heap.size w4 (.slice p4 0 c4) ws4) := Lib.hid (hc4.mono (by first | exact Nat.le_refl _ | exact Nat.le_succ _ | (simp [World.drew]; done) | (simp [World.drew]; omega))); have HQ4 : Hid (Owns wr.heap.size w4 ws4) := Lib.hid (hq4.mono (by first | exact Nat.le_refl _ | exact Nat.le_succ _ | (simp [World.drew]; done) | (simp [World.drew]; omega))); have klt4 := BX4.out.lt; have hb4 : b1 < w4.heap.size := Nat.lt_of_lt_of_le hb1 B4.out.size; (try (have RZ0 : IsRow w4 wr.heap.size 24 #[.int .i64 0, .int .i64 0, .int .i64 0, .slice none 0 0] := (IsRow.made wr 24 #[.int .i64 0, .int .i64 0, .int .i64 0, .slice none 0 0]).drew.call b4; have RZ := Lib.hid RZ0; have zz0 : w4.cell? ⟨wr.heap.size, 0, none⟩ = some (.int .i64 0) := RZ0.cell 0; have zzf0 : w4.frozen? ⟨wr.heap.size, 0, none⟩ = false := RZ0.free 0; have zz1 : w4.cell? ⟨wr.heap.size, 1, none⟩ = some (.int .i64 0) := RZ0.cell 1; have zzf1 : w4.frozen? ⟨wr.heap.size, 1, none⟩ = false := RZ0.free 1; have zz2 : w4.cell? ⟨wr.heap.size, 2, none⟩ = some (.int .i64 0) := RZ0.cell 2; have zzf2 : w4.frozen? ⟨wr.heap.size, 2, none⟩ = false := RZ0.free 2; have zz3 : w4.cell? ⟨wr.heap.size, 3, none⟩ = some (.slice none 0 0) := RZ0.cell 3; have zzf3 : w4.frozen? ⟨wr.heap.size, 3, none⟩ = false := RZ0.free 3; have zzlt := RZ0.lt; clear RZ0)); clear et4 eo4 ho4 hc4 hq4 hr4 b4)
                  all_goals (first
                    | (have HX := Lib.hid (BoxL.fill (.int .i64 0) (.int .i64 5) (.int .i64 6) (.slice p4 0 c4) RZ.out)
                       have hne5 : w1.heap.size ≠ wr.heap.size := by omega
                       have hle5 : w.heap.size ≤ wr.heap.size := B30.out.size
                       clear zz0 zz1 zz2 zz3 zzf0 zzf1 zzf2 zzf3 zzlt RZ
                       generalize (World.setCell (World.setCell (World.setCell (World.setCell w4 ⟨wr.heap.size, 0, none⟩ (.int .i64 0)) ⟨wr.heap.size, 1, none⟩ (.int .i64 5)) ⟨wr.heap.size, 2, none⟩ (.int .i64 6)) ⟨wr.heap.size, 3, none⟩ (.slice p4 0 c4)) = v5 at HX ⊢
                       generalize wr.heap.size = KY at HX hne5 hle5 ⊢)
                    | (have HX := Lib.hid (BoxL.new w4 (.int .i64 0) (.int .i64 5) (.int .i64 6) (.slice p4 0 c4))
                       have hne5 : w1.heap.size ≠ w4.heap.size := by omega
                       have hle5 : w.heap.size ≤ w4.heap.size := B4.out.size
                       generalize w4.alloc (.cells #[.int .i64 0, .int .i64 5, .int .i64 6, .slice p4 0 c4] 24) = v5 at HX ⊢
                       generalize w4.heap.size = KY at HX hne5 hle5 ⊢))
                  all_goals (clear bd klt4 hb4; revert hle5; revert hne5; revert HX; revert KY; revert v5; revert HQ4; revert HC4; revert HO4; revert EO4; revert ET4; revert B4; revert BX4; revert os4; revert k4; revert q4; revert ws4; revert c4; revert p4; revert w4; exact hkey.out)
                case h =>
                  intro w4 p4 c4 ws4 q4 k4 os4 BX4 B4 ET4 EO4 HO4 HC4 HQ4 v5 KY HX hne5 hle5
                  clear x0 x1 x2 x3 xf0 xf1 xf2 xf3 xlt xd0 xd1 xd2 xd3 a0 a09 hb1d klt9 HCA
                  have BX5 := Lib.hid (HX.out.rows BX4.out hne5)
                  have BY5 := Lib.hid HX.out.row
                  have B5 := Lib.hid (HX.out.below _ _ B4.out hle5)
                  have x0 : v5.cell? ⟨w1.heap.size, 0, none⟩ = some (.int .i64 0) := BX5.out.cell 0; have xf0 : v5.frozen? ⟨w1.heap.size, 0, none⟩ = false := BX5.out.free 0; have x1 : v5.cell? ⟨w1.heap.size, 1, none⟩ = some (.int .i64 5) := BX5.out.cell 1; have xf1 : v5.frozen? ⟨w1.heap.size, 1, none⟩ = false := BX5.out.free 1; have x2 : v5.cell? ⟨w1.heap.size, 2, none⟩ = some (.int .i64 6) := BX5.out.cell 2; have xf2 : v5.frozen? ⟨w1.heap.size, 2, none⟩ = false := BX5.out.free 2; have x3 : v5.cell? ⟨w1.heap.size, 3, none⟩ = some (.slice p 0 c) := BX5.out.cell 3; have xf3 : v5.frozen? ⟨w1.heap.size, 3, none⟩ = false := BX5.out.free 3; have xlt := BX5.out.lt
                  have y0 : v5.cell? ⟨KY, 0, none⟩ = some (.int .i64 0) := BY5.out.cell 0; have yf0 : v5.frozen? ⟨KY, 0, none⟩ = false := BY5.out.free 0; have y1 : v5.cell? ⟨KY, 1, none⟩ = some (.int .i64 5) := BY5.out.cell 1; have yf1 : v5.frozen? ⟨KY, 1, none⟩ = false := BY5.out.free 1; have y2 : v5.cell? ⟨KY, 2, none⟩ = some (.int .i64 6) := BY5.out.cell 2; have yf2 : v5.frozen? ⟨KY, 2, none⟩ = false := BY5.out.free 2; have y3 : v5.cell? ⟨KY, 3, none⟩ = some (.slice p4 0 c4) := BY5.out.cell 3; have yf3 : v5.frozen? ⟨KY, 3, none⟩ = false := BY5.out.free 3; have ylt := BY5.out.lt
                  rcases HOS.out.2 with ⟨hz, ho⟩ | ho
                  · subst ho
                    obtain rfl : N2 = 0 := by rw [← HN2.out]; rfl
                    have HZN := Lib.hid hz
                    clear hz
                    have HX2 := Lib.hid (BoxL.fill (.int .i64 0) (.int .i64 5) (.int .i64 6) (.slice p4 0 c4) BX5.out)
                    have B6 := Lib.hid (HX2.out.below _ _ B5.out B1.out.size)
                    have BX6 := Lib.hid HX2.out.row
                    have OC6 := Lib.hid (HX2.out.own (HX.out.own HC4.out ty_lc) ty_lc)
                    have OQ6 := Lib.hid (fun y hy => HX2.out.own (HX.out.own (HQ4.out y hy) ty_lu) ty_lu)
                    have a06 : (World.setCell (World.setCell (World.setCell (World.setCell v5 ⟨w1.heap.size, 0, none⟩ (.int .i64 0)) ⟨w1.heap.size, 1, none⟩ (.int .i64 5)) ⟨w1.heap.size, 2, none⟩ (.int .i64 6)) ⟨w1.heap.size, 3, none⟩ (.slice p4 0 c4)).cell? ⟨b1, o1 + i, none⟩ = some (.slice pz NZ cz) := (B6.out.cell (p := ⟨b1, o1 + i, none⟩) hb1).trans a00.out
                    have cv6 := str_of_bytes (HCW.out.call B6.out)
                    have hsum : ¬ 9223372036854775807 < al.length + zb.length := by have := HAL.out; have := hNZ.out; have := HN10.out; omega
                    go_wp2_with fail
                    refine wp_loop_rounds 1 ?_
                    rw [rounds_succ]
                    go_wp2_with fail
                    go_roundw
                    case rel => exact ⟨i + 1, 6, [], al ++ zb, se, p4, 0, c4, ws4, by first | rfl | (simp; done), by first | rfl | (simp; done), by go_num, HK.out, Lib.hid (Or.inr ⟨by have := HTI.out; omega, rfl, rfl⟩), Lib.hid (there_may), Lib.hid (by rw [HZN.out, List.append_nil]; exact HEQ.out), Lib.hid (by rw [List.length_append]; have := HAL.out; have := hNZ.out; omega), Lib.hid (fun _ h => by cases h), Lib.hid (rfl), ET4, BX6, Lib.hid (OwnRow.row (show OwnCks _ _ _ ws4 from OC6.out) (Owns.ok (show Owns _ _ ws4 from OQ6.out))), B6⟩
                    case measure => simp [intOf]; omega
                  · subst ho
                    obtain rfl : N2 = 1 := by rw [← HN2.out]; rfl
                    have HX2 := Lib.hid (BoxL.fill (.int .i64 0) (.int .i64 5) (.int .i64 6) (.slice p4 0 c4) BX5.out)
                    have B6 := Lib.hid (HX2.out.below _ _ B5.out B1.out.size)
                    have BX6 := Lib.hid HX2.out.row
                    have OC6 := Lib.hid (HX2.out.own (HX.out.own HC4.out ty_lc) ty_lc)
                    have OQ6 := Lib.hid (fun y hy => HX2.out.own (HX.out.own (HQ4.out y hy) ty_lu) ty_lu)
                    have a06 : (World.setCell (World.setCell (World.setCell (World.setCell v5 ⟨w1.heap.size, 0, none⟩ (.int .i64 0)) ⟨w1.heap.size, 1, none⟩ (.int .i64 5)) ⟨w1.heap.size, 2, none⟩ (.int .i64 6)) ⟨w1.heap.size, 3, none⟩ (.slice p4 0 c4)).cell? ⟨b1, o1 + i, none⟩ = some (.slice pz NZ cz) := (B6.out.cell (p := ⟨b1, o1 + i, none⟩) hb1).trans a00.out
                    have cv6 := str_of_bytes (HCW.out.call B6.out)
                    have hsum : ¬ 9223372036854775807 < al.length + zb.length := by have := HAL.out; have := hNZ.out; have := HN10.out; omega
                    obtain ⟨bo, oo, rfl, hbo, hco⟩ := outs_at HO4.out EO4.out (by simp)
                    obtain ⟨zv, z0, z1, z7, zH⟩ := hco 0 (by simp)
                    obtain ⟨zp, zc, ze⟩ := zH.form
                    rw [ze] at z7 zH
                    replace z0 : w4.cell? ⟨bo, oo, none⟩ = some (.int .i64 0) := (by simpa [shutO, sendO] using z0)
                    replace z1 : w4.cell? ⟨bo, oo + 1, none⟩ = some (.int .i64 6) := (by simpa [shutO, sendO] using z1)
                    replace z7 : w4.cell? ⟨bo, oo + 7, none⟩ = some (.slice zp NZ zc) := (by simpa [shutO, sendO, hNZ.out] using z7)
                    have zB : BytesIs w4 (.slice zp NZ zc) zb := (by simpa [shutO, sendO, hNZ.out] using zH)
                    clear zH ze
                    have nK := HX.out.ne z7
                    have z05 := HX.out.cell z0 nK
                    have z15 := HX.out.cell z1 nK
                    have z75 := HX.out.cell z7 nK
                    have nK2 := HX2.out.ne z75
                    have z06 := HX2.out.cell z05 nK2
                    have z16 := HX2.out.cell z15 nK2
                    have z76 := HX2.out.cell z75 nK2
                    have cz6 := str_of_bytes (HX2.out.bytes (HX.out.bytes zB))
                    have hsum2 : ¬ 9223372036854775807 < se.length + zb.length := by have := HAL.out; have := hNZ.out; have := HN10.out; have := SEL.out; omega
                    clear hco z0 z1 z7 zB z05 z15 z75 nK nK2
                    go_wp2_with fail
                    refine wp_loop_rounds 2 ?_
                    rw [rounds_succ]
                    go_wp2_with fail
                    rw [rounds_succ]
                    go_wp2_with fail
                    go_roundw
                    case rel => exact ⟨i + 1, 6, [], al ++ zb, (se ++ zb), p4, 0, c4, ws4, by first | rfl | (simp; done), by first | rfl | (simp; done), by go_num, HK.out, Lib.hid (Or.inr ⟨by have := HTI.out; omega, rfl, rfl⟩), Lib.hid (there_may), Lib.hid (by have h := HEQ.out; simp only [List.flatten_nil, List.append_nil] at h ⊢ <;> rw [h]), Lib.hid (by rw [List.length_append]; have := HAL.out; have := hNZ.out; omega), Lib.hid (fun _ h => by cases h), Lib.hid (rfl), ET4, BX6, Lib.hid (OwnRow.row (show OwnCks _ _ _ ws4 from OC6.out) (Owns.ok (show Owns _ _ ws4 from OQ6.out))), B6⟩
                    case measure => simp [intOf]; omega
            · have hnl : ((i : Int) == (n : Int)) = true := by rw [beq_iff_eq]; omega
              obtain rfl : se = al := by have h := HEQ.out; simpa using h
              have HSE := HEQ
              have ess : (se == se) = true := by simp
              have HME := Lib.hid (may_any ⟨0, 5, 6, .slice p 0 c, ws⟩ true (by show mayL ⟨0, 5, 6, texts ws⟩ = true; rw [HTW.out]; rfl) wr WX30.out)
              go_wp2_with (go_at_call 20; refine HME.out.mono ?_; rintro e w9 ⟨rfl, b9⟩; have B9 := Lib.hid (B30.out.trans (b9.mono B30.out.size)); clear b9 HME)
              go_ret
              exact ⟨by first | rfl | (simp; done), B9.out⟩

set_option maxRecDepth 100000 in
theorem lifted (os : Os) (started : os.Started) (H : Type) (enc : TypeId × Value → H) :
    ReturnsInHanded {} Try.checked os 4 .any (Rows.dataOrderSpec.pre6 enc Try.prog Try.f4 Rows.dataOrderRow.domain false) (Rows.dataOrderSpec.post enc Try.prog Try.f4 false true false false) := by
  refine returnsInHanded_of_change (C := Try.checked) ownKnobs started (by kernel_rfl) Try.func4
    (ChangeSpec.witness6 (enc := enc) (C := Try.checked) false ⟨#[], #[.slice none 0 0, .int .i64 0], []⟩ 8 (by kernel_rfl) (by kernel_rfl) (by kernel_rfl) (by kernel_rfl)) ?_
  intro W base args ds gs before hval0 hW _ _
  have E : Env W := trivial
  have hval : ∀ (j : Nat) t v, Try.f4.params[j]? = some t → args[j]? = some v → Value.okWide Try.prog W .any base t v := hval0
  have hW' := hW
  obtain ⟨p, q, hA0, hV, rfl, _, _⟩ := hW
  have hA : DataW.TrodAll enc Try.prog W 0 (fun _ => true) true Try.f4.params.toList args.toList ds p := hA0
  rw [Try.params4] at hA hval
  obtain ⟨v0, vs0, d0, ds0, p0, q0, hargs, rfl, rfl, r0, t0⟩ := trodAll_cons hA
  obtain ⟨v1, vs1, d1, ds1, p1, q1, rfl, rfl, rfl, r1, t1⟩ := trodAll_cons t0
  obtain ⟨rfl, rfl, rfl⟩ := trodAll_nil t1
  obtain rfl : args = #[v0, v1] := by cases args; simp_all
  obtain ⟨rfl, rfl⟩ := trodVars_none hV
  obtain ⟨s0, y0⟩ := open_chunks (hval 0 22 v0 rfl rfl) r0
  obtain ⟨n1, rfl, rfl, rfl, w1⟩ := open_int Try.underlying3 (hval 1 3 v1 rfl rfl) r1
  clear hA0 hval0
  simp only [List.append_nil] at hW'
  refine (walk v0 s0 n1 (int_wf w1).1 (int_wf w1).2 W y0 E).mono fun e W' ⟨he, hb⟩ => ?_
  subst he
  have t0' := Below.trod laid_out (by kernel_rfl) (of_decide_eq_true (by kernel_rfl)) r0 hb (fun x hx => hW'.lt x (by simp [hx]))
  exact ⟨_, rfl, told hW' (fun _ _ _ => trodAll_cons_mk (shut_bool Try.underlying4 _) trodAll_mk0) (trodAll_cons_mk (t0') (trodAll_cons_mk (shut_int Try.underlying3 w1) trodAll_mk0)) (fun _ => rfl) hb⟩

theorem over : Rows.dataOrderRow.holds Try.pinned (OpenSpec.ofChange Rows.dataOrderSpec) :=
  OpenClaim.holds_of_wide 4 Try.f4 rfl rfl rfl rfl rfl rfl rfl ⟨rfl, rfl, rfl, rfl, rfl⟩ rfl rfl rfl rfl rfl (by kernel_rfl) Try.func4 (by kernel_rfl)
    (of_decide_eq_true (by kernel_rfl)) (by unfold Func.isWrapper; first | (rw [if_pos (by decide +kernel)]; kernel_rfl) | (rw [if_neg (by decide +kernel)]; exact ⟨rfl, rfl⟩))
    (fun os started H enc _ => lifted os started H enc)

theorem proved : Rows.DataOrderSaid :=
  over
#print axioms proved
end Go.Proofs.Ytfeiafjeidnmkaa.dataOrder
