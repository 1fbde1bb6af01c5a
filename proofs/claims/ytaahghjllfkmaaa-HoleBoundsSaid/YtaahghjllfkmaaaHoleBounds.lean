/- Proved: for every pinholes (held against 40), pinhole and bound: where no two have a port in common, and no tenant has more than it may, it is so with one more that is granted; what is revoked leaves the other sessions' as they are. Conditions: none beyond the row's own (the library's variables start as the program's text lays them: the card ties them). -/
import Derived.Test.YtaahghjllfkmaaaHoleFine
import Derived.BigQuiet
import Derived.Deep.QuietTactic
import Derived.Deep.RegionHeld

namespace Go.Proofs.Ytaahghjllfkmaaa.holeBounds
open Go.Proofs.Ytaahghjllfkmaaa Go.Proofs.Ytaahghjllfkmaaa.Hl
open Go.ChangeShapes Go.WideShapes Go.ChangeAt Go.RowKit Go.Sort Go.ChangeMaps
set_option linter.unusedSimpArgs false
set_option linter.unusedVariables false
set_option linter.unusedVariables false in
set_option maxHeartbeats 16000000 in
set_option maxRecDepth 100000 in
theorem walk (u0 : Value) (s0 : List Ho) (q1 : Ho) (n2 : Int) (l2 : -9223372036854775808 ≤ n2) (h2 : n2 ≤ 9223372036854775807) (w : World) (y0 : HolesIs w u0 s0) (E : Env w) :
    Calls Try.prog 6 #[u0, holeV q1, .int .i64 n2] w fun e w' => e = .returned (.bool true) ∧ Below w.heap.size w w' := by
  have AWK := Lib.hid (fun W EW => awake_any W EW)
  have B0 := Lib.hid (Below.refl w.heap.size w)
  obtain ⟨p, n, c, rfl, hn⟩ := y0.form
  have HN := Lib.hid hn
  have YL0 := Lib.hid y0
  have hmax := y0.max
  rw [← hn] at hmax
  clear hn y0
  by_cases g : 40 < n
  · have g' : (40 : Int) < (n : Int) := by omega
    go_enter Try.func6, Try.ntmps6
    go_wp2_with (first
        | (go_at_call 10; refine (AWK.out _ (E.below ((B0.out).alloc B0.out.size (.cells #[.int .i64 q1.port, .int .i64 q1.sess, .int .i64 q1.ten, .int .u8 q1.a, .int .u8 q1.b, .int .u8 q1.c, .int .u8 q1.d, .int .u8 q1.e, .int .u8 q1.f, .int .u8 q1.g, .int .u8 q1.h, .int .i64 q1.tport, .int .i64 q1.dead] 28)))).mono ?_; rintro e w1 ⟨rfl, b1⟩; have B1 := Lib.hid (((B0.out).alloc B0.out.size (.cells #[.int .i64 q1.port, .int .i64 q1.sess, .int .i64 q1.ten, .int .u8 q1.a, .int .u8 q1.b, .int .u8 q1.c, .int .u8 q1.d, .int .u8 q1.e, .int .u8 q1.f, .int .u8 q1.g, .int .u8 q1.h, .int .i64 q1.tport, .int .i64 q1.dead] 28)).trans (b1.mono (by have := B0.out.size; simp <;> omega))); have QB1 := Lib.hid ((IsRow.made w 28 #[.int .i64 q1.port, .int .i64 q1.sess, .int .i64 q1.ten, .int .u8 q1.a, .int .u8 q1.b, .int .u8 q1.c, .int .u8 q1.d, .int .u8 q1.e, .int .u8 q1.f, .int .u8 q1.g, .int .u8 q1.h, .int .i64 q1.tport, .int .i64 q1.dead]).call b1); have QBc0 : w1.cell? ⟨w.heap.size, 0, none⟩ = some (.int .i64 q1.port) := QB1.out.cell 0; have QBc1 : w1.cell? ⟨w.heap.size, 1, none⟩ = some (.int .i64 q1.sess) := QB1.out.cell 1; have QBc2 : w1.cell? ⟨w.heap.size, 2, none⟩ = some (.int .i64 q1.ten) := QB1.out.cell 2; have QBc3 : w1.cell? ⟨w.heap.size, 3, none⟩ = some (.int .u8 q1.a) := QB1.out.cell 3; have QBc4 : w1.cell? ⟨w.heap.size, 4, none⟩ = some (.int .u8 q1.b) := QB1.out.cell 4; have QBc5 : w1.cell? ⟨w.heap.size, 5, none⟩ = some (.int .u8 q1.c) := QB1.out.cell 5; have QBc6 : w1.cell? ⟨w.heap.size, 6, none⟩ = some (.int .u8 q1.d) := QB1.out.cell 6; have QBc7 : w1.cell? ⟨w.heap.size, 7, none⟩ = some (.int .u8 q1.e) := QB1.out.cell 7; have QBc8 : w1.cell? ⟨w.heap.size, 8, none⟩ = some (.int .u8 q1.f) := QB1.out.cell 8; have QBc9 : w1.cell? ⟨w.heap.size, 9, none⟩ = some (.int .u8 q1.g) := QB1.out.cell 9; have QBc10 : w1.cell? ⟨w.heap.size, 10, none⟩ = some (.int .u8 q1.h) := QB1.out.cell 10; have QBc11 : w1.cell? ⟨w.heap.size, 11, none⟩ = some (.int .i64 q1.tport) := QB1.out.cell 11; have QBc12 : w1.cell? ⟨w.heap.size, 12, none⟩ = some (.int .i64 q1.dead) := QB1.out.cell 12; have QBlt : w.heap.size < w1.heap.size := QB1.out.lt; have YL1 := Lib.hid ((YL0.out.alloc (.cells #[.int .i64 q1.port, .int .i64 q1.sess, .int .i64 q1.ten, .int .u8 q1.a, .int .u8 q1.b, .int .u8 q1.c, .int .u8 q1.d, .int .u8 q1.e, .int .u8 q1.f, .int .u8 q1.g, .int .u8 q1.h, .int .i64 q1.tport, .int .i64 q1.dead] 28)).call b1); clear YL0))
    all_goals (go_ret; exact ⟨by first | rfl | (simp; done) | (simp; omega), B1.out⟩)
  have g' : ¬ (40 : Int) < (n : Int) := by omega
  have hl : Hid (s0.length ≤ 99999) := Lib.hid (by rw [← HN.out]; omega)
  have hl1 : Hid (s0.length ≤ 100000) := Lib.hid (by rw [← HN.out]; omega)
  obtain ⟨bf, hbf⟩ : ∃ b, fineB s0 n2 = b := ⟨_, rfl⟩
  have H1 := Lib.hid (fun W HR => fine_any (.slice p n c) s0 n2 hl1.out bf hbf W HR)
  cases bf with
  | false =>
    clear hbf
    go_enter Try.func6, Try.ntmps6
    go_wp2_with (first
        | (go_at_call 10; refine (AWK.out _ (E.below ((B0.out).alloc B0.out.size (.cells #[.int .i64 q1.port, .int .i64 q1.sess, .int .i64 q1.ten, .int .u8 q1.a, .int .u8 q1.b, .int .u8 q1.c, .int .u8 q1.d, .int .u8 q1.e, .int .u8 q1.f, .int .u8 q1.g, .int .u8 q1.h, .int .i64 q1.tport, .int .i64 q1.dead] 28)))).mono ?_; rintro e w1 ⟨rfl, b1⟩; have B1 := Lib.hid (((B0.out).alloc B0.out.size (.cells #[.int .i64 q1.port, .int .i64 q1.sess, .int .i64 q1.ten, .int .u8 q1.a, .int .u8 q1.b, .int .u8 q1.c, .int .u8 q1.d, .int .u8 q1.e, .int .u8 q1.f, .int .u8 q1.g, .int .u8 q1.h, .int .i64 q1.tport, .int .i64 q1.dead] 28)).trans (b1.mono (by have := B0.out.size; simp <;> omega))); have QB1 := Lib.hid ((IsRow.made w 28 #[.int .i64 q1.port, .int .i64 q1.sess, .int .i64 q1.ten, .int .u8 q1.a, .int .u8 q1.b, .int .u8 q1.c, .int .u8 q1.d, .int .u8 q1.e, .int .u8 q1.f, .int .u8 q1.g, .int .u8 q1.h, .int .i64 q1.tport, .int .i64 q1.dead]).call b1); have QBc0 : w1.cell? ⟨w.heap.size, 0, none⟩ = some (.int .i64 q1.port) := QB1.out.cell 0; have QBc1 : w1.cell? ⟨w.heap.size, 1, none⟩ = some (.int .i64 q1.sess) := QB1.out.cell 1; have QBc2 : w1.cell? ⟨w.heap.size, 2, none⟩ = some (.int .i64 q1.ten) := QB1.out.cell 2; have QBc3 : w1.cell? ⟨w.heap.size, 3, none⟩ = some (.int .u8 q1.a) := QB1.out.cell 3; have QBc4 : w1.cell? ⟨w.heap.size, 4, none⟩ = some (.int .u8 q1.b) := QB1.out.cell 4; have QBc5 : w1.cell? ⟨w.heap.size, 5, none⟩ = some (.int .u8 q1.c) := QB1.out.cell 5; have QBc6 : w1.cell? ⟨w.heap.size, 6, none⟩ = some (.int .u8 q1.d) := QB1.out.cell 6; have QBc7 : w1.cell? ⟨w.heap.size, 7, none⟩ = some (.int .u8 q1.e) := QB1.out.cell 7; have QBc8 : w1.cell? ⟨w.heap.size, 8, none⟩ = some (.int .u8 q1.f) := QB1.out.cell 8; have QBc9 : w1.cell? ⟨w.heap.size, 9, none⟩ = some (.int .u8 q1.g) := QB1.out.cell 9; have QBc10 : w1.cell? ⟨w.heap.size, 10, none⟩ = some (.int .u8 q1.h) := QB1.out.cell 10; have QBc11 : w1.cell? ⟨w.heap.size, 11, none⟩ = some (.int .i64 q1.tport) := QB1.out.cell 11; have QBc12 : w1.cell? ⟨w.heap.size, 12, none⟩ = some (.int .i64 q1.dead) := QB1.out.cell 12; have QBlt : w.heap.size < w1.heap.size := QB1.out.lt; have YL1 := Lib.hid ((YL0.out.alloc (.cells #[.int .i64 q1.port, .int .i64 q1.sess, .int .i64 q1.ten, .int .u8 q1.a, .int .u8 q1.b, .int .u8 q1.c, .int .u8 q1.d, .int .u8 q1.e, .int .u8 q1.f, .int .u8 q1.g, .int .u8 q1.h, .int .i64 q1.tport, .int .i64 q1.dead] 28)).call b1); clear YL0)
        | (go_at_call 25; refine (H1.out _ YL1.out).mono ?_; rintro e w2 ⟨rfl, b2⟩; have B2 := Lib.hid (B1.out.trans (b2.mono B1.out.size)); have QB2 := Lib.hid (QB1.out.call b2); clear QBc0 QBc1 QBc2 QBc3 QBc4 QBc5 QBc6 QBc7 QBc8 QBc9 QBc10 QBc11 QBc12 QBlt; have QBc0 : w2.cell? ⟨w.heap.size, 0, none⟩ = some (.int .i64 q1.port) := QB2.out.cell 0; have QBc1 : w2.cell? ⟨w.heap.size, 1, none⟩ = some (.int .i64 q1.sess) := QB2.out.cell 1; have QBc2 : w2.cell? ⟨w.heap.size, 2, none⟩ = some (.int .i64 q1.ten) := QB2.out.cell 2; have QBc3 : w2.cell? ⟨w.heap.size, 3, none⟩ = some (.int .u8 q1.a) := QB2.out.cell 3; have QBc4 : w2.cell? ⟨w.heap.size, 4, none⟩ = some (.int .u8 q1.b) := QB2.out.cell 4; have QBc5 : w2.cell? ⟨w.heap.size, 5, none⟩ = some (.int .u8 q1.c) := QB2.out.cell 5; have QBc6 : w2.cell? ⟨w.heap.size, 6, none⟩ = some (.int .u8 q1.d) := QB2.out.cell 6; have QBc7 : w2.cell? ⟨w.heap.size, 7, none⟩ = some (.int .u8 q1.e) := QB2.out.cell 7; have QBc8 : w2.cell? ⟨w.heap.size, 8, none⟩ = some (.int .u8 q1.f) := QB2.out.cell 8; have QBc9 : w2.cell? ⟨w.heap.size, 9, none⟩ = some (.int .u8 q1.g) := QB2.out.cell 9; have QBc10 : w2.cell? ⟨w.heap.size, 10, none⟩ = some (.int .u8 q1.h) := QB2.out.cell 10; have QBc11 : w2.cell? ⟨w.heap.size, 11, none⟩ = some (.int .i64 q1.tport) := QB2.out.cell 11; have QBc12 : w2.cell? ⟨w.heap.size, 12, none⟩ = some (.int .i64 q1.dead) := QB2.out.cell 12; have QBlt : w.heap.size < w2.heap.size := QB2.out.lt; have YL2 := Lib.hid (YL1.out.call b2); clear YL1; clear H1; clear QB1))
    all_goals (go_ret; exact ⟨by first | rfl | (simp; done) | (simp; omega), B2.out⟩)
  | true =>
    have hfine : Fine s0 n2 := of_decide_eq_true hbf
    obtain ⟨r, hr⟩ : ∃ r, revoke s0 q1.sess = r := ⟨_, rfl⟩
    have hrl : r.length ≤ 100000 := by rw [← hr]; exact Nat.le_trans (List.length_filter_le _ _) hl1.out
    obtain ⟨NR, hNR⟩ : ∃ N, r.length = N := ⟨_, rfl⟩
    have hless : fineB r n2 = true := by rw [← hr]; exact decide_eq_true (fine_less _ hfine)
    have HF : Hid (r = s0.filter (fun x => !(x.sess == q1.sess))) := Lib.hid hr.symm
    have HNR := Lib.hid hNR
    have HAt : Hid (∀ k (hk : k < s0.length), (s0[k].sess == q1.sess) = false → ∃ (hq : ((s0.take k).filter (fun x => !(x.sess == q1.sess))).length < r.length), r[((s0.take k).filter (fun x => !(x.sess == q1.sess))).length] = s0[k]) := Lib.hid (fun k hk h => by
      have := filter_at (f := fun x => !(x.sess == q1.sess)) hk (by rw [h]; rfl)
      obtain ⟨hq, e⟩ := this
      have hrr := HF.out
      subst hrr
      exact ⟨hq, e⟩)
    obtain ⟨m, k, hG, hmf, hml⟩ : ∃ m k, grant s0 q1 n2 = (m, k) ∧ fineB m n2 = true ∧ m.length ≤ 100000 := by
      rcases grant_ways s0 q1 n2 with ⟨-, e⟩ | ⟨-, -, e⟩ | ⟨-, h1, h2, e⟩
      · exact ⟨_, _, e, decide_eq_true (fun i hi => absurd hi (by simp)), by simp⟩
      · exact ⟨_, _, e, decide_eq_true (fun i hi => absurd hi (by simp)), by simp⟩
      · exact ⟨_, _, e, decide_eq_true (fine_more hfine h1 h2), by have := hl.out; simp; omega⟩
    obtain ⟨NM, hNM⟩ : ∃ N, m.length = N := ⟨_, rfl⟩
    have hN9 : n ≤ 40 := by omega
    have H2 := Lib.hid (fun W HR => hgrant_of (.slice p n c) s0 q1 n2 hl.out m k NM hG hNM W HR)
    have H3 := Lib.hid (fun u W HR => fine_any u m n2 hml true hmf W HR)
    have H4 := Lib.hid (fun W HR => hrevoke_of (.slice p n c) s0 q1.sess hl1.out r NR hr hNR W HR)
    have H5 := Lib.hid (fun u W HR => fine_any u r n2 hrl true hless W HR)
    clear hbf hfine hr hrl hNR hless hG hmf hml hNM
    cases hk0 : (k == 0) with
    | true =>
      go_enter Try.func6, Try.ntmps6
      go_wp2_with (first
          | (go_at_call 10; refine (AWK.out _ (E.below ((B0.out).alloc B0.out.size (.cells #[.int .i64 q1.port, .int .i64 q1.sess, .int .i64 q1.ten, .int .u8 q1.a, .int .u8 q1.b, .int .u8 q1.c, .int .u8 q1.d, .int .u8 q1.e, .int .u8 q1.f, .int .u8 q1.g, .int .u8 q1.h, .int .i64 q1.tport, .int .i64 q1.dead] 28)))).mono ?_; rintro e w1 ⟨rfl, b1⟩; have B1 := Lib.hid (((B0.out).alloc B0.out.size (.cells #[.int .i64 q1.port, .int .i64 q1.sess, .int .i64 q1.ten, .int .u8 q1.a, .int .u8 q1.b, .int .u8 q1.c, .int .u8 q1.d, .int .u8 q1.e, .int .u8 q1.f, .int .u8 q1.g, .int .u8 q1.h, .int .i64 q1.tport, .int .i64 q1.dead] 28)).trans (b1.mono (by have := B0.out.size; simp <;> omega))); have QB1 := Lib.hid ((IsRow.made w 28 #[.int .i64 q1.port, .int .i64 q1.sess, .int .i64 q1.ten, .int .u8 q1.a, .int .u8 q1.b, .int .u8 q1.c, .int .u8 q1.d, .int .u8 q1.e, .int .u8 q1.f, .int .u8 q1.g, .int .u8 q1.h, .int .i64 q1.tport, .int .i64 q1.dead]).call b1); have QBc0 : w1.cell? ⟨w.heap.size, 0, none⟩ = some (.int .i64 q1.port) := QB1.out.cell 0; have QBc1 : w1.cell? ⟨w.heap.size, 1, none⟩ = some (.int .i64 q1.sess) := QB1.out.cell 1; have QBc2 : w1.cell? ⟨w.heap.size, 2, none⟩ = some (.int .i64 q1.ten) := QB1.out.cell 2; have QBc3 : w1.cell? ⟨w.heap.size, 3, none⟩ = some (.int .u8 q1.a) := QB1.out.cell 3; have QBc4 : w1.cell? ⟨w.heap.size, 4, none⟩ = some (.int .u8 q1.b) := QB1.out.cell 4; have QBc5 : w1.cell? ⟨w.heap.size, 5, none⟩ = some (.int .u8 q1.c) := QB1.out.cell 5; have QBc6 : w1.cell? ⟨w.heap.size, 6, none⟩ = some (.int .u8 q1.d) := QB1.out.cell 6; have QBc7 : w1.cell? ⟨w.heap.size, 7, none⟩ = some (.int .u8 q1.e) := QB1.out.cell 7; have QBc8 : w1.cell? ⟨w.heap.size, 8, none⟩ = some (.int .u8 q1.f) := QB1.out.cell 8; have QBc9 : w1.cell? ⟨w.heap.size, 9, none⟩ = some (.int .u8 q1.g) := QB1.out.cell 9; have QBc10 : w1.cell? ⟨w.heap.size, 10, none⟩ = some (.int .u8 q1.h) := QB1.out.cell 10; have QBc11 : w1.cell? ⟨w.heap.size, 11, none⟩ = some (.int .i64 q1.tport) := QB1.out.cell 11; have QBc12 : w1.cell? ⟨w.heap.size, 12, none⟩ = some (.int .i64 q1.dead) := QB1.out.cell 12; have QBlt : w.heap.size < w1.heap.size := QB1.out.lt; have YL1 := Lib.hid ((YL0.out.alloc (.cells #[.int .i64 q1.port, .int .i64 q1.sess, .int .i64 q1.ten, .int .u8 q1.a, .int .u8 q1.b, .int .u8 q1.c, .int .u8 q1.d, .int .u8 q1.e, .int .u8 q1.f, .int .u8 q1.g, .int .u8 q1.h, .int .i64 q1.tport, .int .i64 q1.dead] 28)).call b1); clear YL0)
          | (go_at_call 25; refine (H1.out _ YL1.out).mono ?_; rintro e w2 ⟨rfl, b2⟩; have B2 := Lib.hid (B1.out.trans (b2.mono B1.out.size)); have QB2 := Lib.hid (QB1.out.call b2); clear QBc0 QBc1 QBc2 QBc3 QBc4 QBc5 QBc6 QBc7 QBc8 QBc9 QBc10 QBc11 QBc12 QBlt; have QBc0 : w2.cell? ⟨w.heap.size, 0, none⟩ = some (.int .i64 q1.port) := QB2.out.cell 0; have QBc1 : w2.cell? ⟨w.heap.size, 1, none⟩ = some (.int .i64 q1.sess) := QB2.out.cell 1; have QBc2 : w2.cell? ⟨w.heap.size, 2, none⟩ = some (.int .i64 q1.ten) := QB2.out.cell 2; have QBc3 : w2.cell? ⟨w.heap.size, 3, none⟩ = some (.int .u8 q1.a) := QB2.out.cell 3; have QBc4 : w2.cell? ⟨w.heap.size, 4, none⟩ = some (.int .u8 q1.b) := QB2.out.cell 4; have QBc5 : w2.cell? ⟨w.heap.size, 5, none⟩ = some (.int .u8 q1.c) := QB2.out.cell 5; have QBc6 : w2.cell? ⟨w.heap.size, 6, none⟩ = some (.int .u8 q1.d) := QB2.out.cell 6; have QBc7 : w2.cell? ⟨w.heap.size, 7, none⟩ = some (.int .u8 q1.e) := QB2.out.cell 7; have QBc8 : w2.cell? ⟨w.heap.size, 8, none⟩ = some (.int .u8 q1.f) := QB2.out.cell 8; have QBc9 : w2.cell? ⟨w.heap.size, 9, none⟩ = some (.int .u8 q1.g) := QB2.out.cell 9; have QBc10 : w2.cell? ⟨w.heap.size, 10, none⟩ = some (.int .u8 q1.h) := QB2.out.cell 10; have QBc11 : w2.cell? ⟨w.heap.size, 11, none⟩ = some (.int .i64 q1.tport) := QB2.out.cell 11; have QBc12 : w2.cell? ⟨w.heap.size, 12, none⟩ = some (.int .i64 q1.dead) := QB2.out.cell 12; have QBlt : w.heap.size < w2.heap.size := QB2.out.lt; have YL2 := Lib.hid (YL1.out.call b2); clear YL1; clear H1; clear QB1)
          | (go_at_call 12; refine (H2.out _ YL2.out).mono ?_; rintro e w3 ⟨⟨p1, c1, rfl, y1⟩, b3⟩; have B3 := Lib.hid (B2.out.trans (b3.mono B2.out.size)); have QB3 := Lib.hid (QB2.out.call b3); clear QBc0 QBc1 QBc2 QBc3 QBc4 QBc5 QBc6 QBc7 QBc8 QBc9 QBc10 QBc11 QBc12 QBlt; have QBc0 : w3.cell? ⟨w.heap.size, 0, none⟩ = some (.int .i64 q1.port) := QB3.out.cell 0; have QBc1 : w3.cell? ⟨w.heap.size, 1, none⟩ = some (.int .i64 q1.sess) := QB3.out.cell 1; have QBc2 : w3.cell? ⟨w.heap.size, 2, none⟩ = some (.int .i64 q1.ten) := QB3.out.cell 2; have QBc3 : w3.cell? ⟨w.heap.size, 3, none⟩ = some (.int .u8 q1.a) := QB3.out.cell 3; have QBc4 : w3.cell? ⟨w.heap.size, 4, none⟩ = some (.int .u8 q1.b) := QB3.out.cell 4; have QBc5 : w3.cell? ⟨w.heap.size, 5, none⟩ = some (.int .u8 q1.c) := QB3.out.cell 5; have QBc6 : w3.cell? ⟨w.heap.size, 6, none⟩ = some (.int .u8 q1.d) := QB3.out.cell 6; have QBc7 : w3.cell? ⟨w.heap.size, 7, none⟩ = some (.int .u8 q1.e) := QB3.out.cell 7; have QBc8 : w3.cell? ⟨w.heap.size, 8, none⟩ = some (.int .u8 q1.f) := QB3.out.cell 8; have QBc9 : w3.cell? ⟨w.heap.size, 9, none⟩ = some (.int .u8 q1.g) := QB3.out.cell 9; have QBc10 : w3.cell? ⟨w.heap.size, 10, none⟩ = some (.int .u8 q1.h) := QB3.out.cell 10; have QBc11 : w3.cell? ⟨w.heap.size, 11, none⟩ = some (.int .i64 q1.tport) := QB3.out.cell 11; have QBc12 : w3.cell? ⟨w.heap.size, 12, none⟩ = some (.int .i64 q1.dead) := QB3.out.cell 12; have QBlt : w.heap.size < w3.heap.size := QB3.out.lt; have YL3 := Lib.hid (YL2.out.call b3); clear YL2; have YM3 := Lib.hid y1; clear y1; clear H2; clear QB2)
          | (go_at_call 25; refine (H3.out _ _ YM3.out).mono ?_; rintro e w4 ⟨rfl, b4⟩; have B4 := Lib.hid (B3.out.trans (b4.mono B3.out.size)); have QB4 := Lib.hid (QB3.out.call b4); clear QBc0 QBc1 QBc2 QBc3 QBc4 QBc5 QBc6 QBc7 QBc8 QBc9 QBc10 QBc11 QBc12 QBlt; have QBc0 : w4.cell? ⟨w.heap.size, 0, none⟩ = some (.int .i64 q1.port) := QB4.out.cell 0; have QBc1 : w4.cell? ⟨w.heap.size, 1, none⟩ = some (.int .i64 q1.sess) := QB4.out.cell 1; have QBc2 : w4.cell? ⟨w.heap.size, 2, none⟩ = some (.int .i64 q1.ten) := QB4.out.cell 2; have QBc3 : w4.cell? ⟨w.heap.size, 3, none⟩ = some (.int .u8 q1.a) := QB4.out.cell 3; have QBc4 : w4.cell? ⟨w.heap.size, 4, none⟩ = some (.int .u8 q1.b) := QB4.out.cell 4; have QBc5 : w4.cell? ⟨w.heap.size, 5, none⟩ = some (.int .u8 q1.c) := QB4.out.cell 5; have QBc6 : w4.cell? ⟨w.heap.size, 6, none⟩ = some (.int .u8 q1.d) := QB4.out.cell 6; have QBc7 : w4.cell? ⟨w.heap.size, 7, none⟩ = some (.int .u8 q1.e) := QB4.out.cell 7; have QBc8 : w4.cell? ⟨w.heap.size, 8, none⟩ = some (.int .u8 q1.f) := QB4.out.cell 8; have QBc9 : w4.cell? ⟨w.heap.size, 9, none⟩ = some (.int .u8 q1.g) := QB4.out.cell 9; have QBc10 : w4.cell? ⟨w.heap.size, 10, none⟩ = some (.int .u8 q1.h) := QB4.out.cell 10; have QBc11 : w4.cell? ⟨w.heap.size, 11, none⟩ = some (.int .i64 q1.tport) := QB4.out.cell 11; have QBc12 : w4.cell? ⟨w.heap.size, 12, none⟩ = some (.int .i64 q1.dead) := QB4.out.cell 12; have QBlt : w.heap.size < w4.heap.size := QB4.out.lt; have YL4 := Lib.hid (YL3.out.call b4); clear YL3; clear H3; clear QB3)
          | (go_at_call 19; refine (H4.out _ YL4.out).mono ?_; rintro e w5 ⟨⟨p2, c2, rfl, y2⟩, b5⟩; have B5 := Lib.hid (B4.out.trans (b5.mono B4.out.size)); have QB5 := Lib.hid (QB4.out.call b5); clear QBc0 QBc1 QBc2 QBc3 QBc4 QBc5 QBc6 QBc7 QBc8 QBc9 QBc10 QBc11 QBc12 QBlt; have QBc0 : w5.cell? ⟨w.heap.size, 0, none⟩ = some (.int .i64 q1.port) := QB5.out.cell 0; have QBc1 : w5.cell? ⟨w.heap.size, 1, none⟩ = some (.int .i64 q1.sess) := QB5.out.cell 1; have QBc2 : w5.cell? ⟨w.heap.size, 2, none⟩ = some (.int .i64 q1.ten) := QB5.out.cell 2; have QBc3 : w5.cell? ⟨w.heap.size, 3, none⟩ = some (.int .u8 q1.a) := QB5.out.cell 3; have QBc4 : w5.cell? ⟨w.heap.size, 4, none⟩ = some (.int .u8 q1.b) := QB5.out.cell 4; have QBc5 : w5.cell? ⟨w.heap.size, 5, none⟩ = some (.int .u8 q1.c) := QB5.out.cell 5; have QBc6 : w5.cell? ⟨w.heap.size, 6, none⟩ = some (.int .u8 q1.d) := QB5.out.cell 6; have QBc7 : w5.cell? ⟨w.heap.size, 7, none⟩ = some (.int .u8 q1.e) := QB5.out.cell 7; have QBc8 : w5.cell? ⟨w.heap.size, 8, none⟩ = some (.int .u8 q1.f) := QB5.out.cell 8; have QBc9 : w5.cell? ⟨w.heap.size, 9, none⟩ = some (.int .u8 q1.g) := QB5.out.cell 9; have QBc10 : w5.cell? ⟨w.heap.size, 10, none⟩ = some (.int .u8 q1.h) := QB5.out.cell 10; have QBc11 : w5.cell? ⟨w.heap.size, 11, none⟩ = some (.int .i64 q1.tport) := QB5.out.cell 11; have QBc12 : w5.cell? ⟨w.heap.size, 12, none⟩ = some (.int .i64 q1.dead) := QB5.out.cell 12; have QBlt : w.heap.size < w5.heap.size := QB5.out.lt; have YL5 := Lib.hid (YL4.out.call b5); clear YL4; have YR5 := Lib.hid y2; clear y2; clear H4; clear QB4)
          | (go_at_call 25; refine (H5.out _ _ YR5.out).mono ?_; rintro e w6 ⟨rfl, b6⟩; have B6 := Lib.hid (B5.out.trans (b6.mono B5.out.size)); have QB6 := Lib.hid (QB5.out.call b6); clear QBc0 QBc1 QBc2 QBc3 QBc4 QBc5 QBc6 QBc7 QBc8 QBc9 QBc10 QBc11 QBc12 QBlt; have QBc0 : w6.cell? ⟨w.heap.size, 0, none⟩ = some (.int .i64 q1.port) := QB6.out.cell 0; have QBc1 : w6.cell? ⟨w.heap.size, 1, none⟩ = some (.int .i64 q1.sess) := QB6.out.cell 1; have QBc2 : w6.cell? ⟨w.heap.size, 2, none⟩ = some (.int .i64 q1.ten) := QB6.out.cell 2; have QBc3 : w6.cell? ⟨w.heap.size, 3, none⟩ = some (.int .u8 q1.a) := QB6.out.cell 3; have QBc4 : w6.cell? ⟨w.heap.size, 4, none⟩ = some (.int .u8 q1.b) := QB6.out.cell 4; have QBc5 : w6.cell? ⟨w.heap.size, 5, none⟩ = some (.int .u8 q1.c) := QB6.out.cell 5; have QBc6 : w6.cell? ⟨w.heap.size, 6, none⟩ = some (.int .u8 q1.d) := QB6.out.cell 6; have QBc7 : w6.cell? ⟨w.heap.size, 7, none⟩ = some (.int .u8 q1.e) := QB6.out.cell 7; have QBc8 : w6.cell? ⟨w.heap.size, 8, none⟩ = some (.int .u8 q1.f) := QB6.out.cell 8; have QBc9 : w6.cell? ⟨w.heap.size, 9, none⟩ = some (.int .u8 q1.g) := QB6.out.cell 9; have QBc10 : w6.cell? ⟨w.heap.size, 10, none⟩ = some (.int .u8 q1.h) := QB6.out.cell 10; have QBc11 : w6.cell? ⟨w.heap.size, 11, none⟩ = some (.int .i64 q1.tport) := QB6.out.cell 11; have QBc12 : w6.cell? ⟨w.heap.size, 12, none⟩ = some (.int .i64 q1.dead) := QB6.out.cell 12; have QBlt : w.heap.size < w6.heap.size := QB6.out.lt; have YL6 := Lib.hid (YL5.out.call b6); clear YL5; have YR6 := Lib.hid (YR5.out.call b6); clear YR5; clear H5; clear QB5))
      go_loopw [14, 15] (fun x14 x15 wr => ∃ (k c0 : Nat), x14 = .int .i64 (c0 : Int) ∧ x15 = .int .i64 (k : Int) ∧ k ≤ n ∧ Hid (c0 = ((s0.take k).filter (fun x => !(x.sess == q1.sess))).length) ∧ Hid (Below w6.heap.size w6 wr)) (fun _ i _ => n - (intOf i).toNat)
      case atStart => exact ⟨0, 0, rfl, rfl, Nat.zero_le _, Lib.hid rfl, Lib.hid (Below.refl _ _)⟩
      case round =>
        obtain ⟨k, c0, rfl, rfl, hk, HT, HB⟩ := hrel
        clear QBc0 QBc1 QBc2 QBc3 QBc4 QBc5 QBc6 QBc7 QBc8 QBc9 QBc10 QBc11 QBc12 QBlt
        have hc9 : c0 ≤ 40 := by have := HT.out; have h2 := List.length_filter_le (fun x : Ho => !(x.sess == q1.sess)) (s0.take k); rw [List.length_take] at h2; omega
        by_cases hlt : k < n
        · have hji : (k : Int) < (n : Int) := by omega
          have HKN : Hid (k + 1 ≤ n) := Lib.hid hlt
          have hkl : k < s0.length := by rw [← HN.out]; exact hlt
          obtain ⟨b1, o1, rfl, hb1, hc1⟩ := (YL6.out.call HB.out).some (by omega)
          have T1 := hc1 k hkl
          have a0 := T1.c0; have a1 := T1.c1; have a2 := T1.c2; have a3 := T1.c3; have a4 := T1.c4; have a5 := T1.c5; have a6 := T1.c6; have a7 := T1.c7; have a8 := T1.c8; have a9 := T1.c9; have a10 := T1.c10; have a11 := T1.c11; have a12 := T1.c12
          have s1 := (QB6.out.call HB.out).cell 1
          have sl := (QB6.out.call HB.out).lt
          have HTN := Lib.hid (filter_next (f := fun x => !(x.sess == q1.sess)) hkl)
          have HX : Hid ((s0[k].sess == q1.sess) = false → ∃ (hq : c0 < r.length), r[c0] = s0[k]) := Lib.hid (fun h => by obtain ⟨hq, e⟩ := HAt.out k hkl h; have hT := HT.out; subst hT; exact ⟨hq, e⟩)
          clear hc1 T1
          generalize s0[k] = x at *
          cases h1 : (x.sess == q1.sess) with
          | true =>
            have HT2 : Hid (c0 = ((s0.take (k + 1)).filter (fun x => !(x.sess == q1.sess))).length) := Lib.hid (by rw [HTN.out, HT.out, h1]; simp)
            clear HX HTN
            go_wp2_with fail
            go_quiet (fail)
            go_wp2_with fail
            go_roundw
            case rel => exact ⟨k + 1, c0, by go_num, by go_num, HKN.out, HT2, Lib.hid (HB.out.trans ⟨rfl, rfl, rfl, Nat.le_refl _, fun _ _ => rfl⟩)⟩
            case measure => have := HKN.out; simp [intOf]; omega
          | false =>
            have HT2 : Hid (c0 + 1 = ((s0.take (k + 1)).filter (fun x => !(x.sess == q1.sess))).length) := Lib.hid (by rw [HTN.out, HT.out, h1]; simp)
            obtain ⟨hq, hqe⟩ := HX.out h1
            obtain ⟨b3, o3, rfl, hb3, hc3⟩ := (YR6.out.call HB.out).some (by omega)
            have T2 := hc3 c0 hq
            rw [hqe] at T2
            have d0 := T2.c0; have d1 := T2.c1; have d2 := T2.c2; have d3 := T2.c3; have d4 := T2.c4; have d5 := T2.c5; have d6 := T2.c6; have d7 := T2.c7; have d8 := T2.c8; have d9 := T2.c9; have d10 := T2.c10; have d11 := T2.c11; have d12 := T2.c12
            have hcN : c0 < NR := by rw [← HNR.out]; exact hq
            have hcd : decide ((NR : Int) ≤ (c0 : Int)) = false := decide_eq_false (by omega)
            have hci : (c0 : Int) < (NR : Int) := by omega
            have heq : ∀ W, (Op.equalIn 10000 28 (.agg #[.int .i64 x.port, .int .i64 x.sess, .int .i64 x.ten, .int .u8 x.a, .int .u8 x.b, .int .u8 x.c, .int .u8 x.d, .int .u8 x.e, .int .u8 x.f, .int .u8 x.g, .int .u8 x.h, .int .i64 x.tport, .int .i64 x.dead]) (.agg #[.int .i64 x.port, .int .i64 x.sess, .int .i64 x.ten, .int .u8 x.a, .int .u8 x.b, .int .u8 x.c, .int .u8 x.d, .int .u8 x.e, .int .u8 x.f, .int .u8 x.g, .int .u8 x.h, .int .i64 x.tport, .int .i64 x.dead])).run Try.prog W = .ok true W := fun W => by have := equal_holes x x W; rw [eqH_self] at this; exact this
            clear hc3 hqe hq HX HTN T2
            go_wp2_with fail
            go_quiet (fail)
            go_wp2_with fail
            go_quiet (fail)
            go_wp2_with fail
            go_roundw
            case rel => exact ⟨k + 1, c0 + 1, by go_num, by go_num, HKN.out, HT2, Lib.hid ((HB.out.trans ⟨rfl, rfl, rfl, Nat.le_refl _, fun _ _ => rfl⟩).trans ⟨rfl, rfl, rfl, Nat.le_refl _, fun _ _ => rfl⟩)⟩
            case measure => have := HKN.out; simp [intOf]; omega
        · have hji : ¬ (k : Int) < (n : Int) := by omega
          have hE : s0.take k = s0 := List.take_of_length_le (by have := HN.out; omega)
          have hcE : c0 = NR := by rw [← HNR.out, HF.out, HT.out, hE]
          subst hcE
          clear hE
          go_wp2_with fail
          go_ret
          exact ⟨by first | rfl | (simp; done) | (simp; omega), B6.out.trans (HB.out.mono B6.out.size)⟩
    | false =>
      go_enter Try.func6, Try.ntmps6
      go_wp2_with (first
          | (go_at_call 10; refine (AWK.out _ (E.below ((B0.out).alloc B0.out.size (.cells #[.int .i64 q1.port, .int .i64 q1.sess, .int .i64 q1.ten, .int .u8 q1.a, .int .u8 q1.b, .int .u8 q1.c, .int .u8 q1.d, .int .u8 q1.e, .int .u8 q1.f, .int .u8 q1.g, .int .u8 q1.h, .int .i64 q1.tport, .int .i64 q1.dead] 28)))).mono ?_; rintro e w1 ⟨rfl, b1⟩; have B1 := Lib.hid (((B0.out).alloc B0.out.size (.cells #[.int .i64 q1.port, .int .i64 q1.sess, .int .i64 q1.ten, .int .u8 q1.a, .int .u8 q1.b, .int .u8 q1.c, .int .u8 q1.d, .int .u8 q1.e, .int .u8 q1.f, .int .u8 q1.g, .int .u8 q1.h, .int .i64 q1.tport, .int .i64 q1.dead] 28)).trans (b1.mono (by have := B0.out.size; simp <;> omega))); have QB1 := Lib.hid ((IsRow.made w 28 #[.int .i64 q1.port, .int .i64 q1.sess, .int .i64 q1.ten, .int .u8 q1.a, .int .u8 q1.b, .int .u8 q1.c, .int .u8 q1.d, .int .u8 q1.e, .int .u8 q1.f, .int .u8 q1.g, .int .u8 q1.h, .int .i64 q1.tport, .int .i64 q1.dead]).call b1); have QBc0 : w1.cell? ⟨w.heap.size, 0, none⟩ = some (.int .i64 q1.port) := QB1.out.cell 0; have QBc1 : w1.cell? ⟨w.heap.size, 1, none⟩ = some (.int .i64 q1.sess) := QB1.out.cell 1; have QBc2 : w1.cell? ⟨w.heap.size, 2, none⟩ = some (.int .i64 q1.ten) := QB1.out.cell 2; have QBc3 : w1.cell? ⟨w.heap.size, 3, none⟩ = some (.int .u8 q1.a) := QB1.out.cell 3; have QBc4 : w1.cell? ⟨w.heap.size, 4, none⟩ = some (.int .u8 q1.b) := QB1.out.cell 4; have QBc5 : w1.cell? ⟨w.heap.size, 5, none⟩ = some (.int .u8 q1.c) := QB1.out.cell 5; have QBc6 : w1.cell? ⟨w.heap.size, 6, none⟩ = some (.int .u8 q1.d) := QB1.out.cell 6; have QBc7 : w1.cell? ⟨w.heap.size, 7, none⟩ = some (.int .u8 q1.e) := QB1.out.cell 7; have QBc8 : w1.cell? ⟨w.heap.size, 8, none⟩ = some (.int .u8 q1.f) := QB1.out.cell 8; have QBc9 : w1.cell? ⟨w.heap.size, 9, none⟩ = some (.int .u8 q1.g) := QB1.out.cell 9; have QBc10 : w1.cell? ⟨w.heap.size, 10, none⟩ = some (.int .u8 q1.h) := QB1.out.cell 10; have QBc11 : w1.cell? ⟨w.heap.size, 11, none⟩ = some (.int .i64 q1.tport) := QB1.out.cell 11; have QBc12 : w1.cell? ⟨w.heap.size, 12, none⟩ = some (.int .i64 q1.dead) := QB1.out.cell 12; have QBlt : w.heap.size < w1.heap.size := QB1.out.lt; have YL1 := Lib.hid ((YL0.out.alloc (.cells #[.int .i64 q1.port, .int .i64 q1.sess, .int .i64 q1.ten, .int .u8 q1.a, .int .u8 q1.b, .int .u8 q1.c, .int .u8 q1.d, .int .u8 q1.e, .int .u8 q1.f, .int .u8 q1.g, .int .u8 q1.h, .int .i64 q1.tport, .int .i64 q1.dead] 28)).call b1); clear YL0)
          | (go_at_call 25; refine (H1.out _ YL1.out).mono ?_; rintro e w2 ⟨rfl, b2⟩; have B2 := Lib.hid (B1.out.trans (b2.mono B1.out.size)); have QB2 := Lib.hid (QB1.out.call b2); clear QBc0 QBc1 QBc2 QBc3 QBc4 QBc5 QBc6 QBc7 QBc8 QBc9 QBc10 QBc11 QBc12 QBlt; have QBc0 : w2.cell? ⟨w.heap.size, 0, none⟩ = some (.int .i64 q1.port) := QB2.out.cell 0; have QBc1 : w2.cell? ⟨w.heap.size, 1, none⟩ = some (.int .i64 q1.sess) := QB2.out.cell 1; have QBc2 : w2.cell? ⟨w.heap.size, 2, none⟩ = some (.int .i64 q1.ten) := QB2.out.cell 2; have QBc3 : w2.cell? ⟨w.heap.size, 3, none⟩ = some (.int .u8 q1.a) := QB2.out.cell 3; have QBc4 : w2.cell? ⟨w.heap.size, 4, none⟩ = some (.int .u8 q1.b) := QB2.out.cell 4; have QBc5 : w2.cell? ⟨w.heap.size, 5, none⟩ = some (.int .u8 q1.c) := QB2.out.cell 5; have QBc6 : w2.cell? ⟨w.heap.size, 6, none⟩ = some (.int .u8 q1.d) := QB2.out.cell 6; have QBc7 : w2.cell? ⟨w.heap.size, 7, none⟩ = some (.int .u8 q1.e) := QB2.out.cell 7; have QBc8 : w2.cell? ⟨w.heap.size, 8, none⟩ = some (.int .u8 q1.f) := QB2.out.cell 8; have QBc9 : w2.cell? ⟨w.heap.size, 9, none⟩ = some (.int .u8 q1.g) := QB2.out.cell 9; have QBc10 : w2.cell? ⟨w.heap.size, 10, none⟩ = some (.int .u8 q1.h) := QB2.out.cell 10; have QBc11 : w2.cell? ⟨w.heap.size, 11, none⟩ = some (.int .i64 q1.tport) := QB2.out.cell 11; have QBc12 : w2.cell? ⟨w.heap.size, 12, none⟩ = some (.int .i64 q1.dead) := QB2.out.cell 12; have QBlt : w.heap.size < w2.heap.size := QB2.out.lt; have YL2 := Lib.hid (YL1.out.call b2); clear YL1; clear H1; clear QB1)
          | (go_at_call 12; refine (H2.out _ YL2.out).mono ?_; rintro e w3 ⟨⟨p1, c1, rfl, y1⟩, b3⟩; have B3 := Lib.hid (B2.out.trans (b3.mono B2.out.size)); have QB3 := Lib.hid (QB2.out.call b3); clear QBc0 QBc1 QBc2 QBc3 QBc4 QBc5 QBc6 QBc7 QBc8 QBc9 QBc10 QBc11 QBc12 QBlt; have QBc0 : w3.cell? ⟨w.heap.size, 0, none⟩ = some (.int .i64 q1.port) := QB3.out.cell 0; have QBc1 : w3.cell? ⟨w.heap.size, 1, none⟩ = some (.int .i64 q1.sess) := QB3.out.cell 1; have QBc2 : w3.cell? ⟨w.heap.size, 2, none⟩ = some (.int .i64 q1.ten) := QB3.out.cell 2; have QBc3 : w3.cell? ⟨w.heap.size, 3, none⟩ = some (.int .u8 q1.a) := QB3.out.cell 3; have QBc4 : w3.cell? ⟨w.heap.size, 4, none⟩ = some (.int .u8 q1.b) := QB3.out.cell 4; have QBc5 : w3.cell? ⟨w.heap.size, 5, none⟩ = some (.int .u8 q1.c) := QB3.out.cell 5; have QBc6 : w3.cell? ⟨w.heap.size, 6, none⟩ = some (.int .u8 q1.d) := QB3.out.cell 6; have QBc7 : w3.cell? ⟨w.heap.size, 7, none⟩ = some (.int .u8 q1.e) := QB3.out.cell 7; have QBc8 : w3.cell? ⟨w.heap.size, 8, none⟩ = some (.int .u8 q1.f) := QB3.out.cell 8; have QBc9 : w3.cell? ⟨w.heap.size, 9, none⟩ = some (.int .u8 q1.g) := QB3.out.cell 9; have QBc10 : w3.cell? ⟨w.heap.size, 10, none⟩ = some (.int .u8 q1.h) := QB3.out.cell 10; have QBc11 : w3.cell? ⟨w.heap.size, 11, none⟩ = some (.int .i64 q1.tport) := QB3.out.cell 11; have QBc12 : w3.cell? ⟨w.heap.size, 12, none⟩ = some (.int .i64 q1.dead) := QB3.out.cell 12; have QBlt : w.heap.size < w3.heap.size := QB3.out.lt; have YL3 := Lib.hid (YL2.out.call b3); clear YL2; have YM3 := Lib.hid y1; clear y1; clear H2; clear QB2)
          | (go_at_call 25; refine (H3.out _ _ YM3.out).mono ?_; rintro e w4 ⟨rfl, b4⟩; have B4 := Lib.hid (B3.out.trans (b4.mono B3.out.size)); have QB4 := Lib.hid (QB3.out.call b4); clear QBc0 QBc1 QBc2 QBc3 QBc4 QBc5 QBc6 QBc7 QBc8 QBc9 QBc10 QBc11 QBc12 QBlt; have QBc0 : w4.cell? ⟨w.heap.size, 0, none⟩ = some (.int .i64 q1.port) := QB4.out.cell 0; have QBc1 : w4.cell? ⟨w.heap.size, 1, none⟩ = some (.int .i64 q1.sess) := QB4.out.cell 1; have QBc2 : w4.cell? ⟨w.heap.size, 2, none⟩ = some (.int .i64 q1.ten) := QB4.out.cell 2; have QBc3 : w4.cell? ⟨w.heap.size, 3, none⟩ = some (.int .u8 q1.a) := QB4.out.cell 3; have QBc4 : w4.cell? ⟨w.heap.size, 4, none⟩ = some (.int .u8 q1.b) := QB4.out.cell 4; have QBc5 : w4.cell? ⟨w.heap.size, 5, none⟩ = some (.int .u8 q1.c) := QB4.out.cell 5; have QBc6 : w4.cell? ⟨w.heap.size, 6, none⟩ = some (.int .u8 q1.d) := QB4.out.cell 6; have QBc7 : w4.cell? ⟨w.heap.size, 7, none⟩ = some (.int .u8 q1.e) := QB4.out.cell 7; have QBc8 : w4.cell? ⟨w.heap.size, 8, none⟩ = some (.int .u8 q1.f) := QB4.out.cell 8; have QBc9 : w4.cell? ⟨w.heap.size, 9, none⟩ = some (.int .u8 q1.g) := QB4.out.cell 9; have QBc10 : w4.cell? ⟨w.heap.size, 10, none⟩ = some (.int .u8 q1.h) := QB4.out.cell 10; have QBc11 : w4.cell? ⟨w.heap.size, 11, none⟩ = some (.int .i64 q1.tport) := QB4.out.cell 11; have QBc12 : w4.cell? ⟨w.heap.size, 12, none⟩ = some (.int .i64 q1.dead) := QB4.out.cell 12; have QBlt : w.heap.size < w4.heap.size := QB4.out.lt; have YL4 := Lib.hid (YL3.out.call b4); clear YL3; clear H3; clear QB3)
          | (go_at_call 19; refine (H4.out _ YL4.out).mono ?_; rintro e w5 ⟨⟨p2, c2, rfl, y2⟩, b5⟩; have B5 := Lib.hid (B4.out.trans (b5.mono B4.out.size)); have QB5 := Lib.hid (QB4.out.call b5); clear QBc0 QBc1 QBc2 QBc3 QBc4 QBc5 QBc6 QBc7 QBc8 QBc9 QBc10 QBc11 QBc12 QBlt; have QBc0 : w5.cell? ⟨w.heap.size, 0, none⟩ = some (.int .i64 q1.port) := QB5.out.cell 0; have QBc1 : w5.cell? ⟨w.heap.size, 1, none⟩ = some (.int .i64 q1.sess) := QB5.out.cell 1; have QBc2 : w5.cell? ⟨w.heap.size, 2, none⟩ = some (.int .i64 q1.ten) := QB5.out.cell 2; have QBc3 : w5.cell? ⟨w.heap.size, 3, none⟩ = some (.int .u8 q1.a) := QB5.out.cell 3; have QBc4 : w5.cell? ⟨w.heap.size, 4, none⟩ = some (.int .u8 q1.b) := QB5.out.cell 4; have QBc5 : w5.cell? ⟨w.heap.size, 5, none⟩ = some (.int .u8 q1.c) := QB5.out.cell 5; have QBc6 : w5.cell? ⟨w.heap.size, 6, none⟩ = some (.int .u8 q1.d) := QB5.out.cell 6; have QBc7 : w5.cell? ⟨w.heap.size, 7, none⟩ = some (.int .u8 q1.e) := QB5.out.cell 7; have QBc8 : w5.cell? ⟨w.heap.size, 8, none⟩ = some (.int .u8 q1.f) := QB5.out.cell 8; have QBc9 : w5.cell? ⟨w.heap.size, 9, none⟩ = some (.int .u8 q1.g) := QB5.out.cell 9; have QBc10 : w5.cell? ⟨w.heap.size, 10, none⟩ = some (.int .u8 q1.h) := QB5.out.cell 10; have QBc11 : w5.cell? ⟨w.heap.size, 11, none⟩ = some (.int .i64 q1.tport) := QB5.out.cell 11; have QBc12 : w5.cell? ⟨w.heap.size, 12, none⟩ = some (.int .i64 q1.dead) := QB5.out.cell 12; have QBlt : w.heap.size < w5.heap.size := QB5.out.lt; have YL5 := Lib.hid (YL4.out.call b5); clear YL4; have YR5 := Lib.hid y2; clear y2; clear H4; clear QB4)
          | (go_at_call 25; refine (H5.out _ _ YR5.out).mono ?_; rintro e w6 ⟨rfl, b6⟩; have B6 := Lib.hid (B5.out.trans (b6.mono B5.out.size)); have QB6 := Lib.hid (QB5.out.call b6); clear QBc0 QBc1 QBc2 QBc3 QBc4 QBc5 QBc6 QBc7 QBc8 QBc9 QBc10 QBc11 QBc12 QBlt; have QBc0 : w6.cell? ⟨w.heap.size, 0, none⟩ = some (.int .i64 q1.port) := QB6.out.cell 0; have QBc1 : w6.cell? ⟨w.heap.size, 1, none⟩ = some (.int .i64 q1.sess) := QB6.out.cell 1; have QBc2 : w6.cell? ⟨w.heap.size, 2, none⟩ = some (.int .i64 q1.ten) := QB6.out.cell 2; have QBc3 : w6.cell? ⟨w.heap.size, 3, none⟩ = some (.int .u8 q1.a) := QB6.out.cell 3; have QBc4 : w6.cell? ⟨w.heap.size, 4, none⟩ = some (.int .u8 q1.b) := QB6.out.cell 4; have QBc5 : w6.cell? ⟨w.heap.size, 5, none⟩ = some (.int .u8 q1.c) := QB6.out.cell 5; have QBc6 : w6.cell? ⟨w.heap.size, 6, none⟩ = some (.int .u8 q1.d) := QB6.out.cell 6; have QBc7 : w6.cell? ⟨w.heap.size, 7, none⟩ = some (.int .u8 q1.e) := QB6.out.cell 7; have QBc8 : w6.cell? ⟨w.heap.size, 8, none⟩ = some (.int .u8 q1.f) := QB6.out.cell 8; have QBc9 : w6.cell? ⟨w.heap.size, 9, none⟩ = some (.int .u8 q1.g) := QB6.out.cell 9; have QBc10 : w6.cell? ⟨w.heap.size, 10, none⟩ = some (.int .u8 q1.h) := QB6.out.cell 10; have QBc11 : w6.cell? ⟨w.heap.size, 11, none⟩ = some (.int .i64 q1.tport) := QB6.out.cell 11; have QBc12 : w6.cell? ⟨w.heap.size, 12, none⟩ = some (.int .i64 q1.dead) := QB6.out.cell 12; have QBlt : w.heap.size < w6.heap.size := QB6.out.lt; have YL6 := Lib.hid (YL5.out.call b6); clear YL5; have YR6 := Lib.hid (YR5.out.call b6); clear YR5; clear H5; clear QB5))
      go_loopw [14, 15] (fun x14 x15 wr => ∃ (k c0 : Nat), x14 = .int .i64 (c0 : Int) ∧ x15 = .int .i64 (k : Int) ∧ k ≤ n ∧ Hid (c0 = ((s0.take k).filter (fun x => !(x.sess == q1.sess))).length) ∧ Hid (Below w6.heap.size w6 wr)) (fun _ i _ => n - (intOf i).toNat)
      case atStart => exact ⟨0, 0, rfl, rfl, Nat.zero_le _, Lib.hid rfl, Lib.hid (Below.refl _ _)⟩
      case round =>
        obtain ⟨k, c0, rfl, rfl, hk, HT, HB⟩ := hrel
        clear QBc0 QBc1 QBc2 QBc3 QBc4 QBc5 QBc6 QBc7 QBc8 QBc9 QBc10 QBc11 QBc12 QBlt
        have hc9 : c0 ≤ 40 := by have := HT.out; have h2 := List.length_filter_le (fun x : Ho => !(x.sess == q1.sess)) (s0.take k); rw [List.length_take] at h2; omega
        by_cases hlt : k < n
        · have hji : (k : Int) < (n : Int) := by omega
          have HKN : Hid (k + 1 ≤ n) := Lib.hid hlt
          have hkl : k < s0.length := by rw [← HN.out]; exact hlt
          obtain ⟨b1, o1, rfl, hb1, hc1⟩ := (YL6.out.call HB.out).some (by omega)
          have T1 := hc1 k hkl
          have a0 := T1.c0; have a1 := T1.c1; have a2 := T1.c2; have a3 := T1.c3; have a4 := T1.c4; have a5 := T1.c5; have a6 := T1.c6; have a7 := T1.c7; have a8 := T1.c8; have a9 := T1.c9; have a10 := T1.c10; have a11 := T1.c11; have a12 := T1.c12
          have s1 := (QB6.out.call HB.out).cell 1
          have sl := (QB6.out.call HB.out).lt
          have HTN := Lib.hid (filter_next (f := fun x => !(x.sess == q1.sess)) hkl)
          have HX : Hid ((s0[k].sess == q1.sess) = false → ∃ (hq : c0 < r.length), r[c0] = s0[k]) := Lib.hid (fun h => by obtain ⟨hq, e⟩ := HAt.out k hkl h; have hT := HT.out; subst hT; exact ⟨hq, e⟩)
          clear hc1 T1
          generalize s0[k] = x at *
          cases h1 : (x.sess == q1.sess) with
          | true =>
            have HT2 : Hid (c0 = ((s0.take (k + 1)).filter (fun x => !(x.sess == q1.sess))).length) := Lib.hid (by rw [HTN.out, HT.out, h1]; simp)
            clear HX HTN
            go_wp2_with fail
            go_quiet (fail)
            go_wp2_with fail
            go_roundw
            case rel => exact ⟨k + 1, c0, by go_num, by go_num, HKN.out, HT2, Lib.hid (HB.out.trans ⟨rfl, rfl, rfl, Nat.le_refl _, fun _ _ => rfl⟩)⟩
            case measure => have := HKN.out; simp [intOf]; omega
          | false =>
            have HT2 : Hid (c0 + 1 = ((s0.take (k + 1)).filter (fun x => !(x.sess == q1.sess))).length) := Lib.hid (by rw [HTN.out, HT.out, h1]; simp)
            obtain ⟨hq, hqe⟩ := HX.out h1
            obtain ⟨b3, o3, rfl, hb3, hc3⟩ := (YR6.out.call HB.out).some (by omega)
            have T2 := hc3 c0 hq
            rw [hqe] at T2
            have d0 := T2.c0; have d1 := T2.c1; have d2 := T2.c2; have d3 := T2.c3; have d4 := T2.c4; have d5 := T2.c5; have d6 := T2.c6; have d7 := T2.c7; have d8 := T2.c8; have d9 := T2.c9; have d10 := T2.c10; have d11 := T2.c11; have d12 := T2.c12
            have hcN : c0 < NR := by rw [← HNR.out]; exact hq
            have hcd : decide ((NR : Int) ≤ (c0 : Int)) = false := decide_eq_false (by omega)
            have hci : (c0 : Int) < (NR : Int) := by omega
            have heq : ∀ W, (Op.equalIn 10000 28 (.agg #[.int .i64 x.port, .int .i64 x.sess, .int .i64 x.ten, .int .u8 x.a, .int .u8 x.b, .int .u8 x.c, .int .u8 x.d, .int .u8 x.e, .int .u8 x.f, .int .u8 x.g, .int .u8 x.h, .int .i64 x.tport, .int .i64 x.dead]) (.agg #[.int .i64 x.port, .int .i64 x.sess, .int .i64 x.ten, .int .u8 x.a, .int .u8 x.b, .int .u8 x.c, .int .u8 x.d, .int .u8 x.e, .int .u8 x.f, .int .u8 x.g, .int .u8 x.h, .int .i64 x.tport, .int .i64 x.dead])).run Try.prog W = .ok true W := fun W => by have := equal_holes x x W; rw [eqH_self] at this; exact this
            clear hc3 hqe hq HX HTN T2
            go_wp2_with fail
            go_quiet (fail)
            go_wp2_with fail
            go_quiet (fail)
            go_wp2_with fail
            go_roundw
            case rel => exact ⟨k + 1, c0 + 1, by go_num, by go_num, HKN.out, HT2, Lib.hid ((HB.out.trans ⟨rfl, rfl, rfl, Nat.le_refl _, fun _ _ => rfl⟩).trans ⟨rfl, rfl, rfl, Nat.le_refl _, fun _ _ => rfl⟩)⟩
            case measure => have := HKN.out; simp [intOf]; omega
        · have hji : ¬ (k : Int) < (n : Int) := by omega
          have hE : s0.take k = s0 := List.take_of_length_le (by have := HN.out; omega)
          have hcE : c0 = NR := by rw [← HNR.out, HF.out, HT.out, hE]
          subst hcE
          clear hE
          go_wp2_with fail
          go_ret
          exact ⟨by first | rfl | (simp; done) | (simp; omega), B6.out.trans (HB.out.mono B6.out.size)⟩

set_option maxRecDepth 100000 in
theorem lifted (os : Os) (started : os.Started) (H : Type) (enc : TypeId × Value → H) :
    ReturnsInHanded {} Try.checked os 6 .any (Rows.holeBoundsSpec.pre6 enc Try.prog Try.f6 Rows.holeBoundsRow.domain false) (Rows.holeBoundsSpec.post enc Try.prog Try.f6 false true false false) := by
  refine returnsInHanded_of_change (C := Try.checked) ownKnobs started (by kernel_rfl) Try.func6
    (ChangeSpec.witness6 (enc := enc) (C := Try.checked) false ⟨#[], #[.slice none 0 0, .agg #[.int .i64 0, .int .i64 0, .int .i64 0, .int .u8 0, .int .u8 0, .int .u8 0, .int .u8 0, .int .u8 0, .int .u8 0, .int .u8 0, .int .u8 0, .int .i64 0, .int .i64 0], .int .i64 0], []⟩ 8 (by kernel_rfl) (by kernel_rfl) (by kernel_rfl) (by kernel_rfl)) ?_
  intro W base args ds gs before hval0 hW _ _
  have E : Env W := trivial
  have hval : ∀ (j : Nat) t v, Try.f6.params[j]? = some t → args[j]? = some v → Value.okWide Try.prog W .any base t v := hval0
  have hW' := hW
  obtain ⟨p, q, hA0, hV, rfl, _, _⟩ := hW
  have hA : DataW.TrodAll enc Try.prog W 0 (fun _ => true) true Try.f6.params.toList args.toList ds p := hA0
  rw [Try.params6] at hA hval
  obtain ⟨v0, vs0, d0, ds0, p0, q0, hargs, rfl, rfl, r0, t0⟩ := trodAll_cons hA
  obtain ⟨v1, vs1, d1, ds1, p1, q1, rfl, rfl, rfl, r1, t1⟩ := trodAll_cons t0
  obtain ⟨v2, vs2, d2, ds2, p2, q2, rfl, rfl, rfl, r2, t2⟩ := trodAll_cons t1
  obtain ⟨rfl, rfl, rfl⟩ := trodAll_nil t2
  obtain rfl : args = #[v0, v1, v2] := by cases args; simp_all
  obtain ⟨rfl, rfl⟩ := trodVars_none hV
  obtain ⟨s0, y0⟩ := open_holes (hval 0 22 v0 rfl rfl) r0
  obtain ⟨q1, rfl⟩ := open_hole (hval 1 28 v1 rfl rfl) r1
  obtain ⟨n2, rfl, rfl, rfl, w2⟩ := open_int Try.underlying3 (hval 2 3 v2 rfl rfl) r2
  clear hA0 hval0
  simp only [List.append_nil] at hW'
  refine (walk v0 s0 q1 n2 (int_wf w2).1 (int_wf w2).2 W y0 E).mono fun e W' ⟨he, hb⟩ => ?_
  subst he
  have t0' := Below.trod laid_out (by kernel_rfl) (of_decide_eq_true (by kernel_rfl)) r0 hb (fun x hx => hW'.lt x (by simp [hx]))
  have t1' := Below.trod laid_out (by kernel_rfl) (of_decide_eq_true (by kernel_rfl)) r1 hb (fun x hx => hW'.lt x (by simp [hx]))
  exact ⟨_, rfl, told hW' (fun _ _ _ => trodAll_cons_mk (shut_bool Try.underlying4 _) trodAll_mk0) (trodAll_cons_mk (t0') (trodAll_cons_mk (t1') (trodAll_cons_mk (shut_int Try.underlying3 w2) trodAll_mk0))) (fun _ => rfl) hb⟩

theorem over : Rows.holeBoundsRow.holds Try.pinned (OpenSpec.ofChange Rows.holeBoundsSpec) :=
  OpenClaim.holds_of_wide 6 Try.f6 rfl rfl rfl rfl rfl rfl rfl ⟨rfl, rfl, rfl, rfl, rfl⟩ rfl rfl rfl rfl rfl (by kernel_rfl) Try.func6 (by kernel_rfl)
    (of_decide_eq_true (by kernel_rfl)) (by unfold Func.isWrapper; first | (rw [if_pos (by decide +kernel)]; kernel_rfl) | (rw [if_neg (by decide +kernel)]; exact ⟨rfl, rfl⟩))
    (fun os started H enc _ => lifted os started H enc)

theorem proved : Rows.HoleBoundsSaid :=
  over
#print axioms proved
end Go.Proofs.Ytaahghjllfkmaaa.holeBounds
