/- The document's answer for layer 21: what goes out when a link is over, one that leads to a connection, one that carries bytes (gen-data-ref.py). -/
import Derived.Test.YtfeiafjeidnmkaaDataJoin
import Derived.Test.YtfeiafjeidnmkaaDataRef
namespace Go.Proofs.Ytfeiafjeidnmkaa.Da
open Go.Proofs.Ytfeiafjeidnmkaa
open Go Go.ChangeShapes Go.WideShapes Go.ChangeAt Go.RowKit
set_option maxRecDepth 100000
set_option linter.unusedSimpArgs false
set_option linter.unusedVariables false


set_option maxHeartbeats 4000000 in
theorem rend_any (x : Lk) (r : List PO) (N : Nat) (hr : endL x.p = r) (hN : r.length = N) (w : World) (H : LinkIs w x) :
    Calls Try.prog 17 #[linkV x] w fun e w' => (∃ p k os, e = .returned (.slice p N k) ∧ RowIs outs w' (.slice p N k) os ∧ outsP os = r) ∧ Below w.heap.size w w' := by
  obtain ⟨p, n, c, hv, -⟩ := H.form
  obtain ⟨s, a, bb, wv, ws⟩ := x
  simp only at hv
  subst hv
  clear H
  have hr' : (if -1 < bb then [shutO a, shutO bb] else [shutO a]) = r := hr
  clear hr
  have B2 : Hid (Below w.heap.size w ((w.alloc (.cells #[.int .i64 s, .int .i64 a, .int .i64 bb, .slice p n c] 24)).alloc (.cells #[.int .i64 1, .int .i64 a, .int .u8 0, .int .u8 0, .int .u8 0, .int .u8 0, .int .i64 0, .slice none 0 0] 43))) := Lib.hid (((Below.refl _ _).alloc (Nat.le_refl _) _).alloc (by simp) _)
  by_cases h1 : bb ≥ 0
  · rw [if_pos (by omega)] at hr'
    have HR : Hid (r = [shutO a, shutO bb]) := Lib.hid hr'.symm
    obtain rfl : N = 2 := by rw [← hN, ← hr']; rfl
    clear hr' hN
    have O2 : Hid (OwnOuts (w.heap.size + 1) ((w.alloc (.cells #[.int .i64 s, .int .i64 a, .int .i64 bb, .slice p n c] 24)).alloc (.cells #[.int .i64 1, .int .i64 a, .int .u8 0, .int .u8 0, .int .u8 0, .int .u8 0, .int .i64 0, .slice none 0 0] 43)) (.slice (some ⟨w.heap.size + 1, 0, none⟩) 1 1) [(⟨1, a, 0, 0, 0, 0, 0, .slice none 0 0, []⟩ : Ou)]) := Lib.hid (by have h := own_one (w.heap.size + 1) (w.alloc (.cells #[.int .i64 s, .int .i64 a, .int .i64 bb, .slice p n c] 24)) (⟨1, a, 0, 0, 0, 0, 0, .slice none 0 0, []⟩ : Ou) (by simp); simp at h; exact h)
    have U2 : Hid (RowIs outs (((w.alloc (.cells #[.int .i64 s, .int .i64 a, .int .i64 bb, .slice p n c] 24)).alloc (.cells #[.int .i64 1, .int .i64 a, .int .u8 0, .int .u8 0, .int .u8 0, .int .u8 0, .int .i64 0, .slice none 0 0] 43)).alloc (.cells #[.int .i64 1, .int .i64 bb, .int .u8 0, .int .u8 0, .int .u8 0, .int .u8 0, .int .i64 0, .slice none 0 0] 43)) (.slice (some ⟨w.heap.size + 2, 0, none⟩) 1 1) [(⟨1, bb, 0, 0, 0, 0, 0, .slice none 0 0, []⟩ : Ou)]) := Lib.hid (by have h := one_out ((w.alloc (.cells #[.int .i64 s, .int .i64 a, .int .i64 bb, .slice p n c] 24)).alloc (.cells #[.int .i64 1, .int .i64 a, .int .u8 0, .int .u8 0, .int .u8 0, .int .u8 0, .int .i64 0, .slice none 0 0] 43)) (⟨1, bb, 0, 0, 0, 0, 0, .slice none 0 0, []⟩ : Ou) (BytesIs.nil _); simp at h; exact h)
    go_enter Try.func17, Try.ntmps17
    go_wp2_with (at_builtin; refine wpList_append_outs rfl _ _ rfl (w.heap.size + 1) (.slice (some ⟨w.heap.size + 1, 0, none⟩) 1 1) [(⟨1, a, 0, 0, 0, 0, 0, .slice none 0 0, []⟩ : Ou)] rfl (O2.out.alloc _) (.slice (some ⟨w.heap.size + 2, 0, none⟩) 1 1) [(⟨1, bb, 0, 0, 0, 0, 0, .slice none 0 0, []⟩ : Ou)] rfl U2.out (by simp) (by simp) ?_; intro v5 w5 o5 g5 e5; clear e5; have B5 := Lib.hid ((B2.out.alloc B2.out.size (.cells #[.int .i64 1, .int .i64 bb, .int .u8 0, .int .u8 0, .int .u8 0, .int .u8 0, .int .i64 0, .slice none 0 0] 43)).grown g5 (by simp; omega) (fun k hk => Nat.le_trans (Nat.le_succ _) (O2.out.ge k hk))); have O5 := Lib.hid o5; obtain ⟨p5, n5, c5, rfl, hn5⟩ := O5.out.form; obtain rfl : n5 = 2 := hn5; clear o5 g5)
    go_ret
    exact ⟨⟨p5, c5, [(⟨1, a, 0, 0, 0, 0, 0, .slice none 0 0, []⟩ : Ou), (⟨1, bb, 0, 0, 0, 0, 0, .slice none 0 0, []⟩ : Ou)], rfl, OwnRow.row O5.out (fun y hy => by
      simp only [List.cons_append, List.nil_append, List.mem_cons, List.mem_nil_iff, or_false] at hy
      rcases hy with rfl | rfl <;> exact BytesIs.nil _), by rw [HR.out]; rfl⟩, B5.out⟩
  · rw [if_neg (by omega)] at hr'
    have HR : Hid (r = [shutO a]) := Lib.hid hr'.symm
    obtain rfl : N = 1 := by rw [← hN, ← hr']; rfl
    clear hr' hN
    have U2 : Hid (RowIs outs ((w.alloc (.cells #[.int .i64 s, .int .i64 a, .int .i64 bb, .slice p n c] 24)).alloc (.cells #[.int .i64 1, .int .i64 a, .int .u8 0, .int .u8 0, .int .u8 0, .int .u8 0, .int .i64 0, .slice none 0 0] 43)) (.slice (some ⟨w.heap.size + 1, 0, none⟩) 1 1) [(⟨1, a, 0, 0, 0, 0, 0, .slice none 0 0, []⟩ : Ou)]) := Lib.hid (by have h := one_out (w.alloc (.cells #[.int .i64 s, .int .i64 a, .int .i64 bb, .slice p n c] 24)) (⟨1, a, 0, 0, 0, 0, 0, .slice none 0 0, []⟩ : Ou) (BytesIs.nil _); simp at h; exact h)
    go_enter Try.func17, Try.ntmps17
    go_wp2_with fail
    go_ret
    have g7 : outsP [(⟨1, a, 0, 0, 0, 0, 0, .slice none 0 0, []⟩ : Ou)] = r := by rw [HR.out]; rfl
    refine ⟨?_, B2.out⟩
    first
      | exact ⟨some ⟨w.heap.size + 1, 0, none⟩, 1, [(⟨1, a, 0, 0, 0, 0, 0, .slice none 0 0, []⟩ : Ou)], rfl, U2.out, g7⟩
      | exact ⟨some ⟨w.heap.size + 1, 0, none⟩, 1, rfl, [(⟨1, a, 0, 0, 0, 0, 0, .slice none 0 0, []⟩ : Ou)], U2.out, g7⟩

set_option maxHeartbeats 16000000 in
theorem rjoin_any (x : Lk) (cc : Int) (r : PL × List PO × Bool) (hr : joinL x.p cc = r) (hk : okL x.p) (w : World) (H : LinkIs w x) :
    Calls Try.prog 13 #[linkV x, .int .i64 cc] w fun e w' => (∃ y p n k os, e = .returned (.tuple #[linkV y, .slice p n k, .bool r.2.2]) ∧ LinkIs w' y ∧ y.p = r.1 ∧ RowIs outs w' (.slice p n k) os ∧ outsP os = r.2.1) ∧ Below w.heap.size w w' := by
  obtain ⟨hl, hbd⟩ := okL_ws hk
  obtain ⟨p, n, c, hv, hn⟩ := H.form
  have hmax := H.max
  obtain ⟨s, a, bb, wv, ws⟩ := x
  simp only at hl hbd hv hn hmax
  subst hv
  replace H : Hid (RowIs chunks w (.slice p n c) ws) := Lib.hid H
  have HN := Lib.hid hn
  rw [← hn] at hl hmax
  have B1 : Hid (Below w.heap.size w ((w.alloc (.cells #[.int .i64 s, .int .i64 a, .int .i64 bb, .slice p n c] 24)).alloc (.cells #[.int .i64 0, .int .i64 0, .int .i64 0, .slice none 0 0] 24))) := Lib.hid (((Below.refl _ _).alloc (Nat.le_refl _) _).alloc (by simp) _)
  have X1 : Hid (IsRow ((w.alloc (.cells #[.int .i64 s, .int .i64 a, .int .i64 bb, .slice p n c] 24)).alloc (.cells #[.int .i64 0, .int .i64 0, .int .i64 0, .slice none 0 0] 24)) w.heap.size 24 #[.int .i64 s, .int .i64 a, .int .i64 bb, .slice p n c]) := Lib.hid ((IsRow.made _ _ _).alloc _)
  have Z1 : Hid (IsRow ((w.alloc (.cells #[.int .i64 s, .int .i64 a, .int .i64 bb, .slice p n c] 24)).alloc (.cells #[.int .i64 0, .int .i64 0, .int .i64 0, .slice none 0 0] 24)) (w.heap.size + 1) 24 #[.int .i64 0, .int .i64 0, .int .i64 0, .slice none 0 0]) := Lib.hid (by have h := IsRow.made (w.alloc (.cells #[.int .i64 s, .int .i64 a, .int .i64 bb, .slice p n c] 24)) 24 #[.int .i64 0, .int .i64 0, .int .i64 0, .slice none 0 0]; simp at h; exact h)
  clear hn hbd hk
  have HM : Hid (∀ W, RowIs chunks W (.slice p n c) ws → Calls Try.prog 18 #[linkV ⟨s, a, bb, .slice p n c, ws⟩] W fun e w' => e = .returned (.bool (mayL ⟨s, a, bb, texts ws⟩)) ∧ Below W.heap.size W w') := Lib.hid (fun W h => rmay_any ⟨s, a, bb, .slice p n c, ws⟩ _ rfl W h)
  have hr' : (if mayL ⟨s, a, bb, texts ws⟩ = false ∨ -1 < bb ∨ cc ≤ -1 ∨ cc = a then ((⟨s, a, bb, texts ws⟩, [], false) : PL × List PO × Bool) else (⟨s, a, cc, []⟩, (texts ws).map (sendO cc), true)) = r := hr
  clear hr
  cases hm : mayL ⟨s, a, bb, texts ws⟩ with
  | false =>
    rw [hm] at hr' HM
    rw [if_pos (Or.inl rfl)] at hr'
    have HR : Hid (r = (⟨s, a, bb, texts ws⟩, [], false)) := Lib.hid hr'.symm
    clear hr'
    go_enter Try.func13, Try.ntmps13
    go_wp2_with (go_at_call 18; refine (HM.out _ (H.out.call B1.out)).mono ?_; rintro e w2 ⟨rfl, b2⟩; have B2 := Lib.hid (B1.out.trans (b2.mono B1.out.size)); have X2 := Lib.hid (X1.out.call b2); have Z2 := Lib.hid (Z1.out.call b2); have x0 : w2.cell? ⟨w.heap.size, 0, none⟩ = some _ := X2.out.cell 0; have xf0 : w2.frozen? ⟨w.heap.size, 0, none⟩ = false := X2.out.free 0; have x1 : w2.cell? ⟨w.heap.size, 1, none⟩ = some _ := X2.out.cell 1; have xf1 : w2.frozen? ⟨w.heap.size, 1, none⟩ = false := X2.out.free 1; have x2 : w2.cell? ⟨w.heap.size, 2, none⟩ = some _ := X2.out.cell 2; have xf2 : w2.frozen? ⟨w.heap.size, 2, none⟩ = false := X2.out.free 2; have x3 : w2.cell? ⟨w.heap.size, 3, none⟩ = some _ := X2.out.cell 3; have xf3 : w2.frozen? ⟨w.heap.size, 3, none⟩ = false := X2.out.free 3; have xlt := X2.out.lt; have z0 : w2.cell? ⟨w.heap.size + 1, 0, none⟩ = some _ := Z2.out.cell 0; have zf0 : w2.frozen? ⟨w.heap.size + 1, 0, none⟩ = false := Z2.out.free 0; have z1 : w2.cell? ⟨w.heap.size + 1, 1, none⟩ = some _ := Z2.out.cell 1; have zf1 : w2.frozen? ⟨w.heap.size + 1, 1, none⟩ = false := Z2.out.free 1; have z2 : w2.cell? ⟨w.heap.size + 1, 2, none⟩ = some _ := Z2.out.cell 2; have zf2 : w2.frozen? ⟨w.heap.size + 1, 2, none⟩ = false := Z2.out.free 2; have z3 : w2.cell? ⟨w.heap.size + 1, 3, none⟩ = some _ := Z2.out.cell 3; have zf3 : w2.frozen? ⟨w.heap.size + 1, 3, none⟩ = false := Z2.out.free 3; have zlt := Z2.out.lt; clear b2 X1 Z1 HM)
    have FR := Lib.hid (put4 (u0 := (.int .i64 s)) (u1 := (.int .i64 a)) (u2 := (.int .i64 bb)) (u3 := (.slice p n c)) Z2.out)
    have FB := Lib.hid (put4_below (b := w.heap.size + 1) (u0 := (.int .i64 s)) (u1 := (.int .i64 a)) (u2 := (.int .i64 bb)) (u3 := (.slice p n c)) B2.out (Nat.le_succ _))
    generalize hW : World.setCell _ _ _ = W9 at *
    have g0 := FR.out.cell 0; have g1 := FR.out.cell 1; have g2 := FR.out.cell 2; have g3 := FR.out.cell 3
    clear x0 x1 x2 x3 xf0 xf1 xf2 xf3 xlt z0 z1 z2 z3 zf0 zf1 zf2 zf3 zlt
    refine bodyPost_ret (v := .tuple #[linkV ⟨s, a, bb, .slice p n c, ws⟩, .slice none 0 0, .bool false]) (by simp [results, Try.results13, go_sem, g0, g1, g2, g3]; done) rfl ?_
    exact ⟨⟨⟨s, a, bb, .slice p n c, ws⟩, none, 0, 0, [], by rw [HR.out], H.out.call FB.out, by rw [HR.out]; rfl, RowIs.nil _ _, by rw [HR.out]; rfl⟩, FB.out⟩
  | true =>
    have hb3 := (mayL_parts hm).2.2.1
    simp only at hb3
    rw [hm] at hr' HM
    by_cases h1 : bb = -1
    · have h1' : (bb != -1) = false := by rw [h1]; rfl
      by_cases h2 : cc < 0
      · rw [if_pos (Or.inr (Or.inr (Or.inl (by omega))))] at hr'
        clear h1 hb3
        have HR : Hid (r = (⟨s, a, bb, texts ws⟩, [], false)) := Lib.hid hr'.symm
        clear hr'
        go_enter Try.func13, Try.ntmps13
        go_wp2_with (go_at_call 18; refine (HM.out _ (H.out.call B1.out)).mono ?_; rintro e w2 ⟨rfl, b2⟩; have B2 := Lib.hid (B1.out.trans (b2.mono B1.out.size)); have X2 := Lib.hid (X1.out.call b2); have Z2 := Lib.hid (Z1.out.call b2); have x0 : w2.cell? ⟨w.heap.size, 0, none⟩ = some _ := X2.out.cell 0; have xf0 : w2.frozen? ⟨w.heap.size, 0, none⟩ = false := X2.out.free 0; have x1 : w2.cell? ⟨w.heap.size, 1, none⟩ = some _ := X2.out.cell 1; have xf1 : w2.frozen? ⟨w.heap.size, 1, none⟩ = false := X2.out.free 1; have x2 : w2.cell? ⟨w.heap.size, 2, none⟩ = some _ := X2.out.cell 2; have xf2 : w2.frozen? ⟨w.heap.size, 2, none⟩ = false := X2.out.free 2; have x3 : w2.cell? ⟨w.heap.size, 3, none⟩ = some _ := X2.out.cell 3; have xf3 : w2.frozen? ⟨w.heap.size, 3, none⟩ = false := X2.out.free 3; have xlt := X2.out.lt; have z0 : w2.cell? ⟨w.heap.size + 1, 0, none⟩ = some _ := Z2.out.cell 0; have zf0 : w2.frozen? ⟨w.heap.size + 1, 0, none⟩ = false := Z2.out.free 0; have z1 : w2.cell? ⟨w.heap.size + 1, 1, none⟩ = some _ := Z2.out.cell 1; have zf1 : w2.frozen? ⟨w.heap.size + 1, 1, none⟩ = false := Z2.out.free 1; have z2 : w2.cell? ⟨w.heap.size + 1, 2, none⟩ = some _ := Z2.out.cell 2; have zf2 : w2.frozen? ⟨w.heap.size + 1, 2, none⟩ = false := Z2.out.free 2; have z3 : w2.cell? ⟨w.heap.size + 1, 3, none⟩ = some _ := Z2.out.cell 3; have zf3 : w2.frozen? ⟨w.heap.size + 1, 3, none⟩ = false := Z2.out.free 3; have zlt := Z2.out.lt; clear b2 X1 Z1 HM)
        have FR := Lib.hid (put4 (u0 := (.int .i64 s)) (u1 := (.int .i64 a)) (u2 := (.int .i64 bb)) (u3 := (.slice p n c)) Z2.out)
        have FB := Lib.hid (put4_below (b := w.heap.size + 1) (u0 := (.int .i64 s)) (u1 := (.int .i64 a)) (u2 := (.int .i64 bb)) (u3 := (.slice p n c)) B2.out (Nat.le_succ _))
        generalize hW : World.setCell _ _ _ = W9 at *
        have g0 := FR.out.cell 0; have g1 := FR.out.cell 1; have g2 := FR.out.cell 2; have g3 := FR.out.cell 3
        clear x0 x1 x2 x3 xf0 xf1 xf2 xf3 xlt z0 z1 z2 z3 zf0 zf1 zf2 zf3 zlt
        refine bodyPost_ret (v := .tuple #[linkV ⟨s, a, bb, .slice p n c, ws⟩, .slice none 0 0, .bool false]) (by simp [results, Try.results13, go_sem, g0, g1, g2, g3]; done) rfl ?_
        exact ⟨⟨⟨s, a, bb, .slice p n c, ws⟩, none, 0, 0, [], by rw [HR.out], H.out.call FB.out, by rw [HR.out]; rfl, RowIs.nil _ _, by rw [HR.out]; rfl⟩, FB.out⟩
      · by_cases h3 : cc = a
        · rw [if_pos (Or.inr (Or.inr (Or.inr h3)))] at hr'
          have h3' : (cc == a) = true := by rw [beq_iff_eq]; exact h3
          clear h3 h1 hb3
          have HR : Hid (r = (⟨s, a, bb, texts ws⟩, [], false)) := Lib.hid hr'.symm
          clear hr'
          go_enter Try.func13, Try.ntmps13
          go_wp2_with (go_at_call 18; refine (HM.out _ (H.out.call B1.out)).mono ?_; rintro e w2 ⟨rfl, b2⟩; have B2 := Lib.hid (B1.out.trans (b2.mono B1.out.size)); have X2 := Lib.hid (X1.out.call b2); have Z2 := Lib.hid (Z1.out.call b2); have x0 : w2.cell? ⟨w.heap.size, 0, none⟩ = some _ := X2.out.cell 0; have xf0 : w2.frozen? ⟨w.heap.size, 0, none⟩ = false := X2.out.free 0; have x1 : w2.cell? ⟨w.heap.size, 1, none⟩ = some _ := X2.out.cell 1; have xf1 : w2.frozen? ⟨w.heap.size, 1, none⟩ = false := X2.out.free 1; have x2 : w2.cell? ⟨w.heap.size, 2, none⟩ = some _ := X2.out.cell 2; have xf2 : w2.frozen? ⟨w.heap.size, 2, none⟩ = false := X2.out.free 2; have x3 : w2.cell? ⟨w.heap.size, 3, none⟩ = some _ := X2.out.cell 3; have xf3 : w2.frozen? ⟨w.heap.size, 3, none⟩ = false := X2.out.free 3; have xlt := X2.out.lt; have z0 : w2.cell? ⟨w.heap.size + 1, 0, none⟩ = some _ := Z2.out.cell 0; have zf0 : w2.frozen? ⟨w.heap.size + 1, 0, none⟩ = false := Z2.out.free 0; have z1 : w2.cell? ⟨w.heap.size + 1, 1, none⟩ = some _ := Z2.out.cell 1; have zf1 : w2.frozen? ⟨w.heap.size + 1, 1, none⟩ = false := Z2.out.free 1; have z2 : w2.cell? ⟨w.heap.size + 1, 2, none⟩ = some _ := Z2.out.cell 2; have zf2 : w2.frozen? ⟨w.heap.size + 1, 2, none⟩ = false := Z2.out.free 2; have z3 : w2.cell? ⟨w.heap.size + 1, 3, none⟩ = some _ := Z2.out.cell 3; have zf3 : w2.frozen? ⟨w.heap.size + 1, 3, none⟩ = false := Z2.out.free 3; have zlt := Z2.out.lt; clear b2 X1 Z1 HM)
          have FR := Lib.hid (put4 (u0 := (.int .i64 s)) (u1 := (.int .i64 a)) (u2 := (.int .i64 bb)) (u3 := (.slice p n c)) Z2.out)
          have FB := Lib.hid (put4_below (b := w.heap.size + 1) (u0 := (.int .i64 s)) (u1 := (.int .i64 a)) (u2 := (.int .i64 bb)) (u3 := (.slice p n c)) B2.out (Nat.le_succ _))
          generalize hW : World.setCell _ _ _ = W9 at *
          have g0 := FR.out.cell 0; have g1 := FR.out.cell 1; have g2 := FR.out.cell 2; have g3 := FR.out.cell 3
          clear x0 x1 x2 x3 xf0 xf1 xf2 xf3 xlt z0 z1 z2 z3 zf0 zf1 zf2 zf3 zlt
          refine bodyPost_ret (v := .tuple #[linkV ⟨s, a, bb, .slice p n c, ws⟩, .slice none 0 0, .bool false]) (by simp [results, Try.results13, go_sem, g0, g1, g2, g3]; done) rfl ?_
          exact ⟨⟨⟨s, a, bb, .slice p n c, ws⟩, none, 0, 0, [], by rw [HR.out], H.out.call FB.out, by rw [HR.out]; rfl, RowIs.nil _ _, by rw [HR.out]; rfl⟩, FB.out⟩
        · have h3' : (cc == a) = false := beq_eq_false_iff_ne.2 h3
          rw [if_neg (by rintro (h | h | h | h); cases h; omega; omega; exact h3 h)] at hr'
          have HR : Hid (r = (⟨s, a, cc, []⟩, (texts ws).map (sendO cc), true)) := Lib.hid hr'.symm
          clear hr' h3 h1 hb3
          go_enter Try.func13, Try.ntmps13
          go_wp2_with (go_at_call 18; refine (HM.out _ (H.out.call B1.out)).mono ?_; rintro e w2 ⟨rfl, b2⟩; have B2 := Lib.hid (B1.out.trans (b2.mono B1.out.size)); have X2 := Lib.hid (X1.out.call b2); have Z2 := Lib.hid (Z1.out.call b2); have x0 : w2.cell? ⟨w.heap.size, 0, none⟩ = some _ := X2.out.cell 0; have xf0 : w2.frozen? ⟨w.heap.size, 0, none⟩ = false := X2.out.free 0; have x1 : w2.cell? ⟨w.heap.size, 1, none⟩ = some _ := X2.out.cell 1; have xf1 : w2.frozen? ⟨w.heap.size, 1, none⟩ = false := X2.out.free 1; have x2 : w2.cell? ⟨w.heap.size, 2, none⟩ = some _ := X2.out.cell 2; have xf2 : w2.frozen? ⟨w.heap.size, 2, none⟩ = false := X2.out.free 2; have x3 : w2.cell? ⟨w.heap.size, 3, none⟩ = some _ := X2.out.cell 3; have xf3 : w2.frozen? ⟨w.heap.size, 3, none⟩ = false := X2.out.free 3; have xlt := X2.out.lt; have z0 : w2.cell? ⟨w.heap.size + 1, 0, none⟩ = some _ := Z2.out.cell 0; have zf0 : w2.frozen? ⟨w.heap.size + 1, 0, none⟩ = false := Z2.out.free 0; have z1 : w2.cell? ⟨w.heap.size + 1, 1, none⟩ = some _ := Z2.out.cell 1; have zf1 : w2.frozen? ⟨w.heap.size + 1, 1, none⟩ = false := Z2.out.free 1; have z2 : w2.cell? ⟨w.heap.size + 1, 2, none⟩ = some _ := Z2.out.cell 2; have zf2 : w2.frozen? ⟨w.heap.size + 1, 2, none⟩ = false := Z2.out.free 2; have z3 : w2.cell? ⟨w.heap.size + 1, 3, none⟩ = some _ := Z2.out.cell 3; have zf3 : w2.frozen? ⟨w.heap.size + 1, 3, none⟩ = false := Z2.out.free 3; have zlt := Z2.out.lt; clear b2 X1 Z1 HM)
          go_loopw [8, 9] (fun x8 x9 wr => ∃ (k : Nat) (p2 : Option Addr) (n2 c2 : Nat) (done : List Ou), x8 = .slice p2 n2 c2 ∧ x9 = .int .i64 (k : Int) ∧ k ≤ n ∧ Hid (outsP done = ((texts ws).take k).map (sendO cc)) ∧ Hid (OwnOuts w2.heap.size wr (.slice p2 n2 c2) done) ∧ Hid (∀ y ∈ done, ∃ z ∈ ws, y.bv = z.v ∧ y.b = z.b) ∧ Hid (Below w2.heap.size w2 wr)) (fun _ i _ => n - (intOf i).toNat)
          case atStart => exact ⟨0, none, 0, 0, [], rfl, rfl, Nat.zero_le _, Lib.hid rfl, Lib.hid (OwnRow.nil _ _), Lib.hid (fun _ h => by cases h), Lib.hid (Below.refl _ _)⟩
          case round =>
            clear x0 x1 x2 x3 xf0 xf1 xf2 xf3 xlt z0 z1 z2 z3 zf0 zf1 zf2 zf3 zlt
            obtain ⟨k, p2, n2, c2, done, rfl, rfl, hk, HT, HO, HW, HB⟩ := hrel
            have X3 := Lib.hid (X2.out.call HB.out)
            have Z3 := Lib.hid (Z2.out.call HB.out)
            have B3 := Lib.hid (B2.out.trans (HB.out.mono B2.out.size))
            have x0 : wr.cell? ⟨w.heap.size, 0, none⟩ = some _ := X3.out.cell 0; have xf0 : wr.frozen? ⟨w.heap.size, 0, none⟩ = false := X3.out.free 0; have x1 : wr.cell? ⟨w.heap.size, 1, none⟩ = some _ := X3.out.cell 1; have xf1 : wr.frozen? ⟨w.heap.size, 1, none⟩ = false := X3.out.free 1; have x2 : wr.cell? ⟨w.heap.size, 2, none⟩ = some _ := X3.out.cell 2; have xf2 : wr.frozen? ⟨w.heap.size, 2, none⟩ = false := X3.out.free 2; have x3 : wr.cell? ⟨w.heap.size, 3, none⟩ = some _ := X3.out.cell 3; have xf3 : wr.frozen? ⟨w.heap.size, 3, none⟩ = false := X3.out.free 3; have xlt := X3.out.lt
            by_cases hlt : k < n
            · have hji : (k : Int) < (n : Int) := by omega
              have HK : Hid (k + 1 ≤ n) := Lib.hid hlt
              have hkl : k < ws.length := by rw [← HN.out]; exact hlt
              have HLEN : Hid (done.length ≤ 1000) := Lib.hid (by have h := outsP_length done; rw [HT.out, List.length_map, List.length_take] at h; omega)
              have HRk := H.out.call B3.out
              have HX := Lib.hid (HRk.1 (ws[k]'hkl) (List.getElem_mem hkl))
              obtain ⟨b1, o1, rfl, hb1, hc1⟩ := HRk.some (by omega)
              have a0 : wr.cell? ⟨b1, o1 + k, none⟩ = some ((ws[k]'hkl).v) := by
                have := (hc1 k hkl).2 0 (by decide)
                simpa using this
              have HTK : Hid (((texts ws).take (k + 1)).map (sendO cc) = ((texts ws).take k).map (sendO cc) ++ [sendO cc (ws[k]'hkl).b]) := Lib.hid (map_texts _ hkl)
              have HMEM : Hid ((ws[k]'hkl) ∈ ws) := Lib.hid (List.getElem_mem hkl)
              obtain ⟨p4, c4, hz⟩ := HX.out.form
              clear hc1 HRk
              generalize ws[k]'hkl = x at *
              obtain ⟨N, hN⟩ : ∃ N, x.b.length = N := ⟨_, rfl⟩
              rw [hN] at hz
              rw [hz] at a0
              have HZ := Lib.hid hz
              have UX : Hid (RowIs outs (wr.alloc (.cells #[.int .i64 0, .int .i64 cc, .int .u8 0, .int .u8 0, .int .u8 0, .int .u8 0, .int .i64 0, .slice p4 N c4] 43)) (.slice (some ⟨wr.heap.size, 0, none⟩) 1 1) [⟨0, cc, 0, 0, 0, 0, 0, .slice p4 N c4, x.b⟩]) := Lib.hid (one_out wr ⟨0, cc, 0, 0, 0, 0, 0, .slice p4 N c4, x.b⟩ (by rw [← hz]; exact HX.out))
              clear hN hz
              go_wp2_with (at_builtin; refine wpList_append_outs rfl _ _ rfl w2.heap.size (.slice p2 n2 c2) done rfl (HO.out.alloc _) (.slice (some ⟨wr.heap.size, 0, none⟩) 1 1) [⟨0, cc, 0, 0, 0, 0, 0, .slice p4 N c4, x.b⟩] rfl UX.out (by have := HLEN.out; simp only [List.length_singleton]; omega) (by have := HB.out.size; simp; omega) ?_; intro v5 w5 o5 g5 e5; clear e5; have B5 := Lib.hid ((HB.out.alloc HB.out.size (.cells #[.int .i64 0, .int .i64 cc, .int .u8 0, .int .u8 0, .int .u8 0, .int .u8 0, .int .i64 0, .slice p4 N c4] 43)).grown g5 (by have := HB.out.size; simp; omega) HO.out.ge); have O5 := Lib.hid o5; have W5 : Hid (∀ y ∈ done ++ [(⟨0, cc, 0, 0, 0, 0, 0, .slice p4 N c4, x.b⟩ : Ou)], ∃ z ∈ ws, y.bv = z.v ∧ y.b = z.b) := Lib.hid (fun y hy => (List.mem_append.1 hy).elim (fun h => HW.out y h) (fun h => by rw [List.mem_singleton] at h; subst h; exact ⟨x, HMEM.out, HZ.out.symm, rfl⟩)); obtain ⟨p5, n5, c5, rfl, -⟩ := O5.out.form; clear o5 g5)
              go_roundw
              case rel => exact ⟨k + 1, p5, n5, c5, done ++ [⟨0, cc, 0, 0, 0, 0, 0, .slice p4 N c4, x.b⟩], rfl, by go_num, HK.out, Lib.hid (by rw [outsP_append, HT.out, HTK.out]; rfl), O5, W5, B5⟩
              case measure => have := HK.out; simp [intOf]; omega
            · have hji : ¬ (k : Int) < (n : Int) := by omega
              have HT2 : Hid (outsP done = (texts ws).map (sendO cc)) := Lib.hid (by rw [HT.out, List.take_of_length_le (by have := HN.out; rw [texts_length]; omega)])
              have X4 : Hid (IsRow (wr.setCell ⟨w.heap.size, 3, none⟩ (.slice none 0 0)) w.heap.size 24 #[.int .i64 s, .int .i64 a, .int .i64 bb, .slice none 0 0]) := Lib.hid (X3.out.set 3 _)
              have X5 : Hid (IsRow ((wr.setCell ⟨w.heap.size, 3, none⟩ (.slice none 0 0)).setCell ⟨w.heap.size, 2, none⟩ (.int .i64 cc)) w.heap.size 24 #[.int .i64 s, .int .i64 a, .int .i64 cc, .slice none 0 0]) := Lib.hid (X4.out.set 2 _)
              have Z5 : Hid (IsRow ((wr.setCell ⟨w.heap.size, 3, none⟩ (.slice none 0 0)).setCell ⟨w.heap.size, 2, none⟩ (.int .i64 cc)) (w.heap.size + 1) 24 #[.int .i64 0, .int .i64 0, .int .i64 0, .slice none 0 0]) := Lib.hid ((Z3.out.other (a := ⟨w.heap.size, 3, none⟩) (by show w.heap.size + 1 ≠ w.heap.size; omega) _).other (a := ⟨w.heap.size, 2, none⟩) (by show w.heap.size + 1 ≠ w.heap.size; omega) _)
              have B5 : Hid (Below w.heap.size w ((wr.setCell ⟨w.heap.size, 3, none⟩ (.slice none 0 0)).setCell ⟨w.heap.size, 2, none⟩ (.int .i64 cc))) := Lib.hid ((B3.out.setCell (p := ⟨w.heap.size, 3, none⟩) (Nat.le_refl _) _).setCell (p := ⟨w.heap.size, 2, none⟩) (Nat.le_refl _) _)
              have O5 : Hid (OwnOuts w2.heap.size ((wr.setCell ⟨w.heap.size, 3, none⟩ (.slice none 0 0)).setCell ⟨w.heap.size, 2, none⟩ (.int .i64 cc)) (.slice p2 n2 c2) done) := Lib.hid (own_set X4.out (own_set X3.out HO.out ty_lo 3 _) ty_lo 2 _)
              have xf42 : (wr.setCell ⟨w.heap.size, 3, none⟩ (.slice none 0 0)).frozen? ⟨w.heap.size, 2, none⟩ = false := X4.out.free 2
              have x42 : (wr.setCell ⟨w.heap.size, 3, none⟩ (.slice none 0 0)).cell? ⟨w.heap.size, 2, none⟩ = some _ := X4.out.cell 2
              have x50 := X5.out.cell 0; have x51 := X5.out.cell 1; have x52 := X5.out.cell 2; have x53 := X5.out.cell 3
              have z0 : ((wr.setCell ⟨w.heap.size, 3, none⟩ (.slice none 0 0)).setCell ⟨w.heap.size, 2, none⟩ (.int .i64 cc)).cell? ⟨w.heap.size + 1, 0, none⟩ = some _ := Z5.out.cell 0; have zf0 : ((wr.setCell ⟨w.heap.size, 3, none⟩ (.slice none 0 0)).setCell ⟨w.heap.size, 2, none⟩ (.int .i64 cc)).frozen? ⟨w.heap.size + 1, 0, none⟩ = false := Z5.out.free 0; have z1 : ((wr.setCell ⟨w.heap.size, 3, none⟩ (.slice none 0 0)).setCell ⟨w.heap.size, 2, none⟩ (.int .i64 cc)).cell? ⟨w.heap.size + 1, 1, none⟩ = some _ := Z5.out.cell 1; have zf1 : ((wr.setCell ⟨w.heap.size, 3, none⟩ (.slice none 0 0)).setCell ⟨w.heap.size, 2, none⟩ (.int .i64 cc)).frozen? ⟨w.heap.size + 1, 1, none⟩ = false := Z5.out.free 1; have z2 : ((wr.setCell ⟨w.heap.size, 3, none⟩ (.slice none 0 0)).setCell ⟨w.heap.size, 2, none⟩ (.int .i64 cc)).cell? ⟨w.heap.size + 1, 2, none⟩ = some _ := Z5.out.cell 2; have zf2 : ((wr.setCell ⟨w.heap.size, 3, none⟩ (.slice none 0 0)).setCell ⟨w.heap.size, 2, none⟩ (.int .i64 cc)).frozen? ⟨w.heap.size + 1, 2, none⟩ = false := Z5.out.free 2; have z3 : ((wr.setCell ⟨w.heap.size, 3, none⟩ (.slice none 0 0)).setCell ⟨w.heap.size, 2, none⟩ (.int .i64 cc)).cell? ⟨w.heap.size + 1, 3, none⟩ = some _ := Z5.out.cell 3; have zf3 : ((wr.setCell ⟨w.heap.size, 3, none⟩ (.slice none 0 0)).setCell ⟨w.heap.size, 2, none⟩ (.int .i64 cc)).frozen? ⟨w.heap.size + 1, 3, none⟩ = false := Z5.out.free 3; have zlt := Z5.out.lt
              have FR := Lib.hid (put4 (u0 := (.int .i64 s)) (u1 := (.int .i64 a)) (u2 := (.int .i64 cc)) (u3 := (.slice none 0 0)) Z5.out)
              have FB := Lib.hid (put4_below (b := w.heap.size + 1) (u0 := (.int .i64 s)) (u1 := (.int .i64 a)) (u2 := (.int .i64 cc)) (u3 := (.slice none 0 0)) B5.out (Nat.le_succ _))
              have FO : Hid (OwnOuts w2.heap.size (World.setCell (World.setCell (World.setCell (World.setCell ((wr.setCell ⟨w.heap.size, 3, none⟩ (.slice none 0 0)).setCell ⟨w.heap.size, 2, none⟩ (.int .i64 cc)) ⟨w.heap.size + 1, 0, none⟩ (.int .i64 s)) ⟨w.heap.size + 1, 1, none⟩ (.int .i64 a)) ⟨w.heap.size + 1, 2, none⟩ (.int .i64 cc)) ⟨w.heap.size + 1, 3, none⟩ (.slice none 0 0)) (.slice p2 n2 c2) done) := Lib.hid (put4_own (u0 := (.int .i64 s)) (u1 := (.int .i64 a)) (u2 := (.int .i64 cc)) (u3 := (.slice none 0 0)) Z5.out O5.out ty_lo)
              go_wp2_with fail
              generalize hW : (World.setCell (World.setCell (World.setCell (World.setCell ((wr.setCell ⟨w.heap.size, 3, none⟩ (.slice none 0 0)).setCell ⟨w.heap.size, 2, none⟩ (.int .i64 cc)) ⟨w.heap.size + 1, 0, none⟩ (.int .i64 s)) ⟨w.heap.size + 1, 1, none⟩ (.int .i64 a)) ⟨w.heap.size + 1, 2, none⟩ (.int .i64 cc)) ⟨w.heap.size + 1, 3, none⟩ (.slice none 0 0)) = W9 at *
              clear x0 x1 x2 x3 xf0 xf1 xf2 xf3 xlt xf42 x42 x50 x51 x52 x53 z0 z1 z2 z3 zf0 zf1 zf2 zf3 zlt
              have g0 := FR.out.cell 0; have g1 := FR.out.cell 1; have g2 := FR.out.cell 2; have g3 := FR.out.cell 3
              refine bodyPost_ret (v := .tuple #[linkV ⟨s, a, cc, .slice none 0 0, []⟩, .slice p2 n2 c2, .bool true]) (by simp [results, Try.results13, go_sem, g0, g1, g2, g3]; done) rfl ?_
              have g5 : LinkIs W9 ⟨s, a, cc, .slice none 0 0, []⟩ := RowIs.nil _ _
              have g6 : (⟨s, a, cc, .slice none 0 0, []⟩ : Lk).p = r.1 := by rw [HR.out]; rfl
              have g7 : outsP done = r.2.1 := by rw [HR.out]; exact HT2.out
              have g8 : RowIs outs W9 (.slice p2 n2 c2) done := FO.out.row (fun y hy => by
                obtain ⟨z, hz, e1, e2⟩ := HW.out y hy
                show BytesIs W9 y.bv y.b
                rw [e1, e2]
                exact (H.out.call FB.out).1 z hz)
              refine ⟨⟨(⟨s, a, cc, .slice none 0 0, []⟩ : Lk), p2, n2, c2, ?_⟩, FB.out⟩
              first
                | exact ⟨done, by rw [HR.out], g5, g6, g8, g7⟩
                | exact ⟨by rw [HR.out], g5, g6, done, g8, g7⟩
    · rw [if_pos (Or.inr (Or.inl (by omega)))] at hr'
      have h1' : (bb != -1) = true := by rw [bne_iff_ne]; exact h1
      clear h1 hb3
      have HR : Hid (r = (⟨s, a, bb, texts ws⟩, [], false)) := Lib.hid hr'.symm
      clear hr'
      go_enter Try.func13, Try.ntmps13
      go_wp2_with (go_at_call 18; refine (HM.out _ (H.out.call B1.out)).mono ?_; rintro e w2 ⟨rfl, b2⟩; have B2 := Lib.hid (B1.out.trans (b2.mono B1.out.size)); have X2 := Lib.hid (X1.out.call b2); have Z2 := Lib.hid (Z1.out.call b2); have x0 : w2.cell? ⟨w.heap.size, 0, none⟩ = some _ := X2.out.cell 0; have xf0 : w2.frozen? ⟨w.heap.size, 0, none⟩ = false := X2.out.free 0; have x1 : w2.cell? ⟨w.heap.size, 1, none⟩ = some _ := X2.out.cell 1; have xf1 : w2.frozen? ⟨w.heap.size, 1, none⟩ = false := X2.out.free 1; have x2 : w2.cell? ⟨w.heap.size, 2, none⟩ = some _ := X2.out.cell 2; have xf2 : w2.frozen? ⟨w.heap.size, 2, none⟩ = false := X2.out.free 2; have x3 : w2.cell? ⟨w.heap.size, 3, none⟩ = some _ := X2.out.cell 3; have xf3 : w2.frozen? ⟨w.heap.size, 3, none⟩ = false := X2.out.free 3; have xlt := X2.out.lt; have z0 : w2.cell? ⟨w.heap.size + 1, 0, none⟩ = some _ := Z2.out.cell 0; have zf0 : w2.frozen? ⟨w.heap.size + 1, 0, none⟩ = false := Z2.out.free 0; have z1 : w2.cell? ⟨w.heap.size + 1, 1, none⟩ = some _ := Z2.out.cell 1; have zf1 : w2.frozen? ⟨w.heap.size + 1, 1, none⟩ = false := Z2.out.free 1; have z2 : w2.cell? ⟨w.heap.size + 1, 2, none⟩ = some _ := Z2.out.cell 2; have zf2 : w2.frozen? ⟨w.heap.size + 1, 2, none⟩ = false := Z2.out.free 2; have z3 : w2.cell? ⟨w.heap.size + 1, 3, none⟩ = some _ := Z2.out.cell 3; have zf3 : w2.frozen? ⟨w.heap.size + 1, 3, none⟩ = false := Z2.out.free 3; have zlt := Z2.out.lt; clear b2 X1 Z1 HM)
      have FR := Lib.hid (put4 (u0 := (.int .i64 s)) (u1 := (.int .i64 a)) (u2 := (.int .i64 bb)) (u3 := (.slice p n c)) Z2.out)
      have FB := Lib.hid (put4_below (b := w.heap.size + 1) (u0 := (.int .i64 s)) (u1 := (.int .i64 a)) (u2 := (.int .i64 bb)) (u3 := (.slice p n c)) B2.out (Nat.le_succ _))
      generalize hW : World.setCell _ _ _ = W9 at *
      have g0 := FR.out.cell 0; have g1 := FR.out.cell 1; have g2 := FR.out.cell 2; have g3 := FR.out.cell 3
      clear x0 x1 x2 x3 xf0 xf1 xf2 xf3 xlt z0 z1 z2 z3 zf0 zf1 zf2 zf3 zlt
      refine bodyPost_ret (v := .tuple #[linkV ⟨s, a, bb, .slice p n c, ws⟩, .slice none 0 0, .bool false]) (by simp [results, Try.results13, go_sem, g0, g1, g2, g3]; done) rfl ?_
      exact ⟨⟨⟨s, a, bb, .slice p n c, ws⟩, none, 0, 0, [], by rw [HR.out], H.out.call FB.out, by rw [HR.out]; rfl, RowIs.nil _ _, by rw [HR.out]; rfl⟩, FB.out⟩

set_option maxHeartbeats 16000000 in
theorem rcarry_any (x : Lk) (cc : Int) (u : Value) (d : List UInt8) (r : PL × List PO × Bool) (hr : carryL x.p cc d = r) (hk : okL x.p) (hd : d.length ≤ 1000000) (w : World) (H : LinkIs w x) (D : BytesIs w u d) :
    Calls Try.prog 11 #[linkV x, .int .i64 cc, u] w fun e w' => (∃ y p n k os, e = .returned (.tuple #[linkV y, .slice p n k, .bool r.2.2]) ∧ LinkIs w' y ∧ y.p = r.1 ∧ RowIs outs w' (.slice p n k) os ∧ outsP os = r.2.1) ∧ Below w.heap.size w w' := by
  obtain ⟨hl, hbd⟩ := okL_ws hk
  obtain ⟨p, n, c, hv, hn⟩ := H.form
  have hmax := H.max
  obtain ⟨s, a, bb, wv, ws⟩ := x
  simp only at hl hbd hv hn hmax
  subst hv
  replace H : Hid (RowIs chunks w (.slice p n c) ws) := Lib.hid H
  have HN := Lib.hid hn
  rw [← hn] at hl hmax
  have B1 : Hid (Below w.heap.size w ((w.alloc (.cells #[.int .i64 s, .int .i64 a, .int .i64 bb, .slice p n c] 24)).alloc (.cells #[.int .i64 0, .int .i64 0, .int .i64 0, .slice none 0 0] 24))) := Lib.hid (((Below.refl _ _).alloc (Nat.le_refl _) _).alloc (by simp) _)
  have X1 : Hid (IsRow ((w.alloc (.cells #[.int .i64 s, .int .i64 a, .int .i64 bb, .slice p n c] 24)).alloc (.cells #[.int .i64 0, .int .i64 0, .int .i64 0, .slice none 0 0] 24)) w.heap.size 24 #[.int .i64 s, .int .i64 a, .int .i64 bb, .slice p n c]) := Lib.hid ((IsRow.made _ _ _).alloc _)
  have Z1 : Hid (IsRow ((w.alloc (.cells #[.int .i64 s, .int .i64 a, .int .i64 bb, .slice p n c] 24)).alloc (.cells #[.int .i64 0, .int .i64 0, .int .i64 0, .slice none 0 0] 24)) (w.heap.size + 1) 24 #[.int .i64 0, .int .i64 0, .int .i64 0, .slice none 0 0]) := Lib.hid (by have h := IsRow.made (w.alloc (.cells #[.int .i64 s, .int .i64 a, .int .i64 bb, .slice p n c] 24)) 24 #[.int .i64 0, .int .i64 0, .int .i64 0, .slice none 0 0]; simp at h; exact h)
  clear hn hbd hk
  have HM : Hid (∀ W, RowIs chunks W (.slice p n c) ws → Calls Try.prog 18 #[linkV ⟨s, a, bb, .slice p n c, ws⟩] W fun e w' => e = .returned (.bool (mayL ⟨s, a, bb, texts ws⟩)) ∧ Below W.heap.size W w') := Lib.hid (fun W h => rmay_any ⟨s, a, bb, .slice p n c, ws⟩ _ rfl W h)
  have HD := Lib.hid D
  obtain ⟨pu, cu, rfl⟩ := D.form
  obtain ⟨N, hN⟩ : ∃ N, d.length = N := ⟨_, rfl⟩
  rw [hN] at HD hd ⊢
  have hr' : (if mayL ⟨s, a, bb, texts ws⟩ = false ∨ hasL ⟨s, a, bb, texts ws⟩ cc = false then ((⟨s, a, bb, texts ws⟩, [], false) : PL × List PO × Bool) else if d.length = 0 then (⟨s, a, bb, texts ws⟩, [], true) else if -1 < otherL a bb cc then (⟨s, a, bb, texts ws⟩, [sendO (otherL a bb cc) d], true) else if (texts ws).length = 4 then (⟨s, a, bb, texts ws⟩, [], false) else (⟨s, a, bb, texts ws ++ [d]⟩, [], true)) = r := hr
  rw [hN, texts_length, ← HN.out] at hr'
  clear hr D hN
  have HH : Hid (∀ W, RowIs chunks W (.slice p n c) ws → Calls Try.prog 19 #[linkV ⟨s, a, bb, .slice p n c, ws⟩, .int .i64 cc] W fun e w' => e = .returned (.bool (hasL ⟨s, a, bb, texts ws⟩ cc)) ∧ Below W.heap.size W w') := Lib.hid (fun W h => rhas_any ⟨s, a, bb, .slice p n c, ws⟩ cc _ rfl W h)
  cases hm : mayL ⟨s, a, bb, texts ws⟩ with
  | false =>
    rw [hm] at hr' HM
    rw [if_pos (Or.inl rfl)] at hr'
    have HR : Hid (r = (⟨s, a, bb, texts ws⟩, [], false)) := Lib.hid hr'.symm
    clear hr'
    go_enter Try.func11, Try.ntmps11
    go_wp2_with (first
      | (go_at_call 18; refine (HM.out _ (H.out.call B1.out)).mono ?_; rintro e w2 ⟨rfl, b2⟩; have B2 := Lib.hid (B1.out.trans (b2.mono B1.out.size)); have X2 := Lib.hid (X1.out.call b2); have Z2 := Lib.hid (Z1.out.call b2); have x0 : w2.cell? ⟨w.heap.size, 0, none⟩ = some _ := X2.out.cell 0; have xf0 : w2.frozen? ⟨w.heap.size, 0, none⟩ = false := X2.out.free 0; have x1 : w2.cell? ⟨w.heap.size, 1, none⟩ = some _ := X2.out.cell 1; have xf1 : w2.frozen? ⟨w.heap.size, 1, none⟩ = false := X2.out.free 1; have x2 : w2.cell? ⟨w.heap.size, 2, none⟩ = some _ := X2.out.cell 2; have xf2 : w2.frozen? ⟨w.heap.size, 2, none⟩ = false := X2.out.free 2; have x3 : w2.cell? ⟨w.heap.size, 3, none⟩ = some _ := X2.out.cell 3; have xf3 : w2.frozen? ⟨w.heap.size, 3, none⟩ = false := X2.out.free 3; have xlt := X2.out.lt; have z0 : w2.cell? ⟨w.heap.size + 1, 0, none⟩ = some _ := Z2.out.cell 0; have zf0 : w2.frozen? ⟨w.heap.size + 1, 0, none⟩ = false := Z2.out.free 0; have z1 : w2.cell? ⟨w.heap.size + 1, 1, none⟩ = some _ := Z2.out.cell 1; have zf1 : w2.frozen? ⟨w.heap.size + 1, 1, none⟩ = false := Z2.out.free 1; have z2 : w2.cell? ⟨w.heap.size + 1, 2, none⟩ = some _ := Z2.out.cell 2; have zf2 : w2.frozen? ⟨w.heap.size + 1, 2, none⟩ = false := Z2.out.free 2; have z3 : w2.cell? ⟨w.heap.size + 1, 3, none⟩ = some _ := Z2.out.cell 3; have zf3 : w2.frozen? ⟨w.heap.size + 1, 3, none⟩ = false := Z2.out.free 3; have zlt := Z2.out.lt; clear b2 X1 Z1 HM)
      | (go_at_call 19; refine (HH.out _ (H.out.call B2.out)).mono ?_; rintro e w3 ⟨rfl, b3⟩; have B3 := Lib.hid (B2.out.trans (b3.mono B2.out.size)); have X3 := Lib.hid (X2.out.call b3); have Z3 := Lib.hid (Z2.out.call b3); clear x0 x1 x2 x3 xf0 xf1 xf2 xf3 xlt z0 z1 z2 z3 zf0 zf1 zf2 zf3 zlt; have x0 : w3.cell? ⟨w.heap.size, 0, none⟩ = some _ := X3.out.cell 0; have xf0 : w3.frozen? ⟨w.heap.size, 0, none⟩ = false := X3.out.free 0; have x1 : w3.cell? ⟨w.heap.size, 1, none⟩ = some _ := X3.out.cell 1; have xf1 : w3.frozen? ⟨w.heap.size, 1, none⟩ = false := X3.out.free 1; have x2 : w3.cell? ⟨w.heap.size, 2, none⟩ = some _ := X3.out.cell 2; have xf2 : w3.frozen? ⟨w.heap.size, 2, none⟩ = false := X3.out.free 2; have x3 : w3.cell? ⟨w.heap.size, 3, none⟩ = some _ := X3.out.cell 3; have xf3 : w3.frozen? ⟨w.heap.size, 3, none⟩ = false := X3.out.free 3; have xlt := X3.out.lt; have z0 : w3.cell? ⟨w.heap.size + 1, 0, none⟩ = some _ := Z3.out.cell 0; have zf0 : w3.frozen? ⟨w.heap.size + 1, 0, none⟩ = false := Z3.out.free 0; have z1 : w3.cell? ⟨w.heap.size + 1, 1, none⟩ = some _ := Z3.out.cell 1; have zf1 : w3.frozen? ⟨w.heap.size + 1, 1, none⟩ = false := Z3.out.free 1; have z2 : w3.cell? ⟨w.heap.size + 1, 2, none⟩ = some _ := Z3.out.cell 2; have zf2 : w3.frozen? ⟨w.heap.size + 1, 2, none⟩ = false := Z3.out.free 2; have z3 : w3.cell? ⟨w.heap.size + 1, 3, none⟩ = some _ := Z3.out.cell 3; have zf3 : w3.frozen? ⟨w.heap.size + 1, 3, none⟩ = false := Z3.out.free 3; have zlt := Z3.out.lt; clear b3 X2 Z2 HH))
    have FR := Lib.hid (put4 (u0 := (.int .i64 s)) (u1 := (.int .i64 a)) (u2 := (.int .i64 bb)) (u3 := (.slice p n c)) Z3.out)
    have FB := Lib.hid (put4_below (b := w.heap.size + 1) (u0 := (.int .i64 s)) (u1 := (.int .i64 a)) (u2 := (.int .i64 bb)) (u3 := (.slice p n c)) B3.out (Nat.le_succ _))
    generalize hW : World.setCell _ _ _ = W9 at *
    have g0 := FR.out.cell 0; have g1 := FR.out.cell 1; have g2 := FR.out.cell 2; have g3 := FR.out.cell 3
    clear x0 x1 x2 x3 xf0 xf1 xf2 xf3 xlt z0 z1 z2 z3 zf0 zf1 zf2 zf3 zlt
    refine bodyPost_ret (v := .tuple #[linkV ⟨s, a, bb, .slice p n c, ws⟩, .slice none 0 0, .bool false]) (by simp [results, Try.results11, go_sem, g0, g1, g2, g3]; done) rfl ?_
    exact ⟨⟨⟨s, a, bb, .slice p n c, ws⟩, none, 0, 0, [], by rw [HR.out], H.out.call FB.out, by rw [HR.out]; rfl, RowIs.nil _ _, by rw [HR.out]; rfl⟩, FB.out⟩
  | true =>
    obtain ⟨-, hp1, hp2, hp3, -⟩ := mayL_parts hm
    simp only at hp1 hp2 hp3
    rw [hm] at hr' HM
    cases hh : hasL ⟨s, a, bb, texts ws⟩ cc with
    | false =>
      rw [hh] at hr' HH
      rw [if_pos (Or.inr rfl)] at hr'
      have HR : Hid (r = (⟨s, a, bb, texts ws⟩, [], false)) := Lib.hid hr'.symm
      clear hr'
      go_enter Try.func11, Try.ntmps11
      go_wp2_with (first
        | (go_at_call 18; refine (HM.out _ (H.out.call B1.out)).mono ?_; rintro e w2 ⟨rfl, b2⟩; have B2 := Lib.hid (B1.out.trans (b2.mono B1.out.size)); have X2 := Lib.hid (X1.out.call b2); have Z2 := Lib.hid (Z1.out.call b2); have x0 : w2.cell? ⟨w.heap.size, 0, none⟩ = some _ := X2.out.cell 0; have xf0 : w2.frozen? ⟨w.heap.size, 0, none⟩ = false := X2.out.free 0; have x1 : w2.cell? ⟨w.heap.size, 1, none⟩ = some _ := X2.out.cell 1; have xf1 : w2.frozen? ⟨w.heap.size, 1, none⟩ = false := X2.out.free 1; have x2 : w2.cell? ⟨w.heap.size, 2, none⟩ = some _ := X2.out.cell 2; have xf2 : w2.frozen? ⟨w.heap.size, 2, none⟩ = false := X2.out.free 2; have x3 : w2.cell? ⟨w.heap.size, 3, none⟩ = some _ := X2.out.cell 3; have xf3 : w2.frozen? ⟨w.heap.size, 3, none⟩ = false := X2.out.free 3; have xlt := X2.out.lt; have z0 : w2.cell? ⟨w.heap.size + 1, 0, none⟩ = some _ := Z2.out.cell 0; have zf0 : w2.frozen? ⟨w.heap.size + 1, 0, none⟩ = false := Z2.out.free 0; have z1 : w2.cell? ⟨w.heap.size + 1, 1, none⟩ = some _ := Z2.out.cell 1; have zf1 : w2.frozen? ⟨w.heap.size + 1, 1, none⟩ = false := Z2.out.free 1; have z2 : w2.cell? ⟨w.heap.size + 1, 2, none⟩ = some _ := Z2.out.cell 2; have zf2 : w2.frozen? ⟨w.heap.size + 1, 2, none⟩ = false := Z2.out.free 2; have z3 : w2.cell? ⟨w.heap.size + 1, 3, none⟩ = some _ := Z2.out.cell 3; have zf3 : w2.frozen? ⟨w.heap.size + 1, 3, none⟩ = false := Z2.out.free 3; have zlt := Z2.out.lt; clear b2 X1 Z1 HM)
        | (go_at_call 19; refine (HH.out _ (H.out.call B2.out)).mono ?_; rintro e w3 ⟨rfl, b3⟩; have B3 := Lib.hid (B2.out.trans (b3.mono B2.out.size)); have X3 := Lib.hid (X2.out.call b3); have Z3 := Lib.hid (Z2.out.call b3); clear x0 x1 x2 x3 xf0 xf1 xf2 xf3 xlt z0 z1 z2 z3 zf0 zf1 zf2 zf3 zlt; have x0 : w3.cell? ⟨w.heap.size, 0, none⟩ = some _ := X3.out.cell 0; have xf0 : w3.frozen? ⟨w.heap.size, 0, none⟩ = false := X3.out.free 0; have x1 : w3.cell? ⟨w.heap.size, 1, none⟩ = some _ := X3.out.cell 1; have xf1 : w3.frozen? ⟨w.heap.size, 1, none⟩ = false := X3.out.free 1; have x2 : w3.cell? ⟨w.heap.size, 2, none⟩ = some _ := X3.out.cell 2; have xf2 : w3.frozen? ⟨w.heap.size, 2, none⟩ = false := X3.out.free 2; have x3 : w3.cell? ⟨w.heap.size, 3, none⟩ = some _ := X3.out.cell 3; have xf3 : w3.frozen? ⟨w.heap.size, 3, none⟩ = false := X3.out.free 3; have xlt := X3.out.lt; have z0 : w3.cell? ⟨w.heap.size + 1, 0, none⟩ = some _ := Z3.out.cell 0; have zf0 : w3.frozen? ⟨w.heap.size + 1, 0, none⟩ = false := Z3.out.free 0; have z1 : w3.cell? ⟨w.heap.size + 1, 1, none⟩ = some _ := Z3.out.cell 1; have zf1 : w3.frozen? ⟨w.heap.size + 1, 1, none⟩ = false := Z3.out.free 1; have z2 : w3.cell? ⟨w.heap.size + 1, 2, none⟩ = some _ := Z3.out.cell 2; have zf2 : w3.frozen? ⟨w.heap.size + 1, 2, none⟩ = false := Z3.out.free 2; have z3 : w3.cell? ⟨w.heap.size + 1, 3, none⟩ = some _ := Z3.out.cell 3; have zf3 : w3.frozen? ⟨w.heap.size + 1, 3, none⟩ = false := Z3.out.free 3; have zlt := Z3.out.lt; clear b3 X2 Z2 HH))
      have FR := Lib.hid (put4 (u0 := (.int .i64 s)) (u1 := (.int .i64 a)) (u2 := (.int .i64 bb)) (u3 := (.slice p n c)) Z3.out)
      have FB := Lib.hid (put4_below (b := w.heap.size + 1) (u0 := (.int .i64 s)) (u1 := (.int .i64 a)) (u2 := (.int .i64 bb)) (u3 := (.slice p n c)) B3.out (Nat.le_succ _))
      generalize hW : World.setCell _ _ _ = W9 at *
      have g0 := FR.out.cell 0; have g1 := FR.out.cell 1; have g2 := FR.out.cell 2; have g3 := FR.out.cell 3
      clear x0 x1 x2 x3 xf0 xf1 xf2 xf3 xlt z0 z1 z2 z3 zf0 zf1 zf2 zf3 zlt
      refine bodyPost_ret (v := .tuple #[linkV ⟨s, a, bb, .slice p n c, ws⟩, .slice none 0 0, .bool false]) (by simp [results, Try.results11, go_sem, g0, g1, g2, g3]; done) rfl ?_
      exact ⟨⟨⟨s, a, bb, .slice p n c, ws⟩, none, 0, 0, [], by rw [HR.out], H.out.call FB.out, by rw [HR.out]; rfl, RowIs.nil _ _, by rw [HR.out]; rfl⟩, FB.out⟩
    | true =>
      have hq : -1 < cc ∧ (cc = a ∨ cc = bb) := by
        unfold hasL at hh
        simpa using hh
      rw [hh] at hr' HH
      rw [if_neg (by rintro (h | h) <;> cases h)] at hr'
      by_cases h1 : N = 0
      · rw [if_pos h1] at hr'
        have h1' : ((N : Int) == 0) = true := by rw [beq_iff_eq]; omega
        clear h1 hq
        have HR : Hid (r = (⟨s, a, bb, texts ws⟩, [], true)) := Lib.hid hr'.symm
        clear hr'
        go_enter Try.func11, Try.ntmps11
        go_wp2_with (first
          | (go_at_call 18; refine (HM.out _ (H.out.call B1.out)).mono ?_; rintro e w2 ⟨rfl, b2⟩; have B2 := Lib.hid (B1.out.trans (b2.mono B1.out.size)); have X2 := Lib.hid (X1.out.call b2); have Z2 := Lib.hid (Z1.out.call b2); have x0 : w2.cell? ⟨w.heap.size, 0, none⟩ = some _ := X2.out.cell 0; have xf0 : w2.frozen? ⟨w.heap.size, 0, none⟩ = false := X2.out.free 0; have x1 : w2.cell? ⟨w.heap.size, 1, none⟩ = some _ := X2.out.cell 1; have xf1 : w2.frozen? ⟨w.heap.size, 1, none⟩ = false := X2.out.free 1; have x2 : w2.cell? ⟨w.heap.size, 2, none⟩ = some _ := X2.out.cell 2; have xf2 : w2.frozen? ⟨w.heap.size, 2, none⟩ = false := X2.out.free 2; have x3 : w2.cell? ⟨w.heap.size, 3, none⟩ = some _ := X2.out.cell 3; have xf3 : w2.frozen? ⟨w.heap.size, 3, none⟩ = false := X2.out.free 3; have xlt := X2.out.lt; have z0 : w2.cell? ⟨w.heap.size + 1, 0, none⟩ = some _ := Z2.out.cell 0; have zf0 : w2.frozen? ⟨w.heap.size + 1, 0, none⟩ = false := Z2.out.free 0; have z1 : w2.cell? ⟨w.heap.size + 1, 1, none⟩ = some _ := Z2.out.cell 1; have zf1 : w2.frozen? ⟨w.heap.size + 1, 1, none⟩ = false := Z2.out.free 1; have z2 : w2.cell? ⟨w.heap.size + 1, 2, none⟩ = some _ := Z2.out.cell 2; have zf2 : w2.frozen? ⟨w.heap.size + 1, 2, none⟩ = false := Z2.out.free 2; have z3 : w2.cell? ⟨w.heap.size + 1, 3, none⟩ = some _ := Z2.out.cell 3; have zf3 : w2.frozen? ⟨w.heap.size + 1, 3, none⟩ = false := Z2.out.free 3; have zlt := Z2.out.lt; clear b2 X1 Z1 HM)
          | (go_at_call 19; refine (HH.out _ (H.out.call B2.out)).mono ?_; rintro e w3 ⟨rfl, b3⟩; have B3 := Lib.hid (B2.out.trans (b3.mono B2.out.size)); have X3 := Lib.hid (X2.out.call b3); have Z3 := Lib.hid (Z2.out.call b3); clear x0 x1 x2 x3 xf0 xf1 xf2 xf3 xlt z0 z1 z2 z3 zf0 zf1 zf2 zf3 zlt; have x0 : w3.cell? ⟨w.heap.size, 0, none⟩ = some _ := X3.out.cell 0; have xf0 : w3.frozen? ⟨w.heap.size, 0, none⟩ = false := X3.out.free 0; have x1 : w3.cell? ⟨w.heap.size, 1, none⟩ = some _ := X3.out.cell 1; have xf1 : w3.frozen? ⟨w.heap.size, 1, none⟩ = false := X3.out.free 1; have x2 : w3.cell? ⟨w.heap.size, 2, none⟩ = some _ := X3.out.cell 2; have xf2 : w3.frozen? ⟨w.heap.size, 2, none⟩ = false := X3.out.free 2; have x3 : w3.cell? ⟨w.heap.size, 3, none⟩ = some _ := X3.out.cell 3; have xf3 : w3.frozen? ⟨w.heap.size, 3, none⟩ = false := X3.out.free 3; have xlt := X3.out.lt; have z0 : w3.cell? ⟨w.heap.size + 1, 0, none⟩ = some _ := Z3.out.cell 0; have zf0 : w3.frozen? ⟨w.heap.size + 1, 0, none⟩ = false := Z3.out.free 0; have z1 : w3.cell? ⟨w.heap.size + 1, 1, none⟩ = some _ := Z3.out.cell 1; have zf1 : w3.frozen? ⟨w.heap.size + 1, 1, none⟩ = false := Z3.out.free 1; have z2 : w3.cell? ⟨w.heap.size + 1, 2, none⟩ = some _ := Z3.out.cell 2; have zf2 : w3.frozen? ⟨w.heap.size + 1, 2, none⟩ = false := Z3.out.free 2; have z3 : w3.cell? ⟨w.heap.size + 1, 3, none⟩ = some _ := Z3.out.cell 3; have zf3 : w3.frozen? ⟨w.heap.size + 1, 3, none⟩ = false := Z3.out.free 3; have zlt := Z3.out.lt; clear b3 X2 Z2 HH))
        have FR := Lib.hid (put4 (u0 := (.int .i64 s)) (u1 := (.int .i64 a)) (u2 := (.int .i64 bb)) (u3 := (.slice p n c)) Z3.out)
        have FB := Lib.hid (put4_below (b := w.heap.size + 1) (u0 := (.int .i64 s)) (u1 := (.int .i64 a)) (u2 := (.int .i64 bb)) (u3 := (.slice p n c)) B3.out (Nat.le_succ _))
        generalize hW : World.setCell _ _ _ = W9 at *
        have g0 := FR.out.cell 0; have g1 := FR.out.cell 1; have g2 := FR.out.cell 2; have g3 := FR.out.cell 3
        clear x0 x1 x2 x3 xf0 xf1 xf2 xf3 xlt z0 z1 z2 z3 zf0 zf1 zf2 zf3 zlt
        refine bodyPost_ret (v := .tuple #[linkV ⟨s, a, bb, .slice p n c, ws⟩, .slice none 0 0, .bool true]) (by simp [results, Try.results11, go_sem, g0, g1, g2, g3]; done) rfl ?_
        exact ⟨⟨⟨s, a, bb, .slice p n c, ws⟩, none, 0, 0, [], by rw [HR.out], H.out.call FB.out, by rw [HR.out]; rfl, RowIs.nil _ _, by rw [HR.out]; rfl⟩, FB.out⟩
      · rw [if_neg h1] at hr'
        have h1' : ((N : Int) == 0) = false := by rw [beq_eq_false_iff_ne]; omega
        by_cases ha : cc = a
        · have ho : otherL a bb cc = bb := by unfold otherL; rw [if_pos ha]
          have ha' : (cc == a) = true := by rw [beq_iff_eq]; exact ha
          by_cases hb : bb = -1
          · have hb' : (bb == -1) = true := by rw [beq_iff_eq]; exact hb
            rw [ho, if_neg (by omega)] at hr'
            by_cases h3 : n = 4
            · rw [if_pos h3] at hr'
              have h3' : ((n : Int) == 4) = true := by rw [beq_iff_eq]; omega
              clear h3 hb ha ho hq h1
              have HR : Hid (r = (⟨s, a, bb, texts ws⟩, [], false)) := Lib.hid hr'.symm
              clear hr'
              go_enter Try.func11, Try.ntmps11
              go_wp2_with (first
                | (go_at_call 18; refine (HM.out _ (H.out.call B1.out)).mono ?_; rintro e w2 ⟨rfl, b2⟩; have B2 := Lib.hid (B1.out.trans (b2.mono B1.out.size)); have X2 := Lib.hid (X1.out.call b2); have Z2 := Lib.hid (Z1.out.call b2); have x0 : w2.cell? ⟨w.heap.size, 0, none⟩ = some _ := X2.out.cell 0; have xf0 : w2.frozen? ⟨w.heap.size, 0, none⟩ = false := X2.out.free 0; have x1 : w2.cell? ⟨w.heap.size, 1, none⟩ = some _ := X2.out.cell 1; have xf1 : w2.frozen? ⟨w.heap.size, 1, none⟩ = false := X2.out.free 1; have x2 : w2.cell? ⟨w.heap.size, 2, none⟩ = some _ := X2.out.cell 2; have xf2 : w2.frozen? ⟨w.heap.size, 2, none⟩ = false := X2.out.free 2; have x3 : w2.cell? ⟨w.heap.size, 3, none⟩ = some _ := X2.out.cell 3; have xf3 : w2.frozen? ⟨w.heap.size, 3, none⟩ = false := X2.out.free 3; have xlt := X2.out.lt; have z0 : w2.cell? ⟨w.heap.size + 1, 0, none⟩ = some _ := Z2.out.cell 0; have zf0 : w2.frozen? ⟨w.heap.size + 1, 0, none⟩ = false := Z2.out.free 0; have z1 : w2.cell? ⟨w.heap.size + 1, 1, none⟩ = some _ := Z2.out.cell 1; have zf1 : w2.frozen? ⟨w.heap.size + 1, 1, none⟩ = false := Z2.out.free 1; have z2 : w2.cell? ⟨w.heap.size + 1, 2, none⟩ = some _ := Z2.out.cell 2; have zf2 : w2.frozen? ⟨w.heap.size + 1, 2, none⟩ = false := Z2.out.free 2; have z3 : w2.cell? ⟨w.heap.size + 1, 3, none⟩ = some _ := Z2.out.cell 3; have zf3 : w2.frozen? ⟨w.heap.size + 1, 3, none⟩ = false := Z2.out.free 3; have zlt := Z2.out.lt; clear b2 X1 Z1 HM)
                | (go_at_call 19; refine (HH.out _ (H.out.call B2.out)).mono ?_; rintro e w3 ⟨rfl, b3⟩; have B3 := Lib.hid (B2.out.trans (b3.mono B2.out.size)); have X3 := Lib.hid (X2.out.call b3); have Z3 := Lib.hid (Z2.out.call b3); clear x0 x1 x2 x3 xf0 xf1 xf2 xf3 xlt z0 z1 z2 z3 zf0 zf1 zf2 zf3 zlt; have x0 : w3.cell? ⟨w.heap.size, 0, none⟩ = some _ := X3.out.cell 0; have xf0 : w3.frozen? ⟨w.heap.size, 0, none⟩ = false := X3.out.free 0; have x1 : w3.cell? ⟨w.heap.size, 1, none⟩ = some _ := X3.out.cell 1; have xf1 : w3.frozen? ⟨w.heap.size, 1, none⟩ = false := X3.out.free 1; have x2 : w3.cell? ⟨w.heap.size, 2, none⟩ = some _ := X3.out.cell 2; have xf2 : w3.frozen? ⟨w.heap.size, 2, none⟩ = false := X3.out.free 2; have x3 : w3.cell? ⟨w.heap.size, 3, none⟩ = some _ := X3.out.cell 3; have xf3 : w3.frozen? ⟨w.heap.size, 3, none⟩ = false := X3.out.free 3; have xlt := X3.out.lt; have z0 : w3.cell? ⟨w.heap.size + 1, 0, none⟩ = some _ := Z3.out.cell 0; have zf0 : w3.frozen? ⟨w.heap.size + 1, 0, none⟩ = false := Z3.out.free 0; have z1 : w3.cell? ⟨w.heap.size + 1, 1, none⟩ = some _ := Z3.out.cell 1; have zf1 : w3.frozen? ⟨w.heap.size + 1, 1, none⟩ = false := Z3.out.free 1; have z2 : w3.cell? ⟨w.heap.size + 1, 2, none⟩ = some _ := Z3.out.cell 2; have zf2 : w3.frozen? ⟨w.heap.size + 1, 2, none⟩ = false := Z3.out.free 2; have z3 : w3.cell? ⟨w.heap.size + 1, 3, none⟩ = some _ := Z3.out.cell 3; have zf3 : w3.frozen? ⟨w.heap.size + 1, 3, none⟩ = false := Z3.out.free 3; have zlt := Z3.out.lt; clear b3 X2 Z2 HH))
              have FR := Lib.hid (put4 (u0 := (.int .i64 s)) (u1 := (.int .i64 a)) (u2 := (.int .i64 bb)) (u3 := (.slice p n c)) Z3.out)
              have FB := Lib.hid (put4_below (b := w.heap.size + 1) (u0 := (.int .i64 s)) (u1 := (.int .i64 a)) (u2 := (.int .i64 bb)) (u3 := (.slice p n c)) B3.out (Nat.le_succ _))
              generalize hW : World.setCell _ _ _ = W9 at *
              have g0 := FR.out.cell 0; have g1 := FR.out.cell 1; have g2 := FR.out.cell 2; have g3 := FR.out.cell 3
              clear x0 x1 x2 x3 xf0 xf1 xf2 xf3 xlt z0 z1 z2 z3 zf0 zf1 zf2 zf3 zlt
              refine bodyPost_ret (v := .tuple #[linkV ⟨s, a, bb, .slice p n c, ws⟩, .slice none 0 0, .bool false]) (by simp [results, Try.results11, go_sem, g0, g1, g2, g3]; done) rfl ?_
              exact ⟨⟨⟨s, a, bb, .slice p n c, ws⟩, none, 0, 0, [], by rw [HR.out], H.out.call FB.out, by rw [HR.out]; rfl, RowIs.nil _ _, by rw [HR.out]; rfl⟩, FB.out⟩
            · rw [if_neg h3] at hr'
              have h3' : ((n : Int) == 4) = false := by rw [beq_eq_false_iff_ne]; omega
              have HR : Hid (r = (⟨s, a, bb, texts ws ++ [d]⟩, [], true)) := Lib.hid hr'.symm
              clear hr' h3 hb ha ho hq h1
              have KL : Hid (ws.length ≤ 1000) := Lib.hid (by have := HN.out; omega)
              go_enter Try.func11, Try.ntmps11
              go_wp2_with (first
                | (go_at_call 18; refine (HM.out _ (H.out.call B1.out)).mono ?_; rintro e w2 ⟨rfl, b2⟩; have B2 := Lib.hid (B1.out.trans (b2.mono B1.out.size)); have X2 := Lib.hid (X1.out.call b2); have Z2 := Lib.hid (Z1.out.call b2); have x0 : w2.cell? ⟨w.heap.size, 0, none⟩ = some _ := X2.out.cell 0; have xf0 : w2.frozen? ⟨w.heap.size, 0, none⟩ = false := X2.out.free 0; have x1 : w2.cell? ⟨w.heap.size, 1, none⟩ = some _ := X2.out.cell 1; have xf1 : w2.frozen? ⟨w.heap.size, 1, none⟩ = false := X2.out.free 1; have x2 : w2.cell? ⟨w.heap.size, 2, none⟩ = some _ := X2.out.cell 2; have xf2 : w2.frozen? ⟨w.heap.size, 2, none⟩ = false := X2.out.free 2; have x3 : w2.cell? ⟨w.heap.size, 3, none⟩ = some _ := X2.out.cell 3; have xf3 : w2.frozen? ⟨w.heap.size, 3, none⟩ = false := X2.out.free 3; have xlt := X2.out.lt; have z0 : w2.cell? ⟨w.heap.size + 1, 0, none⟩ = some _ := Z2.out.cell 0; have zf0 : w2.frozen? ⟨w.heap.size + 1, 0, none⟩ = false := Z2.out.free 0; have z1 : w2.cell? ⟨w.heap.size + 1, 1, none⟩ = some _ := Z2.out.cell 1; have zf1 : w2.frozen? ⟨w.heap.size + 1, 1, none⟩ = false := Z2.out.free 1; have z2 : w2.cell? ⟨w.heap.size + 1, 2, none⟩ = some _ := Z2.out.cell 2; have zf2 : w2.frozen? ⟨w.heap.size + 1, 2, none⟩ = false := Z2.out.free 2; have z3 : w2.cell? ⟨w.heap.size + 1, 3, none⟩ = some _ := Z2.out.cell 3; have zf3 : w2.frozen? ⟨w.heap.size + 1, 3, none⟩ = false := Z2.out.free 3; have zlt := Z2.out.lt; clear b2 X1 Z1 HM)
                | (go_at_call 19; refine (HH.out _ (H.out.call B2.out)).mono ?_; rintro e w3 ⟨rfl, b3⟩; have B3 := Lib.hid (B2.out.trans (b3.mono B2.out.size)); have X3 := Lib.hid (X2.out.call b3); have Z3 := Lib.hid (Z2.out.call b3); clear x0 x1 x2 x3 xf0 xf1 xf2 xf3 xlt z0 z1 z2 z3 zf0 zf1 zf2 zf3 zlt; have x0 : w3.cell? ⟨w.heap.size, 0, none⟩ = some _ := X3.out.cell 0; have xf0 : w3.frozen? ⟨w.heap.size, 0, none⟩ = false := X3.out.free 0; have x1 : w3.cell? ⟨w.heap.size, 1, none⟩ = some _ := X3.out.cell 1; have xf1 : w3.frozen? ⟨w.heap.size, 1, none⟩ = false := X3.out.free 1; have x2 : w3.cell? ⟨w.heap.size, 2, none⟩ = some _ := X3.out.cell 2; have xf2 : w3.frozen? ⟨w.heap.size, 2, none⟩ = false := X3.out.free 2; have x3 : w3.cell? ⟨w.heap.size, 3, none⟩ = some _ := X3.out.cell 3; have xf3 : w3.frozen? ⟨w.heap.size, 3, none⟩ = false := X3.out.free 3; have xlt := X3.out.lt; have z0 : w3.cell? ⟨w.heap.size + 1, 0, none⟩ = some _ := Z3.out.cell 0; have zf0 : w3.frozen? ⟨w.heap.size + 1, 0, none⟩ = false := Z3.out.free 0; have z1 : w3.cell? ⟨w.heap.size + 1, 1, none⟩ = some _ := Z3.out.cell 1; have zf1 : w3.frozen? ⟨w.heap.size + 1, 1, none⟩ = false := Z3.out.free 1; have z2 : w3.cell? ⟨w.heap.size + 1, 2, none⟩ = some _ := Z3.out.cell 2; have zf2 : w3.frozen? ⟨w.heap.size + 1, 2, none⟩ = false := Z3.out.free 2; have z3 : w3.cell? ⟨w.heap.size + 1, 3, none⟩ = some _ := Z3.out.cell 3; have zf3 : w3.frozen? ⟨w.heap.size + 1, 3, none⟩ = false := Z3.out.free 3; have zlt := Z3.out.lt; clear b3 X2 Z2 HH)
                | (at_builtin; refine wpList_append_cks rfl _ _ rfl w3.heap.size (.slice none 0 0) [] rfl (OwnRow.nil _ _) (.slice p n c) ws rfl (H.out.call B3.out) (by have := KL.out; simp only [List.length_nil]; omega) (Nat.le_refl _) ?_; intro v5 w5 o5 g5 e5; clear e5; have B5 := Lib.hid ((Below.refl w3.heap.size w3).grown g5 (Nat.le_refl _) (fun k hk => by cases hk)); have O5 := Lib.hid o5; obtain ⟨p5, n5, c5, rfl, -⟩ := O5.out.form; clear o5 g5)
                | (at_builtin; refine wpList_append_cks rfl _ _ rfl w3.heap.size (.slice p5 n5 c5) ([] ++ ws) rfl (O5.out.alloc _) (.slice (some ⟨w5.heap.size, 0, none⟩) 1 1) [⟨.slice pu N cu, d⟩] rfl (one_ck w5 (HD.out.call (B3.out.trans (B5.out.mono B3.out.size)))) (by have := KL.out; simp only [List.length_singleton, List.nil_append]; omega) (by have := B5.out.size; simp; omega) ?_; intro v6 w6 o6 g6 e6; clear e6; have B6 := Lib.hid ((B5.out.alloc B5.out.size (.cells #[.slice pu N cu] 25)).grown g6 (by have := B5.out.size; simp; omega) O5.out.ge); have O6 := Lib.hid o6; have X6 := Lib.hid (X3.out.call B6.out); have Z6 := Lib.hid (Z3.out.call B6.out); obtain ⟨p6, n6, c6, rfl, -⟩ := O6.out.form; clear o6 g6 x0 x1 x2 x3 xf0 xf1 xf2 xf3 xlt z0 z1 z2 z3 zf0 zf1 zf2 zf3 zlt; have x0 : w6.cell? ⟨w.heap.size, 0, none⟩ = some _ := X6.out.cell 0; have xf0 : w6.frozen? ⟨w.heap.size, 0, none⟩ = false := X6.out.free 0; have x1 : w6.cell? ⟨w.heap.size, 1, none⟩ = some _ := X6.out.cell 1; have xf1 : w6.frozen? ⟨w.heap.size, 1, none⟩ = false := X6.out.free 1; have x2 : w6.cell? ⟨w.heap.size, 2, none⟩ = some _ := X6.out.cell 2; have xf2 : w6.frozen? ⟨w.heap.size, 2, none⟩ = false := X6.out.free 2; have x3 : w6.cell? ⟨w.heap.size, 3, none⟩ = some _ := X6.out.cell 3; have xf3 : w6.frozen? ⟨w.heap.size, 3, none⟩ = false := X6.out.free 3; have xlt := X6.out.lt; have X8 : Hid (IsRow (w6.setCell ⟨w.heap.size, 3, none⟩ (.slice p6 n6 c6)) w.heap.size 24 #[.int .i64 s, .int .i64 a, .int .i64 bb, .slice p6 n6 c6]) := Lib.hid (X6.out.set 3 _); have Z8 : Hid (IsRow (w6.setCell ⟨w.heap.size, 3, none⟩ (.slice p6 n6 c6)) (w.heap.size + 1) 24 #[.int .i64 0, .int .i64 0, .int .i64 0, .slice none 0 0]) := Lib.hid (Z6.out.other (a := ⟨w.heap.size, 3, none⟩) (by show w.heap.size + 1 ≠ w.heap.size; omega) _); have B8 : Hid (Below w.heap.size w (w6.setCell ⟨w.heap.size, 3, none⟩ (.slice p6 n6 c6))) := Lib.hid ((B3.out.trans (B6.out.mono B3.out.size)).setCell (p := ⟨w.heap.size, 3, none⟩) (Nat.le_refl _) _); have O8 : Hid (OwnCks w3.heap.size (w6.setCell ⟨w.heap.size, 3, none⟩ (.slice p6 n6 c6)) (.slice p6 n6 c6) (([] ++ ws) ++ [(⟨.slice pu N cu, d⟩ : Ck)])) := Lib.hid (own_set X6.out O6.out ty_lc 3 _); have y0 := X8.out.cell 0; have y1 := X8.out.cell 1; have y2 := X8.out.cell 2; have y3 := X8.out.cell 3; have z0 : (w6.setCell ⟨w.heap.size, 3, none⟩ (.slice p6 n6 c6)).cell? ⟨w.heap.size + 1, 0, none⟩ = some _ := Z8.out.cell 0; have zf0 : (w6.setCell ⟨w.heap.size, 3, none⟩ (.slice p6 n6 c6)).frozen? ⟨w.heap.size + 1, 0, none⟩ = false := Z8.out.free 0; have z1 : (w6.setCell ⟨w.heap.size, 3, none⟩ (.slice p6 n6 c6)).cell? ⟨w.heap.size + 1, 1, none⟩ = some _ := Z8.out.cell 1; have zf1 : (w6.setCell ⟨w.heap.size, 3, none⟩ (.slice p6 n6 c6)).frozen? ⟨w.heap.size + 1, 1, none⟩ = false := Z8.out.free 1; have z2 : (w6.setCell ⟨w.heap.size, 3, none⟩ (.slice p6 n6 c6)).cell? ⟨w.heap.size + 1, 2, none⟩ = some _ := Z8.out.cell 2; have zf2 : (w6.setCell ⟨w.heap.size, 3, none⟩ (.slice p6 n6 c6)).frozen? ⟨w.heap.size + 1, 2, none⟩ = false := Z8.out.free 2; have z3 : (w6.setCell ⟨w.heap.size, 3, none⟩ (.slice p6 n6 c6)).cell? ⟨w.heap.size + 1, 3, none⟩ = some _ := Z8.out.cell 3; have zf3 : (w6.setCell ⟨w.heap.size, 3, none⟩ (.slice p6 n6 c6)).frozen? ⟨w.heap.size + 1, 3, none⟩ = false := Z8.out.free 3; have zlt := Z8.out.lt))
              have FR := Lib.hid (put4 (u0 := (.int .i64 s)) (u1 := (.int .i64 a)) (u2 := (.int .i64 bb)) (u3 := (.slice p6 n6 c6)) Z8.out)
              have FB := Lib.hid (put4_below (b := w.heap.size + 1) (u0 := (.int .i64 s)) (u1 := (.int .i64 a)) (u2 := (.int .i64 bb)) (u3 := (.slice p6 n6 c6)) B8.out (Nat.le_succ _))
              have FO : Hid (OwnCks w3.heap.size (World.setCell (World.setCell (World.setCell (World.setCell (w6.setCell ⟨w.heap.size, 3, none⟩ (.slice p6 n6 c6)) ⟨w.heap.size + 1, 0, none⟩ (.int .i64 s)) ⟨w.heap.size + 1, 1, none⟩ (.int .i64 a)) ⟨w.heap.size + 1, 2, none⟩ (.int .i64 bb)) ⟨w.heap.size + 1, 3, none⟩ (.slice p6 n6 c6)) (.slice p6 n6 c6) (([] ++ ws) ++ [(⟨.slice pu N cu, d⟩ : Ck)])) := Lib.hid (put4_own (u0 := (.int .i64 s)) (u1 := (.int .i64 a)) (u2 := (.int .i64 bb)) (u3 := (.slice p6 n6 c6)) Z8.out O8.out ty_lc)
              generalize hW : (World.setCell (World.setCell (World.setCell (World.setCell (w6.setCell ⟨w.heap.size, 3, none⟩ (.slice p6 n6 c6)) ⟨w.heap.size + 1, 0, none⟩ (.int .i64 s)) ⟨w.heap.size + 1, 1, none⟩ (.int .i64 a)) ⟨w.heap.size + 1, 2, none⟩ (.int .i64 bb)) ⟨w.heap.size + 1, 3, none⟩ (.slice p6 n6 c6)) = W9 at *
              clear x0 x1 x2 x3 xf0 xf1 xf2 xf3 xlt y0 y1 y2 y3 z0 z1 z2 z3 zf0 zf1 zf2 zf3 zlt
              have g0 := FR.out.cell 0; have g1 := FR.out.cell 1; have g2 := FR.out.cell 2; have g3 := FR.out.cell 3
              refine bodyPost_ret (v := .tuple #[linkV ⟨s, a, bb, .slice p6 n6 c6, (([] ++ ws) ++ [(⟨.slice pu N cu, d⟩ : Ck)])⟩, .slice none 0 0, .bool true]) (by simp [results, Try.results11, go_sem, g0, g1, g2, g3]; done) rfl ?_
              have g5 : RowIs chunks W9 (.slice p6 n6 c6) (([] ++ ws) ++ [(⟨.slice pu N cu, d⟩ : Ck)]) := FO.out.row (fun y hy => by
                rcases List.mem_append.1 hy with h | h
                · exact (H.out.call FB.out).1 y (by simpa using h)
                · rw [List.mem_singleton] at h; subst h
                  exact HD.out.call FB.out)
              have g6 : (⟨s, a, bb, .slice p6 n6 c6, (([] ++ ws) ++ [(⟨.slice pu N cu, d⟩ : Ck)])⟩ : Lk).p = r.1 := by rw [HR.out]; show (⟨s, a, bb, texts (([] ++ ws) ++ [(⟨.slice pu N cu, d⟩ : Ck)])⟩ : PL) = ⟨s, a, bb, texts ws ++ [d]⟩; rw [texts_append, texts_append]; rfl
              have g7 : outsP [] = r.2.1 := by rw [HR.out]; rfl
              refine ⟨⟨(⟨s, a, bb, .slice p6 n6 c6, (([] ++ ws) ++ [(⟨.slice pu N cu, d⟩ : Ck)])⟩ : Lk), none, 0, 0, ?_⟩, FB.out⟩
              first
                | exact ⟨[], by rw [HR.out], g5, g6, RowIs.nil _ _, g7⟩
                | exact ⟨by rw [HR.out], g5, g6, [], RowIs.nil _ _, g7⟩
          · have hb' : (bb == -1) = false := beq_eq_false_iff_ne.2 hb
            rw [ho, if_pos (by omega)] at hr'
            have HR : Hid (r = (⟨s, a, bb, texts ws⟩, [sendO bb d], true)) := Lib.hid hr'.symm
            clear hr' hb ha ho hq h1
            go_enter Try.func11, Try.ntmps11
            go_wp2_with (first
              | (go_at_call 18; refine (HM.out _ (H.out.call B1.out)).mono ?_; rintro e w2 ⟨rfl, b2⟩; have B2 := Lib.hid (B1.out.trans (b2.mono B1.out.size)); have X2 := Lib.hid (X1.out.call b2); have Z2 := Lib.hid (Z1.out.call b2); have x0 : w2.cell? ⟨w.heap.size, 0, none⟩ = some _ := X2.out.cell 0; have xf0 : w2.frozen? ⟨w.heap.size, 0, none⟩ = false := X2.out.free 0; have x1 : w2.cell? ⟨w.heap.size, 1, none⟩ = some _ := X2.out.cell 1; have xf1 : w2.frozen? ⟨w.heap.size, 1, none⟩ = false := X2.out.free 1; have x2 : w2.cell? ⟨w.heap.size, 2, none⟩ = some _ := X2.out.cell 2; have xf2 : w2.frozen? ⟨w.heap.size, 2, none⟩ = false := X2.out.free 2; have x3 : w2.cell? ⟨w.heap.size, 3, none⟩ = some _ := X2.out.cell 3; have xf3 : w2.frozen? ⟨w.heap.size, 3, none⟩ = false := X2.out.free 3; have xlt := X2.out.lt; have z0 : w2.cell? ⟨w.heap.size + 1, 0, none⟩ = some _ := Z2.out.cell 0; have zf0 : w2.frozen? ⟨w.heap.size + 1, 0, none⟩ = false := Z2.out.free 0; have z1 : w2.cell? ⟨w.heap.size + 1, 1, none⟩ = some _ := Z2.out.cell 1; have zf1 : w2.frozen? ⟨w.heap.size + 1, 1, none⟩ = false := Z2.out.free 1; have z2 : w2.cell? ⟨w.heap.size + 1, 2, none⟩ = some _ := Z2.out.cell 2; have zf2 : w2.frozen? ⟨w.heap.size + 1, 2, none⟩ = false := Z2.out.free 2; have z3 : w2.cell? ⟨w.heap.size + 1, 3, none⟩ = some _ := Z2.out.cell 3; have zf3 : w2.frozen? ⟨w.heap.size + 1, 3, none⟩ = false := Z2.out.free 3; have zlt := Z2.out.lt; clear b2 X1 Z1 HM)
              | (go_at_call 19; refine (HH.out _ (H.out.call B2.out)).mono ?_; rintro e w3 ⟨rfl, b3⟩; have B3 := Lib.hid (B2.out.trans (b3.mono B2.out.size)); have X3 := Lib.hid (X2.out.call b3); have Z3 := Lib.hid (Z2.out.call b3); clear x0 x1 x2 x3 xf0 xf1 xf2 xf3 xlt z0 z1 z2 z3 zf0 zf1 zf2 zf3 zlt; have x0 : w3.cell? ⟨w.heap.size, 0, none⟩ = some _ := X3.out.cell 0; have xf0 : w3.frozen? ⟨w.heap.size, 0, none⟩ = false := X3.out.free 0; have x1 : w3.cell? ⟨w.heap.size, 1, none⟩ = some _ := X3.out.cell 1; have xf1 : w3.frozen? ⟨w.heap.size, 1, none⟩ = false := X3.out.free 1; have x2 : w3.cell? ⟨w.heap.size, 2, none⟩ = some _ := X3.out.cell 2; have xf2 : w3.frozen? ⟨w.heap.size, 2, none⟩ = false := X3.out.free 2; have x3 : w3.cell? ⟨w.heap.size, 3, none⟩ = some _ := X3.out.cell 3; have xf3 : w3.frozen? ⟨w.heap.size, 3, none⟩ = false := X3.out.free 3; have xlt := X3.out.lt; have z0 : w3.cell? ⟨w.heap.size + 1, 0, none⟩ = some _ := Z3.out.cell 0; have zf0 : w3.frozen? ⟨w.heap.size + 1, 0, none⟩ = false := Z3.out.free 0; have z1 : w3.cell? ⟨w.heap.size + 1, 1, none⟩ = some _ := Z3.out.cell 1; have zf1 : w3.frozen? ⟨w.heap.size + 1, 1, none⟩ = false := Z3.out.free 1; have z2 : w3.cell? ⟨w.heap.size + 1, 2, none⟩ = some _ := Z3.out.cell 2; have zf2 : w3.frozen? ⟨w.heap.size + 1, 2, none⟩ = false := Z3.out.free 2; have z3 : w3.cell? ⟨w.heap.size + 1, 3, none⟩ = some _ := Z3.out.cell 3; have zf3 : w3.frozen? ⟨w.heap.size + 1, 3, none⟩ = false := Z3.out.free 3; have zlt := Z3.out.lt; clear b3 X2 Z2 HH))
            have FR := Lib.hid (put4 (u0 := (.int .i64 s)) (u1 := (.int .i64 a)) (u2 := (.int .i64 bb)) (u3 := (.slice p n c)) Z3.out)
            have FB := Lib.hid (put4_below (b := w.heap.size + 1) (u0 := (.int .i64 s)) (u1 := (.int .i64 a)) (u2 := (.int .i64 bb)) (u3 := (.slice p n c)) B3.out (Nat.le_succ _))
            clear x0 x1 x2 x3 xf0 xf1 xf2 xf3 xlt z0 z1 z2 z3 zf0 zf1 zf2 zf3 zlt
            generalize hV : (World.setCell (World.setCell (World.setCell (World.setCell w3 ⟨w.heap.size + 1, 0, none⟩ (.int .i64 s)) ⟨w.heap.size + 1, 1, none⟩ (.int .i64 a)) ⟨w.heap.size + 1, 2, none⟩ (.int .i64 bb)) ⟨w.heap.size + 1, 3, none⟩ (.slice p n c)) = W8 at *
            have hs : W8.heap.size = w3.heap.size := by rw [← hV]; simp
            clear hV
            have HO9 := Lib.hid (one_out W8 ⟨0, bb, 0, 0, 0, 0, 0, .slice pu N cu, d⟩ (HD.out.call FB.out))
            have FR9 := Lib.hid (FR.out.alloc (.cells #[.int .i64 0, .int .i64 bb, .int .u8 0, .int .u8 0, .int .u8 0, .int .u8 0, .int .i64 0, .slice pu N cu] 43))
            have FB9 := Lib.hid (FB.out.alloc FB.out.size (.cells #[.int .i64 0, .int .i64 bb, .int .u8 0, .int .u8 0, .int .u8 0, .int .u8 0, .int .i64 0, .slice pu N cu] 43))
            rw [hs] at HO9
            have g0 := FR9.out.cell 0; have g1 := FR9.out.cell 1; have g2 := FR9.out.cell 2; have g3 := FR9.out.cell 3
            refine bodyPost_ret (v := .tuple #[linkV ⟨s, a, bb, .slice p n c, ws⟩, .slice (some ⟨w3.heap.size, 0, none⟩) 1 1, .bool true]) (by simp [results, Try.results11, go_sem, g0, g1, g2, g3]; done) rfl ?_
            have g6 : (⟨s, a, bb, .slice p n c, ws⟩ : Lk).p = r.1 := by rw [HR.out]; rfl
            have g7 : outsP [⟨0, bb, 0, 0, 0, 0, 0, .slice pu N cu, d⟩] = r.2.1 := by rw [HR.out]; rfl
            refine ⟨⟨(⟨s, a, bb, .slice p n c, ws⟩ : Lk), some ⟨w3.heap.size, 0, none⟩, 1, 1, ?_⟩, FB9.out⟩
            first
              | exact ⟨[⟨0, bb, 0, 0, 0, 0, 0, .slice pu N cu, d⟩], by rw [HR.out], H.out.call FB9.out, g6, HO9.out, g7⟩
              | exact ⟨by rw [HR.out], H.out.call FB9.out, g6, [⟨0, bb, 0, 0, 0, 0, 0, .slice pu N cu, d⟩], HO9.out, g7⟩
        · have hc : cc = bb := hq.2.resolve_left ha
          have ho : otherL a bb cc = a := by unfold otherL; rw [if_neg ha, if_pos hc]
          have ha' : (cc == a) = false := beq_eq_false_iff_ne.2 ha
          rw [ho, if_pos (by omega)] at hr'
          have HR : Hid (r = (⟨s, a, bb, texts ws⟩, [sendO a d], true)) := Lib.hid hr'.symm
          clear hr' ha hc ho hq h1
          go_enter Try.func11, Try.ntmps11
          go_wp2_with (first
            | (go_at_call 18; refine (HM.out _ (H.out.call B1.out)).mono ?_; rintro e w2 ⟨rfl, b2⟩; have B2 := Lib.hid (B1.out.trans (b2.mono B1.out.size)); have X2 := Lib.hid (X1.out.call b2); have Z2 := Lib.hid (Z1.out.call b2); have x0 : w2.cell? ⟨w.heap.size, 0, none⟩ = some _ := X2.out.cell 0; have xf0 : w2.frozen? ⟨w.heap.size, 0, none⟩ = false := X2.out.free 0; have x1 : w2.cell? ⟨w.heap.size, 1, none⟩ = some _ := X2.out.cell 1; have xf1 : w2.frozen? ⟨w.heap.size, 1, none⟩ = false := X2.out.free 1; have x2 : w2.cell? ⟨w.heap.size, 2, none⟩ = some _ := X2.out.cell 2; have xf2 : w2.frozen? ⟨w.heap.size, 2, none⟩ = false := X2.out.free 2; have x3 : w2.cell? ⟨w.heap.size, 3, none⟩ = some _ := X2.out.cell 3; have xf3 : w2.frozen? ⟨w.heap.size, 3, none⟩ = false := X2.out.free 3; have xlt := X2.out.lt; have z0 : w2.cell? ⟨w.heap.size + 1, 0, none⟩ = some _ := Z2.out.cell 0; have zf0 : w2.frozen? ⟨w.heap.size + 1, 0, none⟩ = false := Z2.out.free 0; have z1 : w2.cell? ⟨w.heap.size + 1, 1, none⟩ = some _ := Z2.out.cell 1; have zf1 : w2.frozen? ⟨w.heap.size + 1, 1, none⟩ = false := Z2.out.free 1; have z2 : w2.cell? ⟨w.heap.size + 1, 2, none⟩ = some _ := Z2.out.cell 2; have zf2 : w2.frozen? ⟨w.heap.size + 1, 2, none⟩ = false := Z2.out.free 2; have z3 : w2.cell? ⟨w.heap.size + 1, 3, none⟩ = some _ := Z2.out.cell 3; have zf3 : w2.frozen? ⟨w.heap.size + 1, 3, none⟩ = false := Z2.out.free 3; have zlt := Z2.out.lt; clear b2 X1 Z1 HM)
            | (go_at_call 19; refine (HH.out _ (H.out.call B2.out)).mono ?_; rintro e w3 ⟨rfl, b3⟩; have B3 := Lib.hid (B2.out.trans (b3.mono B2.out.size)); have X3 := Lib.hid (X2.out.call b3); have Z3 := Lib.hid (Z2.out.call b3); clear x0 x1 x2 x3 xf0 xf1 xf2 xf3 xlt z0 z1 z2 z3 zf0 zf1 zf2 zf3 zlt; have x0 : w3.cell? ⟨w.heap.size, 0, none⟩ = some _ := X3.out.cell 0; have xf0 : w3.frozen? ⟨w.heap.size, 0, none⟩ = false := X3.out.free 0; have x1 : w3.cell? ⟨w.heap.size, 1, none⟩ = some _ := X3.out.cell 1; have xf1 : w3.frozen? ⟨w.heap.size, 1, none⟩ = false := X3.out.free 1; have x2 : w3.cell? ⟨w.heap.size, 2, none⟩ = some _ := X3.out.cell 2; have xf2 : w3.frozen? ⟨w.heap.size, 2, none⟩ = false := X3.out.free 2; have x3 : w3.cell? ⟨w.heap.size, 3, none⟩ = some _ := X3.out.cell 3; have xf3 : w3.frozen? ⟨w.heap.size, 3, none⟩ = false := X3.out.free 3; have xlt := X3.out.lt; have z0 : w3.cell? ⟨w.heap.size + 1, 0, none⟩ = some _ := Z3.out.cell 0; have zf0 : w3.frozen? ⟨w.heap.size + 1, 0, none⟩ = false := Z3.out.free 0; have z1 : w3.cell? ⟨w.heap.size + 1, 1, none⟩ = some _ := Z3.out.cell 1; have zf1 : w3.frozen? ⟨w.heap.size + 1, 1, none⟩ = false := Z3.out.free 1; have z2 : w3.cell? ⟨w.heap.size + 1, 2, none⟩ = some _ := Z3.out.cell 2; have zf2 : w3.frozen? ⟨w.heap.size + 1, 2, none⟩ = false := Z3.out.free 2; have z3 : w3.cell? ⟨w.heap.size + 1, 3, none⟩ = some _ := Z3.out.cell 3; have zf3 : w3.frozen? ⟨w.heap.size + 1, 3, none⟩ = false := Z3.out.free 3; have zlt := Z3.out.lt; clear b3 X2 Z2 HH))
          have FR := Lib.hid (put4 (u0 := (.int .i64 s)) (u1 := (.int .i64 a)) (u2 := (.int .i64 bb)) (u3 := (.slice p n c)) Z3.out)
          have FB := Lib.hid (put4_below (b := w.heap.size + 1) (u0 := (.int .i64 s)) (u1 := (.int .i64 a)) (u2 := (.int .i64 bb)) (u3 := (.slice p n c)) B3.out (Nat.le_succ _))
          clear x0 x1 x2 x3 xf0 xf1 xf2 xf3 xlt z0 z1 z2 z3 zf0 zf1 zf2 zf3 zlt
          generalize hV : (World.setCell (World.setCell (World.setCell (World.setCell w3 ⟨w.heap.size + 1, 0, none⟩ (.int .i64 s)) ⟨w.heap.size + 1, 1, none⟩ (.int .i64 a)) ⟨w.heap.size + 1, 2, none⟩ (.int .i64 bb)) ⟨w.heap.size + 1, 3, none⟩ (.slice p n c)) = W8 at *
          have hs : W8.heap.size = w3.heap.size := by rw [← hV]; simp
          clear hV
          have HO9 := Lib.hid (one_out W8 ⟨0, a, 0, 0, 0, 0, 0, .slice pu N cu, d⟩ (HD.out.call FB.out))
          have FR9 := Lib.hid (FR.out.alloc (.cells #[.int .i64 0, .int .i64 a, .int .u8 0, .int .u8 0, .int .u8 0, .int .u8 0, .int .i64 0, .slice pu N cu] 43))
          have FB9 := Lib.hid (FB.out.alloc FB.out.size (.cells #[.int .i64 0, .int .i64 a, .int .u8 0, .int .u8 0, .int .u8 0, .int .u8 0, .int .i64 0, .slice pu N cu] 43))
          rw [hs] at HO9
          have g0 := FR9.out.cell 0; have g1 := FR9.out.cell 1; have g2 := FR9.out.cell 2; have g3 := FR9.out.cell 3
          refine bodyPost_ret (v := .tuple #[linkV ⟨s, a, bb, .slice p n c, ws⟩, .slice (some ⟨w3.heap.size, 0, none⟩) 1 1, .bool true]) (by simp [results, Try.results11, go_sem, g0, g1, g2, g3]; done) rfl ?_
          have g6 : (⟨s, a, bb, .slice p n c, ws⟩ : Lk).p = r.1 := by rw [HR.out]; rfl
          have g7 : outsP [⟨0, a, 0, 0, 0, 0, 0, .slice pu N cu, d⟩] = r.2.1 := by rw [HR.out]; rfl
          refine ⟨⟨(⟨s, a, bb, .slice p n c, ws⟩ : Lk), some ⟨w3.heap.size, 0, none⟩, 1, 1, ?_⟩, FB9.out⟩
          first
            | exact ⟨[⟨0, a, 0, 0, 0, 0, 0, .slice pu N cu, d⟩], by rw [HR.out], H.out.call FB9.out, g6, HO9.out, g7⟩
            | exact ⟨by rw [HR.out], H.out.call FB9.out, g6, [⟨0, a, 0, 0, 0, 0, 0, .slice pu N cu, d⟩], HO9.out, g7⟩

#print axioms rend_any
#print axioms rjoin_any
#print axioms rcarry_any
end Go.Proofs.Ytfeiafjeidnmkaa.Da
