/- What the laws of layer 21 lean on: the contracts of package data, and of the document's answer, by answers that are told ahead; what goes out, read; Few; awake (gen-stage21.py). -/
import Derived.Test.YtfeiafjeidnmkaaDataCarry
import Derived.Test.YtfeiafjeidnmkaaDataRefMake
import Derived.Test.YtfeiafjeidnmkaaDataOuts
import Derived.Test.YtfeiafjeidnmkaaEnvBare
import Derived.Lib.SmallJoins
namespace Go.Proofs.Ytfeiafjeidnmkaa.Da
open Go.Proofs.Ytfeiafjeidnmkaa
open Go Go.ChangeShapes Go.WideShapes Go.ChangeAt Go.RowKit
set_option maxRecDepth 100000
set_option linter.unusedSimpArgs false
set_option linter.unusedVariables false
theorem carry_own (x : Lk) (cc : Int) (u : Value) (d : List UInt8) (ys ya yb : Int) (yw : List (List UInt8)) (os : List PO) (b : Bool) (M N : Nat) (h : carryL x.p cc d = (⟨ys, ya, yb, yw⟩, os, b)) (hM : yw.length = M) (hN : os.length = N) (hk : okL x.p) (w : World) (H : RowIs chunks w x.wv x.ws) (hd : d.length ≤ 1000000) (D : BytesIs w u d) :
    Calls Try.prog 10 #[.agg #[.int .i64 x.sess, .int .i64 x.a, .int .i64 x.b, x.wv], .int .i64 cc, u] w fun e w' => (∃ p c ws' q k os', e = .returned (.tuple #[.agg #[.int .i64 ys, .int .i64 ya, .int .i64 yb, .slice p M c], .slice q N k, .bool b]) ∧ texts ws' = yw ∧ RowIs chunks w' (.slice p M c) ws' ∧ outsP os' = os ∧ RowIs outs w' (.slice q N k) os' ∧ OwnCks w.heap.size w' (.slice p M c) ws' ∧ Owns w.heap.size w' ws') ∧ Below w.heap.size w w' := by
  refine (carry_any x cc u d _ h hk hd w H D).mono ?_
  rintro e w' ⟨⟨y, q, n, k, os', rfl, ⟨ho1, ho2⟩, ey, ho, eo⟩, hb⟩
  have hl : LinkIs w' y := ho1.row ho2.ok
  obtain ⟨p, n2, c, hv, hn2⟩ := RowIs.form hl
  obtain ⟨s, a, bb, wv, ws'⟩ := y
  simp only at hv hl ho eo ho1 ho2
  subst hv
  injection ey with e1 e2 e3 e4
  simp only at e1 e2 e3 e4
  subst e1; subst e2; subst e3
  have hnM : n2 = M := by rw [hn2, ← hM, ← e4, texts_length]
  have hnN : n = N := by rw [ho.len, ← hN, ← eo, outsP_length]
  subst hnM; subst hnN
  exact ⟨⟨p, c, ws', q, k, os', rfl, e4, hl, eo, ho, ho1, ho2⟩, hb⟩
theorem carry_of (x : Lk) (cc : Int) (u : Value) (d : List UInt8) (ys ya yb : Int) (yw : List (List UInt8)) (os : List PO) (b : Bool) (M N : Nat) (h : carryL x.p cc d = (⟨ys, ya, yb, yw⟩, os, b)) (hM : yw.length = M) (hN : os.length = N) (hk : okL x.p) (w : World) (H : RowIs chunks w x.wv x.ws) (hd : d.length ≤ 1000000) (D : BytesIs w u d) :
    Calls Try.prog 10 #[.agg #[.int .i64 x.sess, .int .i64 x.a, .int .i64 x.b, x.wv], .int .i64 cc, u] w fun e w' => (∃ p c ws' q k os', e = .returned (.tuple #[.agg #[.int .i64 ys, .int .i64 ya, .int .i64 yb, .slice p M c], .slice q N k, .bool b]) ∧ texts ws' = yw ∧ RowIs chunks w' (.slice p M c) ws' ∧ outsP os' = os ∧ RowIs outs w' (.slice q N k) os') ∧ Below w.heap.size w w' := by
  refine (carry_own x cc u d ys ya yb yw os b M N h hM hN hk w H hd D).mono ?_
  rintro e w' ⟨⟨p, c, ws', q, k, os', h1, h2, h3, h4, h5, -, -⟩, hb⟩
  exact ⟨⟨p, c, ws', q, k, os', h1, h2, h3, h4, h5⟩, hb⟩
theorem rcarry_of (x : Lk) (cc : Int) (u : Value) (d : List UInt8) (ys ya yb : Int) (yw : List (List UInt8)) (os : List PO) (b : Bool) (M N : Nat) (h : carryL x.p cc d = (⟨ys, ya, yb, yw⟩, os, b)) (hM : yw.length = M) (hN : os.length = N) (hk : okL x.p) (w : World) (H : RowIs chunks w x.wv x.ws) (hd : d.length ≤ 1000000) (D : BytesIs w u d) :
    Calls Try.prog 11 #[.agg #[.int .i64 x.sess, .int .i64 x.a, .int .i64 x.b, x.wv], .int .i64 cc, u] w fun e w' => (∃ p c ws' q k os', e = .returned (.tuple #[.agg #[.int .i64 ys, .int .i64 ya, .int .i64 yb, .slice p M c], .slice q N k, .bool b]) ∧ texts ws' = yw ∧ RowIs chunks w' (.slice p M c) ws' ∧ outsP os' = os ∧ RowIs outs w' (.slice q N k) os') ∧ Below w.heap.size w w' := by
  refine (rcarry_any x cc u d _ h hk hd w H D).mono ?_
  rintro e w' ⟨⟨y, q, n, k, os', rfl, hl, ey, ho, eo⟩, hb⟩
  obtain ⟨p, n2, c, hv, hn2⟩ := RowIs.form hl
  obtain ⟨s, a, bb, wv, ws'⟩ := y
  simp only at hv hl ho eo
  subst hv
  injection ey with e1 e2 e3 e4
  simp only at e1 e2 e3 e4
  subst e1; subst e2; subst e3
  have hnM : n2 = M := by rw [hn2, ← hM, ← e4, texts_length]
  have hnN : n = N := by rw [ho.len, ← hN, ← eo, outsP_length]
  subst hnM; subst hnN
  exact ⟨⟨p, c, ws', q, k, os', rfl, e4, hl, eo, ho⟩, hb⟩
theorem join_own (x : Lk) (cc : Int) (ys ya yb : Int) (yw : List (List UInt8)) (os : List PO) (b : Bool) (M N : Nat) (h : joinL x.p cc = (⟨ys, ya, yb, yw⟩, os, b)) (hM : yw.length = M) (hN : os.length = N) (hk : okL x.p) (w : World) (H : RowIs chunks w x.wv x.ws) :
    Calls Try.prog 12 #[.agg #[.int .i64 x.sess, .int .i64 x.a, .int .i64 x.b, x.wv], .int .i64 cc] w fun e w' => (∃ p c ws' q k os', e = .returned (.tuple #[.agg #[.int .i64 ys, .int .i64 ya, .int .i64 yb, .slice p M c], .slice q N k, .bool b]) ∧ texts ws' = yw ∧ RowIs chunks w' (.slice p M c) ws' ∧ outsP os' = os ∧ RowIs outs w' (.slice q N k) os' ∧ OwnCks w.heap.size w' (.slice p M c) ws' ∧ Owns w.heap.size w' ws') ∧ Below w.heap.size w w' := by
  refine (join_any x cc _ h hk w H).mono ?_
  rintro e w' ⟨⟨y, q, n, k, os', rfl, ⟨ho1, ho2⟩, ey, ho, eo⟩, hb⟩
  have hl : LinkIs w' y := ho1.row ho2.ok
  obtain ⟨p, n2, c, hv, hn2⟩ := RowIs.form hl
  obtain ⟨s, a, bb, wv, ws'⟩ := y
  simp only at hv hl ho eo ho1 ho2
  subst hv
  injection ey with e1 e2 e3 e4
  simp only at e1 e2 e3 e4
  subst e1; subst e2; subst e3
  have hnM : n2 = M := by rw [hn2, ← hM, ← e4, texts_length]
  have hnN : n = N := by rw [ho.len, ← hN, ← eo, outsP_length]
  subst hnM; subst hnN
  exact ⟨⟨p, c, ws', q, k, os', rfl, e4, hl, eo, ho, ho1, ho2⟩, hb⟩
theorem join_of (x : Lk) (cc : Int) (ys ya yb : Int) (yw : List (List UInt8)) (os : List PO) (b : Bool) (M N : Nat) (h : joinL x.p cc = (⟨ys, ya, yb, yw⟩, os, b)) (hM : yw.length = M) (hN : os.length = N) (hk : okL x.p) (w : World) (H : RowIs chunks w x.wv x.ws) :
    Calls Try.prog 12 #[.agg #[.int .i64 x.sess, .int .i64 x.a, .int .i64 x.b, x.wv], .int .i64 cc] w fun e w' => (∃ p c ws' q k os', e = .returned (.tuple #[.agg #[.int .i64 ys, .int .i64 ya, .int .i64 yb, .slice p M c], .slice q N k, .bool b]) ∧ texts ws' = yw ∧ RowIs chunks w' (.slice p M c) ws' ∧ outsP os' = os ∧ RowIs outs w' (.slice q N k) os') ∧ Below w.heap.size w w' := by
  refine (join_own x cc ys ya yb yw os b M N h hM hN hk w H).mono ?_
  rintro e w' ⟨⟨p, c, ws', q, k, os', h1, h2, h3, h4, h5, -, -⟩, hb⟩
  exact ⟨⟨p, c, ws', q, k, os', h1, h2, h3, h4, h5⟩, hb⟩
theorem rjoin_of (x : Lk) (cc : Int) (ys ya yb : Int) (yw : List (List UInt8)) (os : List PO) (b : Bool) (M N : Nat) (h : joinL x.p cc = (⟨ys, ya, yb, yw⟩, os, b)) (hM : yw.length = M) (hN : os.length = N) (hk : okL x.p) (w : World) (H : RowIs chunks w x.wv x.ws) :
    Calls Try.prog 13 #[.agg #[.int .i64 x.sess, .int .i64 x.a, .int .i64 x.b, x.wv], .int .i64 cc] w fun e w' => (∃ p c ws' q k os', e = .returned (.tuple #[.agg #[.int .i64 ys, .int .i64 ya, .int .i64 yb, .slice p M c], .slice q N k, .bool b]) ∧ texts ws' = yw ∧ RowIs chunks w' (.slice p M c) ws' ∧ outsP os' = os ∧ RowIs outs w' (.slice q N k) os') ∧ Below w.heap.size w w' := by
  refine (rjoin_any x cc _ h hk w H).mono ?_
  rintro e w' ⟨⟨y, q, n, k, os', rfl, hl, ey, ho, eo⟩, hb⟩
  obtain ⟨p, n2, c, hv, hn2⟩ := RowIs.form hl
  obtain ⟨s, a, bb, wv, ws'⟩ := y
  simp only at hv hl ho eo
  subst hv
  injection ey with e1 e2 e3 e4
  simp only at e1 e2 e3 e4
  subst e1; subst e2; subst e3
  have hnM : n2 = M := by rw [hn2, ← hM, ← e4, texts_length]
  have hnN : n = N := by rw [ho.len, ← hN, ← eo, outsP_length]
  subst hnM; subst hnN
  exact ⟨⟨p, c, ws', q, k, os', rfl, e4, hl, eo, ho⟩, hb⟩

/-- what goes out, at a place -/
theorem outs_at {w : World} {p : Option Addr} {N k : Nat} {os : List Ou} {l : List PO} (h : RowIs outs w (.slice p N k) os) (e : outsP os = l) (hp : 0 < l.length) :
    ∃ b o, p = some ⟨b, o, none⟩ ∧ b < w.heap.size ∧ ∀ i (hi : i < l.length), ∃ bv, w.cell? ⟨b, o + i * 8, none⟩ = some (.int .i64 l[i].kind) ∧ w.cell? ⟨b, o + i * 8 + 1, none⟩ = some (.int .i64 l[i].conn) ∧ w.cell? ⟨b, o + i * 8 + 7, none⟩ = some bv ∧ BytesIs w bv l[i].b := by
  have hl : os.length = l.length := by rw [← e, outsP_length]
  obtain ⟨b, o, rfl, hb, hc⟩ := h.some (by omega)
  refine ⟨b, o, rfl, hb, fun i hi => ?_⟩
  have hi' : i < os.length := by omega
  have hq : l[i] = (os[i]).p := by subst e; simp [outsP]
  obtain ⟨a0, a1, a2, a3, a4, a5, a6, a7⟩ := out_cells_at (hc i hi')
  rw [hq]
  exact ⟨(os[i]).bv, a0, a1, a7, h.1 _ (List.getElem_mem hi')⟩
theorem two_links (w : World) (x y : Lk) (b : Nat) (hb : w.heap.size = b) (hx : RowIs chunks w x.wv x.ws) (hy : RowIs chunks w y.wv y.ws) : RowIs links (w.alloc (.cells #[.int .i64 x.sess, .int .i64 x.a, .int .i64 x.b, x.wv, .int .i64 y.sess, .int .i64 y.a, .int .i64 y.b, y.wv] 24)) (.slice (some ⟨b, 0, none⟩) 2 2) [x, y] := by
  subst hb
  refine ⟨fun z hz => ?_, Or.inr ⟨_, 2, rfl, Nat.le_refl _, by unfold maxLen; decide, row_made (L := links) w _ [x, y] (by unfold maxLen; simp) _ rfl⟩⟩
  simp only [List.mem_cons, List.mem_nil_iff, or_false] at hz
  rcases hz with rfl | rfl
  · exact hx.alloc _
  · exact hy.alloc _
theorem one_link (w : World) (x : Lk) (b : Nat) (hb : w.heap.size = b) (hx : RowIs chunks w x.wv x.ws) : RowIs links (w.alloc (.cells #[.int .i64 x.sess, .int .i64 x.a, .int .i64 x.b, x.wv] 24)) (.slice (some ⟨b, 0, none⟩) 1 1) [x] := by
  subst hb
  exact one_row (L := links) w _ x hx _ rfl
theorem few_ok {x : PL} (h : fewL x = true) : okL x := by
  unfold fewL at h
  simp only [Bool.and_eq_true, decide_eq_true_eq, List.all_eq_true] at h
  exact ⟨by have := h.1; omega, fun b hb => by have := h.2 b hb; omega⟩
theorem fewL_no {x : PL} {k : Nat} (h : k < x.ws.length) (e : 300 < (x.ws[k]).length) : fewL x = false := by
  cases hq : fewL x with
  | false => rfl
  | true =>
    unfold fewL at hq
    simp only [Bool.and_eq_true, decide_eq_true_eq, List.all_eq_true] at hq
    have := hq.2 _ (List.getElem_mem h)
    omega

set_option maxHeartbeats 4000000 in
theorem few_any (x : Lk) (b : Bool) (hb : fewL x.p = b) (w : World) (H : RowIs chunks w x.wv x.ws) :
    Calls Try.prog 9 #[.agg #[.int .i64 x.sess, .int .i64 x.a, .int .i64 x.b, x.wv]] w fun e w' => e = .returned (.bool b) ∧ Below w.heap.size w w' := by
  have HA0 : Hid (10 < x.ws.length → b = false) := Lib.hid (fun h => by
    rw [← hb]; unfold fewL; rw [show x.p.ws.length = x.ws.length from texts_length _, decide_eq_false (by omega), Bool.false_and])
  have HK0 : Hid (∀ k (hk : k < x.ws.length), 300 < (x.ws[k]).b.length → b = false) := Lib.hid (fun k hk h => by
    rw [← hb]; exact fewL_no (k := k) (by show k < (texts x.ws).length; rwa [texts_length]) (by show 300 < ((texts x.ws)[k]'(by rwa [texts_length])).length; simpa [texts] using h))
  have HE0 : Hid (¬ 10 < x.ws.length → (∀ k (hk : k < x.ws.length), ¬ 300 < (x.ws[k]).b.length) → b = true) := Lib.hid (fun h h2 => by
    rw [← hb]; unfold fewL
    rw [show x.p.ws = texts x.ws from rfl, texts_length, decide_eq_true (by omega), Bool.true_and, List.all_eq_true]
    intro y hy
    obtain ⟨z, hz, rfl⟩ := List.mem_map.1 hy
    obtain ⟨k, hk, rfl⟩ := List.getElem_of_mem hz
    have := h2 k hk
    simpa using this)
  obtain ⟨p, n, c, hv, hn⟩ := H.form
  have hmax := H.max
  obtain ⟨s, a, bb, wv, ws⟩ := x
  simp only at H hv hn hmax HA0 HK0 HE0 ⊢
  subst hv
  rw [← hn] at hmax HA0
  have HN := Lib.hid hn
  have HR := Lib.hid H
  clear hn H hb
  go_enter Try.func9, Try.ntmps9
  have BX : Below w.heap.size w (w.alloc (.cells #[.int .i64 s, .int .i64 a, .int .i64 bb, .slice p n c] 24)) := (Below.refl _ _).alloc (Nat.le_refl _) _
  have BXh := Lib.hid BX
  clear BX
  by_cases h0 : 10 < n
  · have HV := Lib.hid (HA0.out h0)
    have h0' : (n : Int) > 10 := by omega
    clear h0 HA0 HK0 HE0
    go_wp2_with fail
    go_ret
    exact ⟨by rw [HV.out] <;> rfl, BXh.out⟩
  · have h0' : ¬ (n : Int) > 10 := by omega
    have HE := Lib.hid (HE0.out (by rw [← HN.out]; exact h0))
    clear h0 HA0 HE0
    go_wp2_with fail
    obtain ⟨w2, hv⟩ : ∃ V, (w.alloc (.cells #[.int .i64 s, .int .i64 a, .int .i64 bb, .slice p n c] 24)) = V := ⟨_, rfl⟩
    have X2 : Hid (IsRow w2 w.heap.size 24 #[.int .i64 s, .int .i64 a, .int .i64 bb, .slice p n c]) := Lib.hid (by rw [← hv]; exact IsRow.made _ _ _)
    have R2 := Lib.hid (HR.out.call BXh.out)
    rw [hv] at BXh R2 ⊢
    clear hv HR
    go_loopw [3] (fun x3 wr => ∃ (k : Nat), x3 = .int .i64 (k : Int) ∧ k ≤ n ∧ Hid (∀ j (hj : j < ws.length), j < k → ¬ 300 < (ws[j]).b.length) ∧ Hid (w2 = wr)) (fun i _ => n - (intOf i).toNat)
    case atStart => exact ⟨0, rfl, Nat.zero_le _, Lib.hid (fun j _ h => absurd h (Nat.not_lt_zero j)), Lib.hid rfl⟩
    case round =>
      obtain ⟨k, rfl, hk, HO, HW⟩ := hrel
      obtain rfl := HW.out
      have x0 := X2.out.cell 0; have x1 := X2.out.cell 1; have x2 := X2.out.cell 2; have x3 := X2.out.cell 3; have xlt := X2.out.lt
      by_cases hlt : k < n
      · have hji : (k : Int) < (n : Int) := by omega
        have HK : Hid (k + 1 ≤ n) := Lib.hid hlt
        have hkl : k < ws.length := by rw [← HN.out]; exact hlt
        obtain ⟨pz, cz, hz⟩ := (R2.out.1 (ws[k]'hkl) (List.getElem_mem hkl)).form
        obtain ⟨b1, o1, rfl, hb1, hc1⟩ := R2.out.some (by omega)
        have a0 : w2.cell? ⟨b1, o1 + k, none⟩ = some ((ws[k]'hkl).v) := by
          have := (hc1 k hkl).2 0 (by decide)
          simpa using this
        have HAK := Lib.hid (HK0.out k hkl)
        have HNK : Hid (¬ 300 < (ws[k]'hkl).b.length → ∀ j (hj : j < ws.length), j < k + 1 → ¬ 300 < (ws[j]).b.length) := Lib.hid (fun h j hj hjk => by
          by_cases e : j = k
          · subst e; exact h
          · exact HO.out j hj (by omega))
        clear hc1
        rw [hz] at a0
        clear hz
        generalize (ws[k]'hkl).b.length = m at *
        by_cases h7 : 300 < m
        · have HV := Lib.hid (HAK.out h7)
          have h8 : (m : Int) > 300 := by omega
          clear HAK HNK h7
          go_wp2_with fail
          go_ret
          exact ⟨by rw [HV.out] <;> rfl, BXh.out⟩
        · have HV := Lib.hid (HNK.out h7)
          have h8 : ¬ (m : Int) > 300 := by omega
          clear HAK HNK h7
          go_wp2_with fail
          go_roundw
          case rel => exact ⟨k + 1, by go_num, HK.out, HV, Lib.hid (by trivial)⟩
          case measure => have := HK.out; simp [intOf]; omega
      · have hji : ¬ (k : Int) < (n : Int) := by omega
        have HV := Lib.hid (HE.out (fun j hj => HO.out j hj (by have := HN.out; omega)))
        go_wp2_with fail
        go_ret
        exact ⟨by rw [HV.out] <;> rfl, BXh.out⟩

theorem okL_nil (s a b : Int) : okL ⟨s, a, b, []⟩ := ⟨by show 0 ≤ 1000; decide, fun _ h => by cases h⟩
set_option maxHeartbeats 8000000 in
theorem awake_any (w : World) (E : Env w) : Calls Try.prog 8 #[] w fun e w' => e = .returned (.bool true) ∧ Below w.heap.size w w' := by
  have OK0 : Hid (okL (⟨0, 5, -1, .slice none 0 0, []⟩ : Lk).p) := Lib.hid (okL_nil 0 5 (-1))
  have OK1 : Hid (okL ⟨0, 5, -1, [[97, 98]]⟩) := Lib.hid ⟨by show 1 ≤ 1000; decide, fun b h => by rw [List.mem_singleton] at h; subst h; show 2 ≤ 1000000; decide⟩
  have hcv : (convert 25 25 (.slice (some ⟨w.heap.size, 0, none⟩) 2 2)).run Try.prog (w.alloc (.cells #[.int .u8 97, .int .u8 98] 5)) = .ok (.slice (some ⟨w.heap.size, 0, none⟩) 2 2) (w.alloc (.cells #[.int .u8 97, .int .u8 98] 5 (2, 3))) :=
    Lib.run_convert_bytes_const w 25 5 #[.int .u8 97, .int .u8 98] 2 2 Try.underlying25 Try.underlying5
  have DB : Hid (BytesIs (w.alloc (.cells #[.int .u8 97, .int .u8 98] 5 (2, 3))) (.slice (some ⟨w.heap.size, 0, none⟩) 2 2) [97, 98]) := Lib.hid (Or.inr ⟨⟨w.heap.size, 0, none⟩, 2, rfl, Nat.le_refl _, by unfold maxLen; decide, fun i hi => by
    have h := heap_alloc_new w (.cells #[.int .u8 97, .int .u8 98] 5 (2, 3))
    match i, hi with
    | 0, _ => show World.cell? _ ⟨w.heap.size, 0, none⟩ = _; unfold World.cell?; simp only [h]; rfl
    | 1, _ => show World.cell? _ ⟨w.heap.size, 1, none⟩ = _; unfold World.cell?; simp only [h]; rfl⟩)
  go_enter Try.func8, Try.ntmps8
  go_wp2_with (first
    | (go_at_call 10; refine (carry_of ⟨0, 5, -1, .slice none 0 0, []⟩ 5 _ [97, 98] 0 5 (-1) [[97, 98]] [] true 1 0 (by decide) rfl rfl OK0.out _ (RowIs.nil _ _) (by decide) DB.out).mono ?_; rintro e w1 ⟨⟨p1, c1, ws1, q1, k1, os1, rfl, et1, hr1, eo1, ho1⟩, b1⟩; have B1 := Lib.hid (((((Below.refl w.heap.size w)).alloc (Below.refl w.heap.size w).size (.cells #[.int .u8 97, .int .u8 98] 5 (2, 3)))).trans (b1.mono (by have := (((Below.refl w.heap.size w)).alloc (Below.refl w.heap.size w).size (.cells #[.int .u8 97, .int .u8 98] 5 (2, 3))).size; first | exact this | (simp <;> omega)))); have WA1 := Lib.hid hr1; clear hr1; have ET1 := Lib.hid et1; have EO1 := Lib.hid eo1; clear et1 eo1)
    | (go_at_call 12; refine (join_of ⟨0, 5, -1, .slice p1 1 c1, ws1⟩ 6 0 5 6 [] [sendO 6 [97, 98]] true 0 1 (by show joinL ⟨0, 5, -1, texts ws1⟩ 6 = _; rw [ET1.out]; try decide) rfl rfl (by show okL ⟨0, 5, -1, texts ws1⟩; rw [ET1.out]; exact OK1.out) _ (WA1.out.alloc (.cells #[.int .i64 0, .int .i64 5, .int .i64 (-1), .slice p1 1 c1] 24))).mono ?_; rintro e w2 ⟨⟨p2, c2, ws2, q2, k2, os2, rfl, et2, hr2, eo2, ho2⟩, b2⟩; have B2 := Lib.hid ((((B1.out).alloc B1.out.size (.cells #[.int .i64 0, .int .i64 5, .int .i64 (-1), .slice p1 1 c1] 24))).trans (b2.mono (by have := ((B1.out).alloc B1.out.size (.cells #[.int .i64 0, .int .i64 5, .int .i64 (-1), .slice p1 1 c1] 24)).size; first | exact this | (simp <;> omega)))); have WY2 := Lib.hid hr2; clear hr2; have ET2 := Lib.hid et2; have EO2 := Lib.hid eo2; clear et2 eo2; obtain ⟨bo, oo, rfl, hbo, hco⟩ := outs_at ho2 EO2.out (Nat.lt_succ_self 0); obtain ⟨bv, z0, z1, z7, HBV⟩ := hco 0 (Nat.lt_succ_self 0); obtain ⟨pv, cv, hbv⟩ := HBV.form; rw [hbv] at z7 HBV; replace z1 : w2.cell? ⟨bo, oo + 1, none⟩ = some (.int .i64 6) := (by simpa [sendO] using z1); replace z7 : w2.cell? ⟨bo, oo + 7, none⟩ = some (.slice pv 2 cv) := (by simpa [sendO] using z7); have HCV := str_of_bytes (BytesIs.alloc (show BytesIs w2 (.slice pv 2 cv) [97, 98] from HBV) (.cells #[.int .i64 0, .int .i64 5, .int .i64 6, .slice p2 0 c2] 24)); clear hco z0 HBV hbv ho2)
    | (go_at_call 20; refine (may_any ⟨0, 5, 6, .slice p2 0 c2, ws2⟩ true (by show mayL ⟨0, 5, 6, texts ws2⟩ = true; rw [ET2.out]; try decide) _ (WY2.out.alloc (.cells #[.int .i64 0, .int .i64 5, .int .i64 6, .slice p2 0 c2] 24))).mono ?_; rintro e w3 ⟨rfl, b3⟩; have B3 := Lib.hid ((((B2.out).alloc B2.out.size (.cells #[.int .i64 0, .int .i64 5, .int .i64 6, .slice p2 0 c2] 24))).trans (b3.mono (by have := ((B2.out).alloc B2.out.size (.cells #[.int .i64 0, .int .i64 5, .int .i64 6, .slice p2 0 c2] 24)).size; first | exact this | (simp <;> omega)))); have Y3 : Hid (IsRow w3 (w2.heap.size) 24 #[.int .i64 0, .int .i64 5, .int .i64 6, .slice p2 0 c2]) := Lib.hid (by first | exact (IsRow.made w2 24 #[.int .i64 0, .int .i64 5, .int .i64 6, .slice p2 0 c2]).call b3 | (have h := (IsRow.made w2 24 #[.int .i64 0, .int .i64 5, .int .i64 6, .slice p2 0 c2]).call b3; simp at h; exact h)); have Yc0 : w3.cell? ⟨w2.heap.size, 0, none⟩ = some (.int .i64 0) := Y3.out.cell 0; have Yf0 : w3.frozen? ⟨w2.heap.size, 0, none⟩ = false := Y3.out.free 0; have Yc1 : w3.cell? ⟨w2.heap.size, 1, none⟩ = some (.int .i64 5) := Y3.out.cell 1; have Yf1 : w3.frozen? ⟨w2.heap.size, 1, none⟩ = false := Y3.out.free 1; have Yc2 : w3.cell? ⟨w2.heap.size, 2, none⟩ = some (.int .i64 6) := Y3.out.cell 2; have Yf2 : w3.frozen? ⟨w2.heap.size, 2, none⟩ = false := Y3.out.free 2; have Yc3 : w3.cell? ⟨w2.heap.size, 3, none⟩ = some (.slice p2 0 c2) := Y3.out.cell 3; have Yf3 : w3.frozen? ⟨w2.heap.size, 3, none⟩ = false := Y3.out.free 3; have Ylt : w2.heap.size < w3.heap.size := Y3.out.lt; have WY3 := Lib.hid ((WY2.out.alloc (.cells #[.int .i64 0, .int .i64 5, .int .i64 6, .slice p2 0 c2] 24)).call b3); clear z1 z7 hbo HCV)
    | (go_at_call 21; refine (has_any ⟨0, 5, 6, .slice p2 0 c2, ws2⟩ 6 true (by show hasL ⟨0, 5, 6, texts ws2⟩ 6 = true; rw [ET2.out]; try decide) _ WY3.out).mono ?_; rintro e w4 ⟨rfl, b4⟩; have B4 := Lib.hid ((B3.out).trans (b4.mono (by have := B3.out.size; first | exact this | (simp <;> omega)))); have Y4 : Hid (IsRow w4 (w2.heap.size) 24 #[.int .i64 0, .int .i64 5, .int .i64 6, .slice p2 0 c2]) := Lib.hid (by first | exact Y3.out.call b4 | (have h := Y3.out.call b4; simp at h; exact h)); clear Yc0 Yf0 Yc1 Yf1 Yc2 Yf2 Yc3 Yf3 Ylt; have Yc0 : w4.cell? ⟨w2.heap.size, 0, none⟩ = some (.int .i64 0) := Y4.out.cell 0; have Yf0 : w4.frozen? ⟨w2.heap.size, 0, none⟩ = false := Y4.out.free 0; have Yc1 : w4.cell? ⟨w2.heap.size, 1, none⟩ = some (.int .i64 5) := Y4.out.cell 1; have Yf1 : w4.frozen? ⟨w2.heap.size, 1, none⟩ = false := Y4.out.free 1; have Yc2 : w4.cell? ⟨w2.heap.size, 2, none⟩ = some (.int .i64 6) := Y4.out.cell 2; have Yf2 : w4.frozen? ⟨w2.heap.size, 2, none⟩ = false := Y4.out.free 2; have Yc3 : w4.cell? ⟨w2.heap.size, 3, none⟩ = some (.slice p2 0 c2) := Y4.out.cell 3; have Yf3 : w4.frozen? ⟨w2.heap.size, 3, none⟩ = false := Y4.out.free 3; have Ylt : w2.heap.size < w4.heap.size := Y4.out.lt; have WY4 := Lib.hid (WY3.out.call b4))
    | (go_at_call 16; refine (end_any ⟨0, 5, 6, .slice p2 0 c2, ws2⟩ [shutO 5, shutO 6] 2 (by show endL ⟨0, 5, 6, texts ws2⟩ = _; rw [ET2.out]; try decide) rfl _ WY4.out).mono ?_; rintro e w5 ⟨⟨p5, k5, os5, rfl, -, -⟩, b5⟩; have B5 := Lib.hid ((B4.out).trans (b5.mono (by have := B4.out.size; first | exact this | (simp <;> omega)))); have Y5 : Hid (IsRow w5 (w2.heap.size) 24 #[.int .i64 0, .int .i64 5, .int .i64 6, .slice p2 0 c2]) := Lib.hid (by first | exact Y4.out.call b5 | (have h := Y4.out.call b5; simp at h; exact h)); clear Yc0 Yf0 Yc1 Yf1 Yc2 Yf2 Yc3 Yf3 Ylt; have WY5 := Lib.hid (WY4.out.call b5)))
  go_ret
  exact ⟨by first | rfl | (simp; done), B5.out⟩

#print axioms few_any
#print axioms awake_any
end Go.Proofs.Ytfeiafjeidnmkaa.Da
