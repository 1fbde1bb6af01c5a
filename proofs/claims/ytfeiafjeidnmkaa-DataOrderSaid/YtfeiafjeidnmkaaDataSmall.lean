/- Package data: bytes cloned and compared; which links may be; the other one of both; who has a connection. -/
import Derived.Test.YtfeiafjeidnmkaaLinks
import Derived.Lib.SliceRun
import Derived.WalkMore
import Derived.LoopTactic
import Derived.BigQuiet
import Derived.Deep.QuietTactic
import Derived.Deep.RegionHeld
namespace Go.Proofs.Ytfeiafjeidnmkaa.Da
open Go.Proofs.Ytfeiafjeidnmkaa
open Go Go.ChangeShapes Go.WideShapes Go.ChangeAt Go.RowKit
set_option maxRecDepth 100000
set_option linter.unusedSimpArgs false
set_option linter.unusedVariables false

theorem dbelow {a b c : World} (h : Below a.heap.size a b) (k : Below b.heap.size b c) : Below a.heap.size a c := h.trans (k.mono h.size)
set_option maxHeartbeats 2000000 in
/-- bytes.Clone: bytes of one's own -/
theorem clone_any (u : Value) (l : List UInt8) (N : Nat) (hN : l.length = N) (hl : N ≤ 1000000) (w : World) (H : BytesIs w u l) :
    Calls Try.prog 27 #[u] w fun e w' => ∃ p c, e = .returned (.slice p N c) ∧ Own8 w.heap.size w' (.slice p N c) l ∧ Below w.heap.size w w' := by
  have q : ∀ (w : World) (a : Option Addr) (n c n' c' : Nat), (binOp .eql 25 (.slice a n c) (.slice none n' c')).run Try.prog w = .ok (.bool a.isNone) w := fun w a n c n' c' => Lib.run_eql_slice_nil w _ _ a n c n' c' Try.underlying25
  have HR := Lib.hid H
  have HLL := Lib.hid hl
  obtain ⟨p, c, rfl⟩ := H.form
  rw [hN] at HR ⊢
  have HN := Lib.hid hN
  clear H hl hN
  cases p with
  | none =>
    go_enter Try.func27, Try.ntmps27
    go_wp2_with fail
    go_ret
    have h := HR.out
    rcases h with ⟨e, rfl⟩ | ⟨a, c', e, _⟩
    · injection e with e1 e2 e3
      subst e2
      exact ⟨none, 0, rfl, World.ownsRow_nil _ _ _ _, Below.refl _ _⟩
    · cases e
  | some ad =>
    go_enter Try.func27, Try.ntmps27
    go_wp2_with (at_builtin; refine wpList_append_bytes rfl _ _ rfl w.heap.size (.slice (some ⟨w.heap.size, 0, none⟩) 0 0) [] rfl (World.ownsRow_made w #[] 0 (Nat.le_refl _) (Nat.zero_le _) rfl) (.slice (some ad) N c) l rfl (HR.out.alloc _) ?qc1 ?qc2 ?_)
    case qc1 => have := HLL.out; have := HN.out; simp; omega
    case qc2 => simp
    intro v' w1 hown hgrow
    have HB : Below w.heap.size w w1 := ((Below.refl _ w).alloc (Nat.le_refl _) _).grown hgrow (by simp) (by intro k hk; simp [Value.ownBlock] at hk; omega)
    obtain ⟨p', c', rfl⟩ := own_form hown
    rw [HN.out] at hown
    go_wp2_with fail
    go_ret
    exact ⟨p', c', by simp [HN.out], by unfold Own8; rw [HN.out]; exact hown, HB⟩

set_option maxHeartbeats 1000000 in
theorem equalb_any (u v : Value) (l m : List UInt8) (b : Bool) (hb : decide (l = m) = b) (w : World) (H : BytesIs w u l) (H' : BytesIs w v m) :
    Calls Try.prog 35 #[u, v] w fun e w' => e = .returned (.bool b) ∧ w = w' := by
  have e1 := str_of_bytes H
  have e2 := str_of_bytes H'
  have hq : (l == m) = b := by
    by_cases h : l = m
    · rw [← hb, decide_eq_true h, h]; simp
    · rw [← hb, decide_eq_false h]; simp [h]
  go_enter Try.func35, Try.ntmps35
  go_wp2_with fail
  go_ret
  exact ⟨by first | rfl | (simp [hq]; done) | (rw [← hq]; simp), rfl⟩

theorem empty_any (u : Value) (l : List UInt8) (b : Bool) (hb : (l.length == 0) = b) (w : World) (H : BytesIs w u l) :
    Calls Try.prog 33 #[u] w fun e w' => e = .returned (.bool b) ∧ w = w' := by
  obtain ⟨p, c, rfl⟩ := H.form
  have hq : ((l.length : Int) == 0) = b := by
    rw [← hb]
    cases h : (l.length == 0) with
    | true => rw [beq_iff_eq] at h ⊢; omega
    | false => rw [beq_eq_false_iff_ne] at h ⊢; omega
  clear H hb
  go_enter Try.func33, Try.ntmps33
  go_wp2_with fail
  go_ret
  exact ⟨by first | rfl | (rw [hq]; done) | simp [hq], rfl⟩

/-- where the first empty one is -/
theorem idx_any (u : Value) (l : List Ck) (b : Bool) (hb : fullB (texts l) = b) (w : World) (H : RowIs chunks w u l) :
    Calls Try.prog 36 #[u, .func (.func 33) #[] #[]] w fun e w' => (∃ r : Int, e = .returned (.int .i64 r) ∧ (b = false → 0 ≤ r) ∧ (b = true → ¬ 0 ≤ r)) ∧ Below w.heap.size w w' := by
  have hmax := H.max
  obtain ⟨p, n, c, rfl, hn⟩ := H.form
  have HN := Lib.hid hn
  have HR := Lib.hid H
  rw [← hn] at hmax
  have HE : Hid ((∀ j (hj : j < l.length), (l[j].b.length == 0) = false) → b = true) := Lib.hid (fun h => by
    rw [← hb]
    refine fullB_all fun k hk => ?_
    have hk' : k < l.length := by rwa [texts_length] at hk
    have := h k hk'
    simpa [texts] using this)
  have HA : Hid (∀ j (hj : j < l.length), (l[j].b.length == 0) = true → b = false) := Lib.hid (fun j hj h => by
    rw [← hb]
    exact fullB_no (k := j) (by rwa [texts_length]) (by simpa [texts] using h))
  clear hn H hb
  go_enter Try.func36, Try.ntmps36
  go_wp2_with fail
  go_loopw [8] (fun x8 wr => ∃ (k : Nat), x8 = .int .i64 (k : Int) ∧ k ≤ n ∧ Hid (∀ j (hj : j < l.length), j < k → (l[j].b.length == 0) = false) ∧ Hid (Below w.heap.size w wr)) (fun i _ => n - (intOf i).toNat)
  case atStart => exact ⟨0, rfl, Nat.zero_le _, Lib.hid (fun j _ h => absurd h (Nat.not_lt_zero j)), Lib.hid (Below.refl _ _)⟩
  case round =>
    obtain ⟨k, rfl, hk, HO, HB⟩ := hrel
    by_cases hlt : k < n
    · have hji : (k : Int) < (n : Int) := by omega
      have HK : Hid (k + 1 ≤ n) := Lib.hid hlt
      have hkl : k < l.length := by rw [← HN.out]; exact hlt
      have HRk := HR.out.call HB.out
      have HX := Lib.hid (HRk.1 (l[k]'hkl) (List.getElem_mem hkl))
      obtain ⟨b1, o1, rfl, hb1, hc1⟩ := HRk.some (by omega)
      have a0 : wr.cell? ⟨b1, o1 + k, none⟩ = some ((l[k]'hkl).v) := by
        have := (hc1 k hkl).2 0 (by decide)
        simpa using this
      have HAK := Lib.hid (HA.out k hkl)
      have HNK : Hid (((l[k]'hkl).b.length == 0) = false → ∀ j (hj : j < l.length), j < k + 1 → (l[j].b.length == 0) = false) := Lib.hid (fun h j hj hjk => by
        by_cases e : j = k
        · subst e; exact h
        · exact HO.out j hj (by omega))
      clear hc1 HRk
      generalize l[k]'hkl = x at *
      cases h1 : (x.b.length == 0) with
      | true =>
        have HV := Lib.hid (HAK.out h1)
        have HC := Lib.hid (empty_any x.v x.b true h1 _ HX.out)
        clear HAK HNK h1
        go_wp2_with (go_at_call 33; refine HC.out.mono ?_; rintro e w1 ⟨rfl, rfl⟩; clear HC)
        go_ret
        exact ⟨⟨(k : Int), rfl, (fun _ => by omega), (fun h => by rw [HV.out] at h; cases h)⟩, HB.out⟩
      | false =>
        have HV := Lib.hid (HNK.out h1)
        have HC := Lib.hid (empty_any x.v x.b false h1 _ HX.out)
        clear HAK HNK h1
        go_wp2_with (go_at_call 33; refine HC.out.mono ?_; rintro e w1 ⟨rfl, rfl⟩; clear HC)
        go_roundw
        case rel => exact ⟨k + 1, by go_num, HK.out, HV, HB⟩
        case measure => have := HK.out; simp [intOf]; omega
    · have hji : ¬ (k : Int) < (n : Int) := by omega
      have HV := Lib.hid (HE.out (fun j hj => HO.out j hj (by have := HN.out; omega)))
      go_wp2_with fail
      go_ret
      exact ⟨⟨-1, rfl, (fun h => by rw [HV.out] at h; cases h), (fun _ => by decide)⟩, HB.out⟩

theorem cont_any (u : Value) (l : List Ck) (b : Bool) (hb : fullB (texts l) = b) (w : World) (H : RowIs chunks w u l) :
    Calls Try.prog 32 #[u, .func (.func 33) #[] #[]] w fun e w' => e = .returned (.bool (!b)) ∧ Below w.heap.size w w' := by
  have HC := Lib.hid (idx_any u l b hb w H)
  obtain ⟨p, n, c, rfl, -⟩ := H.form
  clear H hb
  cases b with
  | true =>
    go_enter Try.func32, Try.ntmps32
    go_wp2_with (go_at_call 36; refine HC.out.mono ?_; rintro e w1 ⟨⟨r, rfl, -, h1⟩, b1⟩; have h2 := h1 rfl; have B1 := Lib.hid b1; clear HC h1 b1)
    go_ret
    exact ⟨by first | rfl | (simp; done) | (simp; omega), B1.out⟩
  | false =>
    go_enter Try.func32, Try.ntmps32
    go_wp2_with (go_at_call 36; refine HC.out.mono ?_; rintro e w1 ⟨⟨r, rfl, h1, -⟩, b1⟩; have h2 := h1 rfl; have B1 := Lib.hid b1; clear HC h1 b1)
    go_ret
    exact ⟨by first | rfl | (simp; done) | (simp; omega), B1.out⟩

set_option maxHeartbeats 2000000 in
theorem mw_any (x : Lk) (b : Bool) (hb : waitB x.b (texts x.ws) = b) (w : World) (H : LinkIs w x) :
    Calls Try.prog 29 #[linkV x] w fun e w' => e = .returned (.bool b) ∧ Below w.heap.size w w' := by
  have B0 := Lib.hid ((Below.refl w.heap.size w).alloc (Nat.le_refl _) (.cells #[.int .i64 x.sess, .int .i64 x.a, .int .i64 x.b, x.wv] 24))
  have HF := Lib.hid (cont_any x.wv x.ws _ rfl _ (H.alloc (.cells #[.int .i64 x.sess, .int .i64 x.a, .int .i64 x.b, x.wv] 24)))
  unfold waitB at hb
  rw [texts_length] at hb
  obtain ⟨s, a, bb, wv, ws⟩ := x
  simp only at H HF hb B0 ⊢
  obtain ⟨p, n, c, rfl, hn⟩ := H.form
  rw [← hn] at hb
  have hmax := H.max
  rw [← hn] at hmax
  clear hn H
  by_cases h1 : -1 < bb
  · rw [if_pos h1] at hb
    have h2 : ((n : Int) == 0) = b := by
      rw [← hb]
      cases h : (n == 0) with
      | true => rw [beq_iff_eq] at h ⊢; omega
      | false => rw [beq_eq_false_iff_ne] at h ⊢; omega
    have h1' : bb > -1 := h1
    clear hb HF
    go_enter Try.func29, Try.ntmps29
    go_wp2_with fail
    go_ret
    exact ⟨by first | rfl | (simp [h2]; done), B0.out⟩
  · rw [if_neg h1] at hb
    have h1' : ¬ bb > -1 := h1
    by_cases h2 : n ≤ 4
    · rw [decide_eq_true h2, Bool.true_and] at hb
      have h3 : (n : Int) ≤ 4 := by omega
      rw [hb] at HF
      clear hb
      go_enter Try.func29, Try.ntmps29
      go_wp2_with (go_at_call 32; refine HF.out.mono ?_; rintro e w1 ⟨rfl, b1⟩; have B1 := Lib.hid (B0.out.trans (b1.mono B0.out.size)); clear HF b1)
      go_ret
      exact ⟨by first | rfl | (simp; done), B1.out⟩
    · rw [decide_eq_false h2, Bool.false_and] at hb
      subst hb
      have h3 : ¬ (n : Int) ≤ 4 := by omega
      clear HF
      go_enter Try.func29, Try.ntmps29
      go_wp2_with fail
      go_ret
      exact ⟨by first | rfl | (simp; done), B0.out⟩

set_option maxHeartbeats 4000000 in
theorem may_any (x : Lk) (b : Bool) (hb : mayL x.p = b) (w : World) (H : LinkIs w x) :
    Calls Try.prog 20 #[linkV x] w fun e w' => e = .returned (.bool b) ∧ Below w.heap.size w w' := by
  have B0 := Lib.hid ((Below.refl w.heap.size w).alloc (Nat.le_refl _) (.cells #[.int .i64 x.sess, .int .i64 x.a, .int .i64 x.b, x.wv] 24))
  have HW := Lib.hid (mw_any x _ rfl _ (H.alloc (.cells #[.int .i64 x.sess, .int .i64 x.a, .int .i64 x.b, x.wv] 24)))
  have hb' : (decide (0 ≤ x.sess) && (decide (0 ≤ x.a) && (decide (-1 ≤ x.b) && (!(x.b == x.a) && waitB x.b (texts x.ws))))) = b := hb
  clear hb
  obtain ⟨p, n, c, hv, -⟩ := H.form
  obtain ⟨s, a, bb, wv, ws⟩ := x
  simp only at H HW hb' B0 hv ⊢
  subst hv
  generalize waitB bb (texts ws) = m at *
  clear H
  by_cases h1 : 0 ≤ s
  · have g1 : s ≥ 0 := h1
    rw [decide_eq_true h1, Bool.true_and] at hb'
    by_cases h2 : 0 ≤ a
    · have g2 : a ≥ 0 := h2
      rw [decide_eq_true h2, Bool.true_and] at hb'
      by_cases h3 : -1 ≤ bb
      · have g3 : bb ≥ -1 := h3
        rw [decide_eq_true h3, Bool.true_and] at hb'
        by_cases h4 : bb = a
        · have e4 : (bb == a) = true := by rw [beq_iff_eq]; exact h4
          have e5 : (bb != a) = false := by rw [bne, e4]; rfl
          rw [e4, Bool.not_true, Bool.false_and] at hb'
          subst hb'
          clear HW h4
          go_enter Try.func20, Try.ntmps20
          go_wp2_with fail
          go_ret
          exact ⟨by first | rfl | (simp; done), B0.out⟩
        · have e4 : (bb == a) = false := beq_eq_false_iff_ne.2 h4
          have e5 : (bb != a) = true := by rw [bne, e4]; rfl
          rw [e4, Bool.not_false, Bool.true_and] at hb'
          subst hb'
          go_enter Try.func20, Try.ntmps20
          go_wp2_with (go_at_call 29; refine HW.out.mono ?_; rintro e w1 ⟨rfl, b1⟩; have B1 := Lib.hid (B0.out.trans (b1.mono B0.out.size)); clear HW b1)
          go_ret
          exact ⟨by first | rfl | (simp; done), B1.out⟩
      · have g3 : ¬ bb ≥ -1 := h3
        rw [decide_eq_false h3, Bool.false_and] at hb'
        subst hb'
        clear HW
        go_enter Try.func20, Try.ntmps20
        go_wp2_with fail
        go_ret
        exact ⟨by first | rfl | (simp; done), B0.out⟩
    · have g2 : ¬ a ≥ 0 := h2
      rw [decide_eq_false h2, Bool.false_and] at hb'
      subst hb'
      clear HW
      go_enter Try.func20, Try.ntmps20
      go_wp2_with fail
      go_ret
      exact ⟨by first | rfl | (simp; done), B0.out⟩
  · have g1 : ¬ s ≥ 0 := h1
    rw [decide_eq_false h1, Bool.false_and] at hb'
    subst hb'
    clear HW
    go_enter Try.func20, Try.ntmps20
    go_wp2_with fail
    go_ret
    exact ⟨by first | rfl | (simp; done), B0.out⟩

theorem both_any (x : Lk) (w : World) (H : LinkIs w x) :
    Calls Try.prog 24 #[linkV x] w fun e w' => e = .returned (.agg #[.int .i64 x.a, .int .i64 x.b]) ∧ Below w.heap.size w w' := by
  obtain ⟨p, n, c, hv, -⟩ := H.form
  obtain ⟨s, a, bb, wv, ws⟩ := x
  simp only at H hv ⊢
  subst hv
  clear H
  have BE := Lib.hid (((Below.refl w.heap.size w).alloc (Nat.le_refl _) (.cells #[.int .i64 s, .int .i64 a, .int .i64 bb, .slice p n c] 24)).alloc (by simp) (.cells #[.int .i64 a, .int .i64 bb] 50))
  go_enter Try.func24, Try.ntmps24
  go_wp2_with fail
  refine bodyPost_ret (v := .agg #[.int .i64 a, .int .i64 bb]) (by simp [results, Try.results24, go_sem]; done) rfl ?_
  exact ⟨rfl, BE.out⟩

theorem other_any (a b c : Int) (o : Int) (r : Bool) (ho : otherL a b c = o) (hr : (c == a || c == b) = r) (w : World) :
    Calls Try.prog 25 #[.agg #[.int .i64 a, .int .i64 b], .int .i64 c] w fun e w' => e = .returned (.tuple #[.int .i64 o, .bool r]) ∧ Below w.heap.size w w' := by
  have B0 := Lib.hid ((Below.refl w.heap.size w).alloc (Nat.le_refl _) (.cells #[.int .i64 a, .int .i64 b] 50))
  unfold otherL at ho
  by_cases h1 : c = a
  · rw [if_pos h1] at ho
    have e1 : (c == a) = true := by rw [beq_iff_eq]; exact h1
    rw [e1, Bool.true_or] at hr
    subst ho; subst hr
    clear h1
    go_enter Try.func25, Try.ntmps25
    go_wp2_with fail
    go_ret2
    exact ⟨by first | rfl | (simp; done), B0.out⟩
  · rw [if_neg h1] at ho
    have e1 : (c == a) = false := beq_eq_false_iff_ne.2 h1
    rw [e1, Bool.false_or] at hr
    by_cases h2 : c = b
    · rw [if_pos h2] at ho
      have e2 : (c == b) = true := by rw [beq_iff_eq]; exact h2
      rw [e2] at hr
      subst ho; subst hr
      clear h1 h2
      go_enter Try.func25, Try.ntmps25
      go_wp2_with fail
      go_ret2
      exact ⟨by first | rfl | (simp; done), B0.out⟩
    · rw [if_neg h2] at ho
      have e2 : (c == b) = false := beq_eq_false_iff_ne.2 h2
      rw [e2] at hr
      subst ho; subst hr
      clear h1 h2
      go_enter Try.func25, Try.ntmps25
      go_wp2_with fail
      go_ret2
      exact ⟨by first | rfl | (simp; done), B0.out⟩

theorem has_any (x : Lk) (c : Int) (b : Bool) (hb : hasL x.p c = b) (w : World) (H : LinkIs w x) :
    Calls Try.prog 21 #[linkV x, .int .i64 c] w fun e w' => e = .returned (.bool b) ∧ Below w.heap.size w w' := by
  have B0 := Lib.hid ((Below.refl w.heap.size w).alloc (Nat.le_refl _) (.cells #[.int .i64 x.sess, .int .i64 x.a, .int .i64 x.b, x.wv] 24))
  have H1 := Lib.hid (both_any x _ (H.alloc (.cells #[.int .i64 x.sess, .int .i64 x.a, .int .i64 x.b, x.wv] 24)))
  have H2 := Lib.hid (fun W => other_any x.a x.b c _ _ rfl rfl W)
  have hb' : (decide (-1 < c) && (c == x.a || c == x.b)) = b := hb
  obtain ⟨p, n, cc, hv, -⟩ := H.form
  obtain ⟨s, a, bb, wv, ws⟩ := x
  simp only at H H1 H2 hb' B0 hv ⊢
  subst hv
  generalize (c == a || c == bb) = m at *
  generalize otherL a bb c = o at *
  clear H hb
  cases m with
  | true =>
    rw [Bool.and_true] at hb'
    have g1 : decide (c > -1) = b := hb'
    by_cases h1 : c > -1
    · rw [decide_eq_true h1] at g1
      subst g1
      clear hb'
      go_enter Try.func21, Try.ntmps21
      go_wp2_with (first
        | (go_at_call 24; refine H1.out.mono ?_; rintro e w1 ⟨rfl, b1⟩; have B1 := Lib.hid (B0.out.trans (b1.mono B0.out.size)); clear H1 b1)
        | (go_at_call 25; refine (H2.out _).mono ?_; rintro e w2 ⟨rfl, b2⟩; have B2 := Lib.hid (B1.out.trans (b2.mono B1.out.size)); clear H2 b2))
      go_ret
      exact ⟨by first | rfl | (simp; done) | (simp [h1]; done), B2.out⟩
    · rw [decide_eq_false h1] at g1
      subst g1
      clear hb'
      go_enter Try.func21, Try.ntmps21
      go_wp2_with (first
        | (go_at_call 24; refine H1.out.mono ?_; rintro e w1 ⟨rfl, b1⟩; have B1 := Lib.hid (B0.out.trans (b1.mono B0.out.size)); clear H1 b1)
        | (go_at_call 25; refine (H2.out _).mono ?_; rintro e w2 ⟨rfl, b2⟩; have B2 := Lib.hid (B1.out.trans (b2.mono B1.out.size)); clear H2 b2))
      go_ret
      exact ⟨by first | rfl | (simp; done) | (simp [h1]; done), B2.out⟩
  | false =>
    rw [Bool.and_false] at hb'
    subst hb'
    go_enter Try.func21, Try.ntmps21
    go_wp2_with (first
      | (go_at_call 24; refine H1.out.mono ?_; rintro e w1 ⟨rfl, b1⟩; have B1 := Lib.hid (B0.out.trans (b1.mono B0.out.size)); clear H1 b1)
      | (go_at_call 25; refine (H2.out _).mono ?_; rintro e w2 ⟨rfl, b2⟩; have B2 := Lib.hid (B1.out.trans (b2.mono B1.out.size)); clear H2 b2))
    go_ret
    exact ⟨by first | rfl | (simp; done), B2.out⟩

#print axioms has_any
#print axioms may_any
#print axioms clone_any
end Go.Proofs.Ytfeiafjeidnmkaa.Da
