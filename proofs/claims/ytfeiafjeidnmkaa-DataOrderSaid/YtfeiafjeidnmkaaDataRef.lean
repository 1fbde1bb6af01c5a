/- The document's answer for layer 21: which links may be, who has a connection, links compared. -/
import Derived.Test.YtfeiafjeidnmkaaDataSame
import Derived.RegionTactic
namespace Go.Proofs.Ytfeiafjeidnmkaa.Da
open Go.Proofs.Ytfeiafjeidnmkaa
open Go Go.ChangeShapes Go.WideShapes Go.ChangeAt Go.RowKit
set_option maxRecDepth 100000
set_option linter.unusedSimpArgs false
set_option linter.unusedVariables false

/-- the loop that looks for an empty chunk; its end is told ahead -/
theorem mayL_no {x : PL} (h : x.sess < 0 ∨ x.a < 0 ∨ x.b < -1 ∨ x.b = x.a ∨ 4 < x.ws.length ∨ (x.b ≠ -1 ∧ 0 < x.ws.length)) : mayL x = false := by
  cases hq : mayL x with
  | false => rfl
  | true =>
    obtain ⟨h0, h1, h2, h3, h4⟩ := mayL_parts hq
    unfold waitB at h4
    split at h4
    · rw [beq_iff_eq] at h4
      rcases h with h | h | h | h | h | h <;> first | (exact absurd h h3) | omega
    · simp only [Bool.and_eq_true, decide_eq_true_eq] at h4
      rcases h with h | h | h | h | h | h <;> first | (exact absurd h h3) | omega
theorem mayL_full {x : PL} (h0 : ¬ x.sess < 0) (h1 : ¬ x.a < 0) (h2 : ¬ x.b < -1) (h3 : ¬ x.b = x.a) (h4 : ¬ 4 < x.ws.length) (h5 : ¬ (x.b ≠ -1 ∧ 0 < x.ws.length)) : mayL x = fullB x.ws := by
  have e : mayL x = waitB x.b x.ws := by
    unfold mayL
    rw [decide_eq_true (by omega : 0 ≤ x.sess), decide_eq_true (by omega : 0 ≤ x.a), decide_eq_true (by omega : -1 ≤ x.b), beq_eq_false_iff_ne.2 h3]
    simp
  rw [e]
  unfold waitB
  split
  · rename_i hb
    have hl : x.ws = [] := by
      cases hq : x.ws with
      | nil => rfl
      | cons y l => exact absurd ⟨by omega, by rw [hq]; simp⟩ h5
    rw [hl]; rfl
  · rw [decide_eq_true (by omega : x.ws.length ≤ 4), Bool.true_and]

set_option maxHeartbeats 8000000 in
theorem rmay_any (x : Lk) (b : Bool) (hb : mayL x.p = b) (w : World) (H : LinkIs w x) :
    Calls Try.prog 18 #[linkV x] w fun e w' => e = .returned (.bool b) ∧ Below w.heap.size w w' := by
  have BX := Lib.hid ((Below.refl w.heap.size w).alloc (Nat.le_refl _) (.cells #[.int .i64 x.sess, .int .i64 x.a, .int .i64 x.b, x.wv] 24))
  have HN0 : Hid ((x.sess < 0 ∨ x.a < 0 ∨ x.b < -1 ∨ x.b = x.a ∨ 4 < x.ws.length ∨ (x.b ≠ -1 ∧ 0 < x.ws.length)) → b = false) := Lib.hid (fun h => by
    rw [← hb]; refine mayL_no ?_
    rw [show x.p.ws.length = x.ws.length from texts_length _]; exact h)
  have HF0 : Hid (¬ x.sess < 0 → ¬ x.a < 0 → ¬ x.b < -1 → ¬ x.b = x.a → ¬ 4 < x.ws.length → ¬ (x.b ≠ -1 ∧ 0 < x.ws.length) → fullB (texts x.ws) = b) := Lib.hid (fun h0 h1 h2 h3 h4 h5 => by
    rw [← hb]; exact (mayL_full h0 h1 h2 h3 (by rw [show x.p.ws.length = x.ws.length from texts_length _]; exact h4) (by rw [show x.p.ws.length = x.ws.length from texts_length _]; exact h5)).symm)
  have HR0 := Lib.hid (H.alloc (.cells #[.int .i64 x.sess, .int .i64 x.a, .int .i64 x.b, x.wv] 24))
  obtain ⟨p, n, c, hv, hn⟩ := H.form
  have hmax := H.max
  obtain ⟨s, a, bb, wv, ws⟩ := x
  simp only at H hv hn hmax BX HN0 HF0 HR0
  subst hv
  replace HR0 : Hid (RowIs chunks (w.alloc (.cells #[.int .i64 s, .int .i64 a, .int .i64 bb, .slice p n c] 24)) (.slice p n c) ws) := HR0
  rw [← hn] at hmax HN0 HF0
  have HN := Lib.hid hn
  clear hn H hb
  have X0 : Hid (IsRow (w.alloc (.cells #[.int .i64 s, .int .i64 a, .int .i64 bb, .slice p n c] 24)) w.heap.size 24 #[.int .i64 s, .int .i64 a, .int .i64 bb, .slice p n c]) := Lib.hid (IsRow.made _ _ _)
  by_cases h0 : s < 0
  · have HV := Lib.hid (HN0.out (Or.inl h0))
    clear HN0 HF0
    go_enter Try.func18, Try.ntmps18
    go_wp2_with fail
    go_ret
    exact ⟨by rw [HV.out] <;> rfl, BX.out⟩
  · by_cases h1 : a < 0
    · have HV := Lib.hid (HN0.out (Or.inr (Or.inl h1)))
      clear HN0 HF0
      go_enter Try.func18, Try.ntmps18
      go_wp2_with fail
      go_ret
      exact ⟨by rw [HV.out] <;> rfl, BX.out⟩
    · by_cases h2 : bb < -1
      · have HV := Lib.hid (HN0.out (Or.inr (Or.inr (Or.inl h2))))
        clear HN0 HF0
        go_enter Try.func18, Try.ntmps18
        go_wp2_with fail
        go_ret
        exact ⟨by rw [HV.out] <;> rfl, BX.out⟩
      · by_cases h3 : bb = a
        · have HV := Lib.hid (HN0.out (Or.inr (Or.inr (Or.inr (Or.inl h3)))))
          have h3' : (bb == a) = true := by rw [beq_iff_eq]; exact h3
          clear HN0 HF0 h3
          go_enter Try.func18, Try.ntmps18
          go_wp2_with fail
          go_ret
          exact ⟨by rw [HV.out] <;> rfl, BX.out⟩
        · have h3' : (bb == a) = false := beq_eq_false_iff_ne.2 h3
          by_cases h4 : 4 < n
          · have HV := Lib.hid (HN0.out (Or.inr (Or.inr (Or.inr (Or.inr (Or.inl h4))))))
            have h4' : (n : Int) > 4 := by omega
            clear HN0 HF0 h3 h4
            go_enter Try.func18, Try.ntmps18
            go_wp2_with fail
            go_ret
            exact ⟨by rw [HV.out] <;> rfl, BX.out⟩
          · have h4' : ¬ (n : Int) > 4 := by omega
            by_cases h5 : bb ≠ -1 ∧ 0 < n
            · have HV := Lib.hid (HN0.out (Or.inr (Or.inr (Or.inr (Or.inr (Or.inr h5))))))
              have h5' : (bb != -1) = true := by rw [bne_iff_ne]; exact h5.1
              have h6' : (n : Int) > 0 := by omega
              clear HN0 HF0 h3 h4 h5
              go_enter Try.func18, Try.ntmps18
              go_wp2_with fail
              go_ret
              exact ⟨by rw [HV.out] <;> rfl, BX.out⟩
            · have HV := Lib.hid (HF0.out h0 h1 h2 h3 h4 h5)
              clear HN0 HF0 h4
              have HE : Hid ((∀ j (hj : j < ws.length), (ws[j].b.length == 0) = false) → b = true) := Lib.hid (fun h => by
                rw [← HV.out]
                refine fullB_all fun k hk => ?_
                have hk' : k < ws.length := by rwa [texts_length] at hk
                have := h k hk'
                simpa [texts] using this)
              have HA : Hid (∀ j (hj : j < ws.length), (ws[j].b.length == 0) = true → b = false) := Lib.hid (fun j hj h => by
                rw [← HV.out]
                exact fullB_no (k := j) (by rwa [texts_length]) (by simpa [texts] using h))
              have h5c : (bb != -1) = false ∨ ((bb != -1) = true ∧ ¬ (n : Int) > 0) := by
                by_cases e : bb = -1
                · left; rw [e]; rfl
                · right; exact ⟨by rw [bne_iff_ne]; exact e, fun hgt => h5 ⟨e, by omega⟩⟩
              clear HV h3 h5
              rcases h5c with h5' | ⟨h5', h6'⟩
              · go_enter Try.func18, Try.ntmps18
                go_wp2_with fail
                obtain ⟨w2, hv⟩ : ∃ V, (w.alloc (.cells #[.int .i64 s, .int .i64 a, .int .i64 bb, .slice p n c] 24)) = V := ⟨_, rfl⟩
                rw [hv] at BX X0 HR0 ⊢
                clear hv
                go_loopw [3] (fun x3 wr => ∃ (k : Nat), x3 = .int .i64 (k : Int) ∧ k ≤ n ∧ Hid (∀ j (hj : j < ws.length), j < k → (ws[j].b.length == 0) = false) ∧ Hid (w2 = wr)) (fun i _ => n - (intOf i).toNat)
                case atStart => exact ⟨0, rfl, Nat.zero_le _, Lib.hid (fun j _ h => absurd h (Nat.not_lt_zero j)), Lib.hid rfl⟩
                case round =>
                  obtain ⟨k, rfl, hk, HO, HW⟩ := hrel
                  obtain rfl := HW.out
                  have x0 := X0.out.cell 0; have x1 := X0.out.cell 1; have x2 := X0.out.cell 2; have x3 := X0.out.cell 3; have xlt := X0.out.lt
                  by_cases hlt : k < n
                  · have hji : (k : Int) < (n : Int) := by omega
                    have HK : Hid (k + 1 ≤ n) := Lib.hid hlt
                    have hkl : k < ws.length := by rw [← HN.out]; exact hlt
                    obtain ⟨pz, cz, hz⟩ := (HR0.out.1 (ws[k]'hkl) (List.getElem_mem hkl)).form
                    obtain ⟨b1, o1, rfl, hb1, hc1⟩ := HR0.out.some (by omega)
                    have a0 : w2.cell? ⟨b1, o1 + k, none⟩ = some ((ws[k]'hkl).v) := by
                      have := (hc1 k hkl).2 0 (by decide)
                      simpa using this
                    have HAK := Lib.hid (HA.out k hkl)
                    have HNK : Hid (((ws[k]'hkl).b.length == 0) = false → ∀ j (hj : j < ws.length), j < k + 1 → (ws[j].b.length == 0) = false) := Lib.hid (fun h j hj hjk => by
                      by_cases e : j = k
                      · subst e; exact h
                      · exact HO.out j hj (by omega))
                    clear hc1
                    rw [hz] at a0
                    clear hz
                    generalize (ws[k]'hkl).b.length = m at *
                    cases h7 : (m == 0) with
                    | true =>
                      have HV := Lib.hid (HAK.out h7)
                      have h8 : ((m : Int) == 0) = true := by rw [beq_iff_eq] at h7 ⊢; omega
                      clear HAK HNK h7
                      go_wp2_with fail
                      go_ret
                      exact ⟨by rw [HV.out] <;> rfl, BX.out⟩
                    | false =>
                      have HV := Lib.hid (HNK.out h7)
                      have h8 : ((m : Int) == 0) = false := by rw [beq_eq_false_iff_ne] at h7 ⊢; omega
                      clear HAK HNK h7
                      go_wp2_with fail
                      go_roundw
                      case rel => exact ⟨k + 1, by go_num, HK.out, HV, Lib.hid (by trivial)⟩
                      case measure => have := HK.out; simp [intOf]; omega
                  · have hji : ¬ (k : Int) < (n : Int) := by omega
                    have HV := Lib.hid (HE.out (fun j hj => HO.out j hj (by have := HN.out; omega)))
                    go_wp2_with fail
                    go_ret
                    exact ⟨by rw [HV.out] <;> rfl, BX.out⟩
              · go_enter Try.func18, Try.ntmps18
                go_wp2_with fail
                obtain ⟨w2, hv⟩ : ∃ V, (w.alloc (.cells #[.int .i64 s, .int .i64 a, .int .i64 bb, .slice p n c] 24)) = V := ⟨_, rfl⟩
                rw [hv] at BX X0 HR0 ⊢
                clear hv
                go_loopw [3] (fun x3 wr => ∃ (k : Nat), x3 = .int .i64 (k : Int) ∧ k ≤ n ∧ Hid (∀ j (hj : j < ws.length), j < k → (ws[j].b.length == 0) = false) ∧ Hid (w2 = wr)) (fun i _ => n - (intOf i).toNat)
                case atStart => exact ⟨0, rfl, Nat.zero_le _, Lib.hid (fun j _ h => absurd h (Nat.not_lt_zero j)), Lib.hid rfl⟩
                case round =>
                  obtain ⟨k, rfl, hk, HO, HW⟩ := hrel
                  obtain rfl := HW.out
                  have x0 := X0.out.cell 0; have x1 := X0.out.cell 1; have x2 := X0.out.cell 2; have x3 := X0.out.cell 3; have xlt := X0.out.lt
                  by_cases hlt : k < n
                  · exact absurd hlt (by omega)
                  · have hji : ¬ (k : Int) < (n : Int) := by omega
                    have HV := Lib.hid (HE.out (fun j hj => HO.out j hj (by have := HN.out; omega)))
                    go_wp2_with fail
                    go_ret
                    exact ⟨by rw [HV.out] <;> rfl, BX.out⟩

theorem rhas_any (x : Lk) (c : Int) (b : Bool) (hb : hasL x.p c = b) (w : World) (H : LinkIs w x) :
    Calls Try.prog 19 #[linkV x, .int .i64 c] w fun e w' => e = .returned (.bool b) ∧ Below w.heap.size w w' := by
  have BX := Lib.hid ((Below.refl w.heap.size w).alloc (Nat.le_refl _) (.cells #[.int .i64 x.sess, .int .i64 x.a, .int .i64 x.b, x.wv] 24))
  have hb' : (decide (-1 < c) && (c == x.a || c == x.b)) = b := hb
  obtain ⟨p, n, cc, hv, -⟩ := H.form
  obtain ⟨s, a, bb, wv, ws⟩ := x
  simp only at hb' BX hv ⊢
  subst hv
  clear H hb
  by_cases h1 : c ≥ 0
  · rw [decide_eq_true (by omega : -1 < c), Bool.true_and] at hb'
    cases e1 : (c == a) with
    | true =>
      rw [e1, Bool.true_or] at hb'
      subst hb'
      go_enter Try.func19, Try.ntmps19
      go_wp2_with fail
      go_ret
      exact ⟨by first | rfl | (simp; done), BX.out⟩
    | false =>
      rw [e1, Bool.false_or] at hb'
      go_enter Try.func19, Try.ntmps19
      go_wp2_with fail
      go_ret
      exact ⟨by rw [← hb'] <;> first | rfl | (simp; done), BX.out⟩
  · rw [decide_eq_false (by omega : ¬ -1 < c), Bool.false_and] at hb'
    subst hb'
    go_enter Try.func19, Try.ntmps19
    go_wp2_with fail
    go_ret
    exact ⟨by first | rfl | (simp; done), BX.out⟩

#print axioms rmay_any
#print axioms rhas_any
end Go.Proofs.Ytfeiafjeidnmkaa.Da
