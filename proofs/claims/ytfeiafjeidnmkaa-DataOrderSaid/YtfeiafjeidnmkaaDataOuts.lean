/- The document's answer for layer 20: two lists of what goes out compared (Outs). -/
import Derived.Test.YtfeiafjeidnmkaaDataJoin
import Derived.Test.YtfeiafjeidnmkaaDataRefSame
import Derived.Test.YtfeiafjeidnmkaaEndEq
namespace Go.Proofs.Ytfeiafjeidnmkaa.Da
open Go.Proofs.Ytfeiafjeidnmkaa
open Go Go.ChangeShapes Go.WideShapes Go.ChangeAt Go.RowKit
set_option maxRecDepth 100000
set_option linter.unusedSimpArgs false
set_option linter.unusedVariables false

def endB (x y : Ou) : Bool := (x.h0 == y.h0 && x.h1 == y.h1 && x.h2 == y.h2 && x.h3 == y.h3) && x.port == y.port
theorem op_eq {x y : Ou} (h0 : x.kind = y.kind) (h1 : x.conn = y.conn) (h2 : endB x y = true) (h3 : x.b = y.b) : x.p = y.p := by
  unfold endB at h2
  simp only [Bool.and_eq_true, beq_iff_eq] at h2
  obtain ⟨⟨⟨⟨e0, e1⟩, e2⟩, e3⟩, e4⟩ := h2
  unfold Ou.p
  rw [h0, h1, e0, e1, e2, e3, e4, h3]
theorem op_ne {x y : Ou} (h : x.kind ≠ y.kind ∨ x.conn ≠ y.conn ∨ endB x y = false ∨ x.b ≠ y.b) : x.p ≠ y.p := by
  intro e
  have e0 : x.kind = y.kind := congrArg PO.kind e
  have e1 : x.conn = y.conn := congrArg PO.conn e
  have e3 : x.b = y.b := congrArg PO.b e
  have e2 : endB x y = true := by
    have a0 : x.h0 = y.h0 := congrArg PO.h0 e
    have a1 : x.h1 = y.h1 := congrArg PO.h1 e
    have a2 : x.h2 = y.h2 := congrArg PO.h2 e
    have a3 : x.h3 = y.h3 := congrArg PO.h3 e
    have a4 : x.port = y.port := congrArg PO.port e
    unfold endB
    simp [a0, a1, a2, a3, a4]
  rcases h with h | h | h | h
  · exact h e0
  · exact h e1
  · rw [e2] at h; cases h
  · exact h e3
/-- the eight cells of one at a place -/
theorem out_cells_at {w : World} {b o : Nat} {x : Ou} (h : OneAt outs w b o x) : w.cell? ⟨b, o, none⟩ = some (.int .i64 x.kind) ∧ w.cell? ⟨b, o + 1, none⟩ = some (.int .i64 x.conn) ∧ w.cell? ⟨b, o + 2, none⟩ = some (.int .u8 x.h0) ∧ w.cell? ⟨b, o + 3, none⟩ = some (.int .u8 x.h1) ∧ w.cell? ⟨b, o + 4, none⟩ = some (.int .u8 x.h2) ∧ w.cell? ⟨b, o + 5, none⟩ = some (.int .u8 x.h3) ∧ w.cell? ⟨b, o + 6, none⟩ = some (.int .i64 x.port) ∧ w.cell? ⟨b, o + 7, none⟩ = some x.bv :=
  ⟨h.2 0 (by decide), h.2 1 (by decide), h.2 2 (by decide), h.2 3 (by decide), h.2 4 (by decide), h.2 5 (by decide), h.2 6 (by decide), h.2 7 (by decide)⟩

set_option maxHeartbeats 16000000 in
theorem outs_any (u v : Value) (l m : List Ou) (b : Bool) (hb : sameOs (outsP l) (outsP m) = b) (w : World) (H : RowIs outs w u l) (H' : RowIs outs w v m) :
    Calls Try.prog 15 #[u, v] w fun e w' => e = .returned (.bool b) ∧ Below w.heap.size w w' := by
  have hmax := H.max
  have hmax' := H'.max
  obtain ⟨p, n, c, rfl, hn⟩ := H.form
  obtain ⟨p', n', c', rfl, hn'⟩ := H'.form
  have HN := Lib.hid hn
  have HN' := Lib.hid hn'
  have HR := Lib.hid H
  have HR' := Lib.hid H'
  rw [← hn] at hmax
  rw [← hn'] at hmax'
  clear hn hn' H H'
  by_cases q : n = n'
  · subst q
    have g : ((n : Int) != (n : Int)) = false := by simp
    have HT : Hid ((∀ k (h : k < l.length) (h' : k < m.length), l[k].p = m[k].p) → b = true) := Lib.hid (fun h => by rw [← hb]; exact map_all _ (by rw [← HN.out, ← HN'.out]) h)
    have HX : Hid (∀ k (h : k < l.length) (h' : k < m.length), l[k].p ≠ m[k].p → b = false) := Lib.hid (fun k h h' hn => by rw [← hb]; exact map_no _ h h' hn)
    clear hb
    go_enter Try.func15, Try.ntmps15
    go_wp2_with fail
    go_loopw [5] (fun x5 wr => ∃ (k : Nat), x5 = .int .i64 (k : Int) ∧ k ≤ n ∧ Hid (∀ j (h : j < l.length) (h' : j < m.length), j < k → l[j].p = m[j].p) ∧ Hid (Below w.heap.size w wr)) (fun i _ => n - (intOf i).toNat)
    case atStart => exact ⟨0, rfl, Nat.zero_le _, Lib.hid (fun j _ _ hj => absurd hj (Nat.not_lt_zero j)), Lib.hid (Below.refl _ _)⟩
    case round =>
      obtain ⟨k, rfl, hk, HO, HB⟩ := hrel
      by_cases hlt : k < n
      · have hji : (k : Int) < (n : Int) := by omega
        have HK : Hid (k + 1 ≤ n) := Lib.hid hlt
        have hkl : k < l.length := by rw [← HN.out]; exact hlt
        have hkm : k < m.length := by rw [← HN'.out]; exact hlt
        have HR1 := HR.out.call HB.out
        have HR2 := HR'.out.call HB.out
        have HX1 := HR1.1 (l[k]'hkl) (List.getElem_mem hkl)
        have HX2 := HR2.1 (m[k]'hkm) (List.getElem_mem hkm)
        obtain ⟨b1, o1, rfl, hb1, hc1⟩ := HR1.some (by omega)
        obtain ⟨b2, o2, rfl, hb2, hc2⟩ := HR2.some (by omega)
        obtain ⟨a0, a1, a2, a3, a4, a5, a6, a7⟩ := out_cells_at (hc1 k hkl)
        obtain ⟨d0, d1, d2, d3, d4, d5, d6, d7⟩ := out_cells_at (hc2 k hkm)
        have HXK := Lib.hid (HX.out k hkl hkm)
        have HNK : Hid ((l[k]'hkl).p = (m[k]'hkm).p → ∀ j (h : j < l.length) (h' : j < m.length), j < k + 1 → l[j].p = m[j].p) := Lib.hid (fun h j hj hj' hjk => by
          by_cases e : j = k
          · subst e; exact h
          · exact HO.out j hj hj' (by omega))
        have V1 := conv_bytes HX1
        have V2 := conv_bytes HX2
        have heq := fun W => equal_ends (l[k]'hkl).h0 (l[k]'hkl).h1 (l[k]'hkl).h2 (l[k]'hkl).h3 (l[k]'hkl).port (m[k]'hkm).h0 (m[k]'hkm).h1 (m[k]'hkm).h2 (m[k]'hkm).h3 (m[k]'hkm).port W
        have hEB : ((((l[k]'hkl).h0 == (m[k]'hkm).h0 && (l[k]'hkl).h1 == (m[k]'hkm).h1 && (l[k]'hkl).h2 == (m[k]'hkm).h2 && (l[k]'hkl).h3 == (m[k]'hkm).h3) && (l[k]'hkl).port == (m[k]'hkm).port) = endB (l[k]'hkl) (m[k]'hkm)) := rfl
        rw [hEB] at heq
        clear hc1 hc2 HR1 HR2 hEB HX1 HX2
        generalize l[k]'hkl = x at *
        generalize m[k]'hkm = y at *
        by_cases h0 : x.kind = y.kind
        · by_cases h1 : x.conn = y.conn
          · cases h2 : endB x y with
            | true =>
              by_cases h3 : x.b = y.b
              · have HV := Lib.hid (HNK.out (op_eq h0 h1 h2 h3))
                rw [h2] at heq
                rw [← h0] at d0
                rw [← h1] at d1
                have e0 : (x.kind == x.kind) = true := by simp
                have e1 : (x.conn == x.conn) = true := by simp
                have e3 : (x.b == y.b) = true := by rw [beq_iff_eq]; exact h3
                clear h0 h1 h2 h3 HXK HNK
                generalize x.kind = xk at *
                generalize x.conn = xc at *
                generalize x.b = xl at *
                generalize y.b = yl at *
                go_wp2_with fail
                go_quiet (fail)
                go_wp2_with fail
                go_roundw
                case rel => exact ⟨k + 1, by go_num, HK.out, HV, Lib.hid (HB.out.trans ⟨rfl, rfl, rfl, Nat.le_refl _, fun _ _ => rfl⟩)⟩
                case measure => have := HK.out; simp [intOf]; omega
              · have HV := Lib.hid (HXK.out (op_ne (Or.inr (Or.inr (Or.inr h3)))))
                rw [h2] at heq
                rw [← h0] at d0
                rw [← h1] at d1
                have e0 : (x.kind == x.kind) = true := by simp
                have e1 : (x.conn == x.conn) = true := by simp
                have e3 : (x.b == y.b) = false := beq_eq_false_iff_ne.2 h3
                clear h0 h1 h2 h3 HXK HNK
                generalize x.kind = xk at *
                generalize x.conn = xc at *
                generalize x.b = xl at *
                generalize y.b = yl at *
                go_wp2_with fail
                go_quiet (fail)
                go_wp2_with fail
                go_ret
                exact ⟨by rw [HV.out] <;> rfl, HB.out.trans ⟨rfl, rfl, rfl, Nat.le_refl _, fun _ _ => rfl⟩⟩
            | false =>
              have HV := Lib.hid (HXK.out (op_ne (Or.inr (Or.inr (Or.inl h2)))))
              rw [h2] at heq
              rw [← h0] at d0
              rw [← h1] at d1
              have e0 : (x.kind == x.kind) = true := by simp
              have e1 : (x.conn == x.conn) = true := by simp
              clear h0 h1 h2 HXK HNK
              generalize x.kind = xk at *
              generalize x.conn = xc at *
              go_wp2_with fail
              go_quiet (fail)
              go_wp2_with fail
              go_ret
              exact ⟨by rw [HV.out] <;> rfl, HB.out.trans ⟨rfl, rfl, rfl, Nat.le_refl _, fun _ _ => rfl⟩⟩
          · have HV := Lib.hid (HXK.out (op_ne (Or.inr (Or.inl h1))))
            rw [← h0] at d0
            have e0 : (x.kind == x.kind) = true := by simp
            have e1 : (x.conn != y.conn) = true := bne_iff_ne.2 h1
            clear h0 h1 HXK HNK
            generalize x.kind = xk at *
            generalize x.conn = xc at *
            generalize y.conn = yc at *
            go_wp2_with fail
            go_quiet (fail)
            go_wp2_with fail
            go_ret
            exact ⟨by rw [HV.out] <;> rfl, HB.out.trans ⟨rfl, rfl, rfl, Nat.le_refl _, fun _ _ => rfl⟩⟩
        · have HV := Lib.hid (HXK.out (op_ne (Or.inl h0)))
          have e0 : (x.kind != y.kind) = true := bne_iff_ne.2 h0
          clear h0 HXK HNK
          generalize x.kind = xk at *
          generalize y.kind = yk at *
          go_wp2_with fail
          go_quiet (fail)
          go_wp2_with fail
          go_ret
          exact ⟨by rw [HV.out] <;> rfl, HB.out.trans ⟨rfl, rfl, rfl, Nat.le_refl _, fun _ _ => rfl⟩⟩
      · have hji : ¬ (k : Int) < (n : Int) := by omega
        have HV := Lib.hid (HT.out (fun j h h' => HO.out j h h' (by have := HN.out; omega)))
        go_wp2_with fail
        go_ret
        exact ⟨by rw [HV.out] <;> rfl, HB.out⟩
  · have g : ((n : Int) != (n' : Int)) = true := by rw [bne_iff_ne]; omega
    have HV : Hid (b = false) := Lib.hid (by rw [← hb]; exact map_len _ (by rw [← HN.out, ← HN'.out]; exact q))
    clear hb
    go_enter Try.func15, Try.ntmps15
    go_wp2_with fail
    go_ret
    exact ⟨by rw [HV.out] <;> rfl, Below.refl _ _⟩

#print axioms outs_any
end Go.Proofs.Ytfeiafjeidnmkaa.Da
