/- The document's answer for layer 21: lists of links compared. -/
import Derived.Test.YtfeiafjeidnmkaaDataSame
import Derived.RegionTactic
import Derived.BigQuiet
import Derived.Deep.QuietTactic
namespace Go.Proofs.Ytfeiafjeidnmkaa.Da
open Go.Proofs.Ytfeiafjeidnmkaa
open Go Go.ChangeShapes Go.WideShapes Go.ChangeAt Go.RowKit
set_option maxRecDepth 100000
set_option linter.unusedSimpArgs false
set_option linter.unusedVariables false

theorem conv_bytes {W : World} {v : Value} {l : List UInt8} (h : BytesIs W v l) (n : Nat) : (convert 25 9 v).run Try.prog (W.drewN n) = .ok (.string ⟨l.toArray⟩) (W.drewN n) := str_of_bytes (w := W.drewN n) (h.call ⟨rfl, rfl, rfl, Nat.le_refl _, fun _ _ => rfl⟩)
theorem p_ne {x y : Lk} (h : x.sess ≠ y.sess ∨ x.a ≠ y.a ∨ x.b ≠ y.b ∨ x.ws.length ≠ y.ws.length) : x.p ≠ y.p := by
  intro e
  have e0 : x.sess = y.sess := congrArg PL.sess e
  have e1 : x.a = y.a := congrArg PL.a e
  have e2 : x.b = y.b := congrArg PL.b e
  have e3 : x.ws.length = y.ws.length := by have := congrArg (fun q => q.ws.length) e; simpa [Lk.p, texts] using this
  rcases h with h | h | h | h
  · exact h e0
  · exact h e1
  · exact h e2
  · exact h e3
theorem p_ne_at {x y : Lk} {k : Nat} (h : k < x.ws.length) (h' : k < y.ws.length) (hn : (x.ws[k]).b ≠ (y.ws[k]).b) : x.p ≠ y.p := by
  intro e
  have e3 : texts x.ws = texts y.ws := congrArg PL.ws e
  have := congrArg (fun q => q[k]?) e3
  simp [texts, h, h'] at this
  exact hn this
theorem p_eq {x y : Lk} (h0 : x.sess = y.sess) (h1 : x.a = y.a) (h2 : x.b = y.b) (hl : x.ws.length = y.ws.length) (h : ∀ k (h : k < x.ws.length) (h' : k < y.ws.length), (x.ws[k]).b = (y.ws[k]).b) : x.p = y.p := by
  unfold Lk.p
  have : texts x.ws = texts y.ws := of_decide_eq_true (map_all (fun c : Ck => c.b) hl h)
  rw [h0, h1, h2, this]

set_option maxHeartbeats 16000000 in
theorem rsame_any (u v : Value) (l m : List Lk) (b : Bool) (hb : sameLs (plains l) (plains m) = b) (w : World) (H : RowIs links w u l) (H' : RowIs links w v m) :
    Calls Try.prog 14 #[u, v] w fun e w' => e = .returned (.bool b) ∧ Below w.heap.size w w' := by
  have hmax := H.max
  have hmax' := H'.max
  obtain ⟨p, n, c, rfl, hn⟩ := H.form
  obtain ⟨p', n', c', rfl, hn'⟩ := H'.form
  have HN := Lib.hid hn
  have HN' := Lib.hid hn'
  have HR := Lib.hid H
  have HR' := Lib.hid H'
  rw [← hn] at hmax
  rw [← hn'] at hmax'
  clear hn hn' H H'
  by_cases q : n = n'
  · subst q
    have g : ((n : Int) != (n : Int)) = false := by simp
    have HT : Hid ((∀ k (h : k < l.length) (h' : k < m.length), l[k].p = m[k].p) → b = true) := Lib.hid (fun h => by rw [← hb]; exact map_all _ (by rw [← HN.out, ← HN'.out]) h)
    have HX : Hid (∀ k (h : k < l.length) (h' : k < m.length), l[k].p ≠ m[k].p → b = false) := Lib.hid (fun k h h' hn => by rw [← hb]; exact map_no _ h h' hn)
    clear hb
    go_enter Try.func14, Try.ntmps14
    go_wp2_with fail
    go_loopw [5] (fun x5 wr => ∃ (k : Nat), x5 = .int .i64 (k : Int) ∧ k ≤ n ∧ Hid (∀ j (h : j < l.length) (h' : j < m.length), j < k → l[j].p = m[j].p) ∧ Hid (Below w.heap.size w wr)) (fun i _ => n - (intOf i).toNat)
    case atStart => exact ⟨0, rfl, Nat.zero_le _, Lib.hid (fun j _ _ hj => absurd hj (Nat.not_lt_zero j)), Lib.hid (Below.refl _ _)⟩
    case round =>
      obtain ⟨k, rfl, hk, HO, HB⟩ := hrel
      by_cases hlt : k < n
      · have hji : (k : Int) < (n : Int) := by omega
        have HK : Hid (k + 1 ≤ n) := Lib.hid hlt
        have hkl : k < l.length := by rw [← HN.out]; exact hlt
        have hkm : k < m.length := by rw [← HN'.out]; exact hlt
        have HR1 := HR.out.call HB.out
        have HR2 := HR'.out.call HB.out
        have HX1 := HR1.1 (l[k]'hkl) (List.getElem_mem hkl)
        have HX2 := HR2.1 (m[k]'hkm) (List.getElem_mem hkm)
        obtain ⟨b1, o1, rfl, hb1, hc1⟩ := HR1.some (by omega)
        obtain ⟨b2, o2, rfl, hb2, hc2⟩ := HR2.some (by omega)
        obtain ⟨a0, a1, a2, a3⟩ := link_cells_at (hc1 k hkl)
        obtain ⟨d0, d1, d2, d3⟩ := link_cells_at (hc2 k hkm)
        have HXK := Lib.hid (HX.out k hkl hkm)
        have HNK : Hid ((l[k]'hkl).p = (m[k]'hkm).p → ∀ j (h : j < l.length) (h' : j < m.length), j < k + 1 → l[j].p = m[j].p) := Lib.hid (fun h j hj hj' hjk => by
          by_cases e : j = k
          · subst e; exact h
          · exact HO.out j hj hj' (by omega))
        clear hc1 hc2 HR1 HR2
        generalize l[k]'hkl = x at *
        generalize m[k]'hkm = y at *
        obtain ⟨px, nx, cx, hvx, hnx⟩ := HX1.form
        obtain ⟨py, ny, cy, hvy, hny⟩ := HX2.form
        have hmx := HX1.max
        have hmy := HX2.max
        obtain ⟨xs, xa, xb, xwv, xws⟩ := x
        obtain ⟨ys, ya, yb, ywv, yws⟩ := y
        simp only at a0 a1 a2 a3 d0 d1 d2 d3 HXK HNK hvx hvy hnx hny hmx hmy
        subst hvx
        subst hvy
        rw [← hnx] at hmx
        rw [← hny] at hmy
        replace HX1 : Hid (RowIs chunks wr (.slice px nx cx) xws) := Lib.hid HX1
        replace HX2 : Hid (RowIs chunks wr (.slice py ny cy) yws) := Lib.hid HX2
        have HNX := Lib.hid hnx
        have HNY := Lib.hid hny
        clear hnx hny
        by_cases h0 : xs = ys
        · subst h0
          have e0 : (xs == xs) = true := by simp
          by_cases h1 : xa = ya
          · subst h1
            have e1 : (xa == xa) = true := by simp
            by_cases h2 : xb = yb
            · subst h2
              have e2 : (xb == xb) = true := by simp
              by_cases q2 : nx = ny
              · subst q2
                have g2 : ((nx : Int) != (nx : Int)) = false := by simp
                have HPE : Hid ((∀ k (h : k < xws.length) (h' : k < yws.length), (xws[k]).b = (yws[k]).b) → ∀ j (h : j < l.length) (h' : j < m.length), j < k + 1 → l[j].p = m[j].p) := Lib.hid (fun h => HNK.out (p_eq rfl rfl rfl (by show xws.length = yws.length; rw [← HNX.out, ← HNY.out]) h))
                have HPN : Hid (∀ k (h : k < xws.length) (h' : k < yws.length), (xws[k]).b ≠ (yws[k]).b → b = false) := Lib.hid (fun k h h' hn => HXK.out (p_ne_at (x := ⟨xs, xa, xb, .slice px nx cx, xws⟩) (y := ⟨xs, xa, xb, .slice py nx cy, yws⟩) h h' hn))
                clear HXK HNK
                go_wp2_with fail
                obtain ⟨w2, hv⟩ : ∃ V, ((wr.alloc (.cells #[.int .i64 xs, .int .i64 xa, .int .i64 xb, .slice px nx cx] 24)).alloc (.cells #[.int .i64 xs, .int .i64 xa, .int .i64 xb, .slice py nx cy] 24)) = V := ⟨_, rfl⟩
                have BB : Below wr.heap.size wr w2 := by rw [← hv]; exact (((Below.refl _ _).alloc (Nat.le_refl _) _).alloc (by simp) _)
                have B2 := Lib.hid (dbelow HB.out BB)
                have X2 : Hid (IsRow w2 wr.heap.size 24 #[.int .i64 xs, .int .i64 xa, .int .i64 xb, .slice px nx cx]) := Lib.hid (by rw [← hv]; exact (IsRow.made _ _ _).alloc _)
                have Y2 : Hid (IsRow w2 (wr.heap.size + 1) 24 #[.int .i64 xs, .int .i64 xa, .int .i64 xb, .slice py nx cy]) := Lib.hid (by rw [← hv]; have h := IsRow.made (wr.alloc (.cells #[.int .i64 xs, .int .i64 xa, .int .i64 xb, .slice px nx cx] 24)) 24 #[.int .i64 xs, .int .i64 xa, .int .i64 xb, .slice py nx cy]; simp at h; exact h)
                rw [hv]
                clear hv a0 a1 a2 a3 d0 d1 d2 d3
                have C1 := Lib.hid (HX1.out.call BB)
                have C2 := Lib.hid (HX2.out.call BB)
                obtain ⟨K0, hK0⟩ : ∃ K, wr.heap.size = K := ⟨_, rfl⟩
                rw [hK0] at X2 Y2 ⊢
                clear BB HX1 HX2 hK0
                go_loopw [8] (fun x8 wz => ∃ (j : Nat), x8 = .int .i64 (j : Int) ∧ j ≤ nx ∧ Hid (∀ i (h : i < xws.length) (h' : i < yws.length), i < j → (xws[i]).b = (yws[i]).b) ∧ Hid (Below w2.heap.size w2 wz)) (fun i _ => nx - (intOf i).toNat)
                case atStart => exact ⟨0, rfl, Nat.zero_le _, Lib.hid (fun i _ _ hi => absurd hi (Nat.not_lt_zero i)), Lib.hid (Below.refl _ _)⟩
                case round =>
                  obtain ⟨j, rfl, hj, HOI, HBI⟩ := hrel
                  have X3 := X2.out.call HBI.out
                  have Y3 := Y2.out.call HBI.out
                  have x30 : wr.cell? ⟨K0, 3, none⟩ = some (.slice px nx cx) := X3.cell 3
                  have xlt := X3.lt
                  have y30 : wr.cell? ⟨K0 + 1, 3, none⟩ = some (.slice py nx cy) := Y3.cell 3
                  have ylt := Y3.lt
                  by_cases hl2 : j < nx
                  · have hji2 : (j : Int) < (nx : Int) := by omega
                    have HK2 : Hid (j + 1 ≤ nx) := Lib.hid hl2
                    have hjx : j < xws.length := by rw [← HNX.out]; exact hl2
                    have hjy : j < yws.length := by rw [← HNY.out]; exact hl2
                    have D1 := C1.out.call HBI.out
                    have D2 := C2.out.call HBI.out
                    have E1 := D1.1 (xws[j]'hjx) (List.getElem_mem hjx)
                    have E2 := D2.1 (yws[j]'hjy) (List.getElem_mem hjy)
                    obtain ⟨b3, o3, rfl, hb3, hc3⟩ := D1.some (by omega)
                    obtain ⟨b4, o4, rfl, hb4, hc4⟩ := D2.some (by omega)
                    have a0 : wr.cell? ⟨b3, o3 + j, none⟩ = some ((xws[j]'hjx).v) := by
                      have := (hc3 j hjx).2 0 (by decide)
                      simpa using this
                    have d0 : wr.cell? ⟨b4, o4 + j, none⟩ = some ((yws[j]'hjy).v) := by
                      have := (hc4 j hjy).2 0 (by decide)
                      simpa using this
                    have HNJ := Lib.hid (HPN.out j hjx hjy)
                    have HOJ : Hid ((xws[j]'hjx).b = (yws[j]'hjy).b → ∀ i (h : i < xws.length) (h' : i < yws.length), i < j + 1 → (xws[i]).b = (yws[i]).b) := Lib.hid (fun h i hi hi' hij => by
                      by_cases e : i = j
                      · subst e; exact h
                      · exact HOI.out i hi hi' (by omega))
                    have V1 := conv_bytes E1
                    have V2 := conv_bytes E2
                    clear hc3 hc4 D1 D2 E1 E2 X3 Y3
                    generalize xws[j]'hjx = x1 at *
                    generalize yws[j]'hjy = y1 at *
                    obtain ⟨xv, xl⟩ := x1
                    obtain ⟨yv, yl⟩ := y1
                    simp only at a0 d0 HNJ HOJ V1 V2
                    by_cases hq : xl = yl
                    · have HV := Lib.hid (HOJ.out hq)
                      have hs : (xl == yl) = true := by rw [beq_iff_eq]; exact hq
                      clear hq HNJ HOJ
                      go_wp2_with fail
                      go_quiet (fail)
                      go_wp2_with fail
                      go_roundw
                      case rel => exact ⟨j + 1, by go_num, HK2.out, HV, Lib.hid (HBI.out.trans ⟨rfl, rfl, rfl, Nat.le_refl _, fun _ _ => rfl⟩)⟩
                      case measure => have := HK2.out; simp [intOf]; omega
                    · have HV := Lib.hid (HNJ.out hq)
                      have hs : (xl == yl) = false := beq_eq_false_iff_ne.2 hq
                      clear hq HNJ HOJ
                      go_wp2_with fail
                      go_quiet (fail)
                      go_wp2_with fail
                      go_ret
                      exact ⟨by rw [HV.out] <;> rfl, (dbelow B2.out HBI.out).trans ⟨rfl, rfl, rfl, Nat.le_refl _, fun _ _ => rfl⟩⟩
                  · have hji2 : ¬ (j : Int) < (nx : Int) := by omega
                    have HV := Lib.hid (HPE.out (fun i h h' => HOI.out i h h' (by have := HNX.out; omega)))
                    clear X3 Y3
                    go_wp2_with fail
                    go_roundw
                    case rel => exact ⟨k + 1, by go_num, HK.out, HV, Lib.hid (dbelow B2.out HBI.out)⟩
                    case measure => have := HK.out; simp [intOf]; omega
              · have g2 : ((nx : Int) != (ny : Int)) = true := by rw [bne_iff_ne]; omega
                have HV := Lib.hid (HXK.out (p_ne (Or.inr (Or.inr (Or.inr (by show xws.length ≠ yws.length; rw [← HNX.out, ← HNY.out]; exact q2))))))
                clear HXK HNK
                go_wp2_with fail
                go_ret
                exact ⟨by rw [HV.out] <;> rfl, dbelow HB.out (((Below.refl _ _).alloc (Nat.le_refl _) _).alloc (by simp) _)⟩
            · have e2 : (xb == yb) = false := beq_eq_false_iff_ne.2 h2
              have HV := Lib.hid (HXK.out (p_ne (Or.inr (Or.inr (Or.inl h2)))))
              clear HXK HNK
              go_wp2_with fail
              go_ret
              exact ⟨by rw [HV.out] <;> rfl, dbelow HB.out (((Below.refl _ _).alloc (Nat.le_refl _) _).alloc (by simp) _)⟩
          · have e1 : (xa == ya) = false := beq_eq_false_iff_ne.2 h1
            have HV := Lib.hid (HXK.out (p_ne (Or.inr (Or.inl h1))))
            clear HXK HNK
            go_wp2_with fail
            go_ret
            exact ⟨by rw [HV.out] <;> rfl, dbelow HB.out (((Below.refl _ _).alloc (Nat.le_refl _) _).alloc (by simp) _)⟩
        · have e0 : (xs == ys) = false := beq_eq_false_iff_ne.2 h0
          have HV := Lib.hid (HXK.out (p_ne (Or.inl h0)))
          clear HXK HNK
          go_wp2_with fail
          go_ret
          exact ⟨by rw [HV.out] <;> rfl, dbelow HB.out (((Below.refl _ _).alloc (Nat.le_refl _) _).alloc (by simp) _)⟩
      · have hji : ¬ (k : Int) < (n : Int) := by omega
        have HV := Lib.hid (HT.out (fun j h h' => HO.out j h h' (by have := HN.out; omega)))
        go_wp2_with fail
        go_ret
        exact ⟨by rw [HV.out] <;> rfl, HB.out⟩
  · have g : ((n : Int) != (n' : Int)) = true := by rw [bne_iff_ne]; omega
    have HV : Hid (b = false) := Lib.hid (by rw [← hb]; exact map_len _ (by rw [← HN.out, ← HN'.out]; exact q))
    clear hb
    go_enter Try.func14, Try.ntmps14
    go_wp2_with fail
    go_ret
    exact ⟨by rw [HV.out] <;> rfl, Below.refl _ _⟩

#print axioms rsame_any
end Go.Proofs.Ytfeiafjeidnmkaa.Da
