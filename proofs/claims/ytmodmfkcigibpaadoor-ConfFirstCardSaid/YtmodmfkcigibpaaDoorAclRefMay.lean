/- The document's May of layer 11 (gen-acl-ref.py). -/
import Derived.Test.YtmodmfkcigibpaaDoorAclRef
namespace Go.Proofs.YtmodmfkcigibpaaDoor.Ac
open Go.Proofs.YtmodmfkcigibpaaDoor Go.Proofs.YtmodmfkcigibpaaDoor.Pt Go.Proofs.YtmodmfkcigibpaaDoor.Vb
open Go Go.ChangeShapes Go.WideShapes Go.ChangeAt Go.RowKit
set_option maxRecDepth 100000
set_option linter.unusedSimpArgs false
set_option linter.unusedVariables false

theorem mayL_eq (l : List Rl) : mayL l = (decide (l.length ≤ 8) && l.all okR) := rfl
/-- one rule that lies at a place -/
structure RuleAt (w : World) (b o : Nat) (r : Rl) : Prop where
  lt : b < w.heap.size
  ac : w.cell? ⟨b, o, none⟩ = some (.bool r.a)
  vc : w.cell? ⟨b, o + 1, none⟩ = some (.string ⟨r.v.toArray⟩)
  pc : w.cell? ⟨b, o + 2, none⟩ = some (.string ⟨r.p.toArray⟩)
theorem RuleAt.call {w w' : World} {b o : Nat} {r : Rl} (h : RuleAt w b o r) (hb : Below w.heap.size w w') : RuleAt w' b o r :=
  ⟨Nat.lt_of_lt_of_le h.lt hb.size, by rw [hb.cell (p := ⟨b, _, none⟩) h.lt]; exact h.ac, by rw [hb.cell (p := ⟨b, _, none⟩) h.lt]; exact h.vc, by rw [hb.cell (p := ⟨b, _, none⟩) h.lt]; exact h.pc⟩

set_option maxHeartbeats 8000000 in
theorem rmayl_any (u : Value) (l : List Rl) (hr : ∀ r ∈ l, r.v.length ≤ 100000 ∧ r.p.length ≤ 100000) (w : World) (H : RulesIs w u l) :
    Calls Tryd.prog 36 #[u] w fun e w' => e = .returned (.bool (mayL l)) ∧ Below w.heap.size w w' := by
  have HE := mayL_eq l
  have hmax := H.max
  obtain ⟨pp, n, c, rfl, hn⟩ := H.form
  have HN := Lib.hid hn
  have HR := Lib.hid H
  have HL := Lib.hid hr
  rw [← hn] at hmax HE
  have B0 := Lib.hid (Below.refl w.heap.size w)
  clear hn H hr
  by_cases q : 8 < n
  · have g : (8 : Int) < (n : Int) := by omega
    rw [decide_eq_false (by omega)] at HE
    have HV := Lib.hid HE
    clear HE q hmax
    go_enter Tryd.func36, Tryd.ntmps36
    go_wp2_with fail
    go_ret
    exact ⟨by rw [HV.out] <;> rfl, Below.refl _ _⟩
  have g : ¬ (8 : Int) < (n : Int) := by omega
  rw [decide_eq_true (by omega), Bool.true_and] at HE
  have HA := Lib.hid HE
  clear HE
  go_enter Tryd.func36, Tryd.ntmps36
  go_wp2_with fail
  go_loopw [3] (fun x3 wr => ∃ (i : Nat), x3 = .int .i64 (i : Int) ∧ i ≤ n ∧ Hid ((l.take i).all okR = true) ∧ Hid (Below w.heap.size w wr)) (fun i _ => n - (intOf i).toNat)
  case atStart => exact ⟨0, rfl, Nat.zero_le _, Lib.hid (by simp), B0⟩
  case round =>
    obtain ⟨i, rfl, hi, HO2, HB⟩ := hrel
    by_cases hlt : i < n
    · have hil : i < l.length := by rw [← HN.out]; exact hlt
      have hji : (i : Int) < (n : Int) := by omega
      have HKN : Hid (i + 1 ≤ n) := Lib.hid hlt
      have HR0 := Lib.hid (HR.out.call HB.out)
      obtain ⟨b, o, rfl, hbl, hcell⟩ := HR0.out.some (by omega)
      have HRr := Lib.hid (show RuleAt wr b (o + i * 3) l[i] from ⟨hbl, (hcell i hil).1, (hcell i hil).2.1, (hcell i hil).2.2⟩)
      have HX : Hid (okR l[i] = false → mayL l = false) := Lib.hid (fun h => by rw [HA.out]; exact every_no hil h)
      have HN2 : Hid (okR l[i] = true → (l.take (i + 1)).all okR = true) := Lib.hid (fun h => by rw [every_next hil, HO2.out, h]; rfl)
      have HLr := Lib.hid (HL.out _ (List.getElem_mem hil))
      clear hcell
      generalize l[i] = r at *
      have HT : Hid (okR r = (mayP r.p && ((r.v == []) || ((found r.v).2 && ((found r.v).1.name == r.v))))) := Lib.hid rfl
      have HF := Lib.hid (fun W => rfind_any r.v HLr.out.1 W)
      have HM := Lib.hid (fun W => rmay_any r.p HLr.out.2 W)
      obtain ⟨f, hf⟩ : ∃ f, found r.v = f := ⟨_, rfl⟩
      rw [hf] at HF HT
      obtain ⟨⟨vn, vk, va, vp⟩, is⟩ := f
      obtain ⟨m, hm⟩ : ∃ m, mayP r.p = m := ⟨_, rfl⟩
      rw [hm] at HM HT
      have y1 := HRr.out.vc
      clear hf hm
      cases m with
      | false =>
        have HV := Lib.hid (HX.out (by rw [HT.out]; rfl))
        clear HX HN2
        go_wp2_with (first
          | (go_at_call 47; refine (HF.out _).mono ?_; rintro e w1 ⟨rfl, b1⟩; have HB1 := Lib.hid (HB.out.trans (b1.mono HB.out.size)); have HR1 := Lib.hid (HRr.out.call b1); have hbl1 := HR1.out.lt; have y2 := HR1.out.pc; clear HF b1)
          | (go_at_call 48; generalize hW : World.alloc _ _ = W9; have HW9 := Lib.hid hW; have FR := Lib.hid (show IsRow W9 w1.heap.size 89 #[.string ⟨vn.toArray⟩, .int .i64 vk, .int .i64 va, .bool vp] by rw [← hW]; exact IsRow.made w1 89 _); have HB9 := Lib.hid (show Below w1.heap.size w1 W9 by rw [← hW]; exact (Below.refl w1.heap.size w1).alloc (Nat.le_refl _) _); clear hW HW9 y2 hbl1; refine (HM.out W9).mono ?_; rintro e w2 ⟨rfl, b2⟩; have HB2 := Lib.hid ((HB1.out.trans (HB9.out.mono HB1.out.size)).trans (b2.mono (Nat.le_trans HB1.out.size HB9.out.size))); have F2 := Lib.hid (FR.out.call b2); have HR2 := Lib.hid ((HR1.out.call HB9.out).call b2); have z0 := F2.out.cell 0; have zl := F2.out.lt; have hbl2 := HR2.out.lt; have x1 := HR2.out.vc; clear HM b2 FR HR1))
        go_quiet (fail)
        go_wp2_with fail
        go_ret
        exact ⟨by rw [HV.out] <;> rfl, HB2.out.trans ⟨rfl, rfl, rfl, Nat.le_refl _, fun _ _ => rfl⟩⟩
      | true =>
        cases h1 : (r.v == []) with
        | true =>
          have HV := Lib.hid (HN2.out (by rw [HT.out, h1]; rfl))
          clear HX HN2
          go_wp2_with (first
            | (go_at_call 47; refine (HF.out _).mono ?_; rintro e w1 ⟨rfl, b1⟩; have HB1 := Lib.hid (HB.out.trans (b1.mono HB.out.size)); have HR1 := Lib.hid (HRr.out.call b1); have hbl1 := HR1.out.lt; have y2 := HR1.out.pc; clear HF b1)
            | (go_at_call 48; generalize hW : World.alloc _ _ = W9; have HW9 := Lib.hid hW; have FR := Lib.hid (show IsRow W9 w1.heap.size 89 #[.string ⟨vn.toArray⟩, .int .i64 vk, .int .i64 va, .bool vp] by rw [← hW]; exact IsRow.made w1 89 _); have HB9 := Lib.hid (show Below w1.heap.size w1 W9 by rw [← hW]; exact (Below.refl w1.heap.size w1).alloc (Nat.le_refl _) _); clear hW HW9 y2 hbl1; refine (HM.out W9).mono ?_; rintro e w2 ⟨rfl, b2⟩; have HB2 := Lib.hid ((HB1.out.trans (HB9.out.mono HB1.out.size)).trans (b2.mono (Nat.le_trans HB1.out.size HB9.out.size))); have F2 := Lib.hid (FR.out.call b2); have HR2 := Lib.hid ((HR1.out.call HB9.out).call b2); have z0 := F2.out.cell 0; have zl := F2.out.lt; have hbl2 := HR2.out.lt; have x1 := HR2.out.vc; clear HM b2 FR HR1))
          go_quiet (fail)
          go_wp2_with fail
          go_roundw
          case rel => exact ⟨i + 1, by go_num, HKN.out, HV, Lib.hid (HB2.out.trans ⟨rfl, rfl, rfl, Nat.le_refl _, fun _ _ => rfl⟩)⟩
          case measure => have := HKN.out; simp [intOf]; omega
        | false =>
          cases is with
          | false =>
            have HV := Lib.hid (HX.out (by rw [HT.out, h1]; rfl))
            clear HX HN2
            go_wp2_with (first
              | (go_at_call 47; refine (HF.out _).mono ?_; rintro e w1 ⟨rfl, b1⟩; have HB1 := Lib.hid (HB.out.trans (b1.mono HB.out.size)); have HR1 := Lib.hid (HRr.out.call b1); have hbl1 := HR1.out.lt; have y2 := HR1.out.pc; clear HF b1)
              | (go_at_call 48; generalize hW : World.alloc _ _ = W9; have HW9 := Lib.hid hW; have FR := Lib.hid (show IsRow W9 w1.heap.size 89 #[.string ⟨vn.toArray⟩, .int .i64 vk, .int .i64 va, .bool vp] by rw [← hW]; exact IsRow.made w1 89 _); have HB9 := Lib.hid (show Below w1.heap.size w1 W9 by rw [← hW]; exact (Below.refl w1.heap.size w1).alloc (Nat.le_refl _) _); clear hW HW9 y2 hbl1; refine (HM.out W9).mono ?_; rintro e w2 ⟨rfl, b2⟩; have HB2 := Lib.hid ((HB1.out.trans (HB9.out.mono HB1.out.size)).trans (b2.mono (Nat.le_trans HB1.out.size HB9.out.size))); have F2 := Lib.hid (FR.out.call b2); have HR2 := Lib.hid ((HR1.out.call HB9.out).call b2); have z0 := F2.out.cell 0; have zl := F2.out.lt; have hbl2 := HR2.out.lt; have x1 := HR2.out.vc; clear HM b2 FR HR1))
            go_quiet (fail)
            go_wp2_with fail
            go_ret
            exact ⟨by rw [HV.out] <;> rfl, HB2.out.trans ⟨rfl, rfl, rfl, Nat.le_refl _, fun _ _ => rfl⟩⟩
          | true =>
            cases h2 : (vn == r.v) with
            | false =>
              have HV := Lib.hid (HX.out (by rw [HT.out, h1]; exact h2))
              clear HX HN2
              go_wp2_with (first
                | (go_at_call 47; refine (HF.out _).mono ?_; rintro e w1 ⟨rfl, b1⟩; have HB1 := Lib.hid (HB.out.trans (b1.mono HB.out.size)); have HR1 := Lib.hid (HRr.out.call b1); have hbl1 := HR1.out.lt; have y2 := HR1.out.pc; clear HF b1)
                | (go_at_call 48; generalize hW : World.alloc _ _ = W9; have HW9 := Lib.hid hW; have FR := Lib.hid (show IsRow W9 w1.heap.size 89 #[.string ⟨vn.toArray⟩, .int .i64 vk, .int .i64 va, .bool vp] by rw [← hW]; exact IsRow.made w1 89 _); have HB9 := Lib.hid (show Below w1.heap.size w1 W9 by rw [← hW]; exact (Below.refl w1.heap.size w1).alloc (Nat.le_refl _) _); clear hW HW9 y2 hbl1; refine (HM.out W9).mono ?_; rintro e w2 ⟨rfl, b2⟩; have HB2 := Lib.hid ((HB1.out.trans (HB9.out.mono HB1.out.size)).trans (b2.mono (Nat.le_trans HB1.out.size HB9.out.size))); have F2 := Lib.hid (FR.out.call b2); have HR2 := Lib.hid ((HR1.out.call HB9.out).call b2); have z0 := F2.out.cell 0; have zl := F2.out.lt; have hbl2 := HR2.out.lt; have x1 := HR2.out.vc; clear HM b2 FR HR1))
              go_quiet (fail)
              go_wp2_with fail
              go_ret
              exact ⟨by rw [HV.out] <;> rfl, HB2.out.trans ⟨rfl, rfl, rfl, Nat.le_refl _, fun _ _ => rfl⟩⟩
            | true =>
              have HV := Lib.hid (HN2.out (by rw [HT.out, h1]; exact h2))
              clear HX HN2
              go_wp2_with (first
                | (go_at_call 47; refine (HF.out _).mono ?_; rintro e w1 ⟨rfl, b1⟩; have HB1 := Lib.hid (HB.out.trans (b1.mono HB.out.size)); have HR1 := Lib.hid (HRr.out.call b1); have hbl1 := HR1.out.lt; have y2 := HR1.out.pc; clear HF b1)
                | (go_at_call 48; generalize hW : World.alloc _ _ = W9; have HW9 := Lib.hid hW; have FR := Lib.hid (show IsRow W9 w1.heap.size 89 #[.string ⟨vn.toArray⟩, .int .i64 vk, .int .i64 va, .bool vp] by rw [← hW]; exact IsRow.made w1 89 _); have HB9 := Lib.hid (show Below w1.heap.size w1 W9 by rw [← hW]; exact (Below.refl w1.heap.size w1).alloc (Nat.le_refl _) _); clear hW HW9 y2 hbl1; refine (HM.out W9).mono ?_; rintro e w2 ⟨rfl, b2⟩; have HB2 := Lib.hid ((HB1.out.trans (HB9.out.mono HB1.out.size)).trans (b2.mono (Nat.le_trans HB1.out.size HB9.out.size))); have F2 := Lib.hid (FR.out.call b2); have HR2 := Lib.hid ((HR1.out.call HB9.out).call b2); have z0 := F2.out.cell 0; have zl := F2.out.lt; have hbl2 := HR2.out.lt; have x1 := HR2.out.vc; clear HM b2 FR HR1))
              go_quiet (fail)
              go_wp2_with fail
              go_roundw
              case rel => exact ⟨i + 1, by go_num, HKN.out, HV, Lib.hid (HB2.out.trans ⟨rfl, rfl, rfl, Nat.le_refl _, fun _ _ => rfl⟩)⟩
              case measure => have := HKN.out; simp [intOf]; omega
    · have hji : ¬ (i : Int) < (n : Int) := by omega
      have HV : Hid (mayL l = true) := Lib.hid (by rw [HA.out, ← List.take_of_length_le (l := l) (i := i) (by have := HN.out; omega)]; exact HO2.out)
      go_wp2_with fail
      go_ret
      exact ⟨by rw [HV.out] <;> rfl, HB.out⟩

#print axioms rmayl_any
end Go.Proofs.YtmodmfkcigibpaaDoor.Ac
