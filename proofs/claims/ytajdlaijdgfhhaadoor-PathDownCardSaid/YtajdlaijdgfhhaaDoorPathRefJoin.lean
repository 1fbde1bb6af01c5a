/- The contract of the document's answer of layer 10: wharfingerref10's Join. -/
import Derived.Test.YtajdlaijdgfhhaaDoorPathRef
import Derived.Test.YtajdlaijdgfhhaaDoorOwnTexts
import Derived.Laws.AppendOwnNone
namespace Go.Proofs.YtajdlaijdgfhhaaDoor.Pt
open Go.Proofs.YtajdlaijdgfhhaaDoor Go.Proofs.YtajdlaijdgfhhaaDoor.Cm Go.Proofs.YtajdlaijdgfhhaaDoor.Quad
open Go Go.ChangeShapes Go.WideShapes Go.ChangeAt Go.RowKit
set_option maxRecDepth 100000
set_option linter.unusedSimpArgs false

/-! how long what is led to may be -/
theorem whole_step (l : Ps) (p : List UInt8) : (whole (step l p)).length ≤ (whole l).length + (p.length + 1) := by
  unfold step
  split
  · omega
  · split
    · have : ∀ l : Ps, (whole l.dropLast).length ≤ (whole l).length := fun l => by
        rcases List.eq_nil_or_concat l with rfl | ⟨l', x, rfl⟩
        · exact Nat.le_refl _
        · rw [List.concat_eq_append, List.dropLast_concat, whole_append, List.length_append]; omega
      have := this l
      omega
    · rw [whole_append, whole_one, List.length_append, List.length_cons]; omega
theorem whole_steps : ∀ (m l : Ps), (whole (m.foldl step l)).length ≤ (whole l).length + (whole m).length
  | [], l => by simp
  | p :: m, l => by
    have h1 := whole_steps m (step l p)
    have h2 := whole_step l p
    rw [List.foldl_cons, whole_cons, List.length_cons, List.length_append]
    omega
theorem steps_next {m l : Ps} {i : Nat} (h : i < m.length) : (m.take (i + 1)).foldl step l = step ((m.take i).foldl step l) m[i] := by
  rw [List.take_succ_eq_append_getElem h, List.foldl_append]; rfl
theorem whole_next {l : Ps} {i : Nat} (h : i < l.length) : whole (l.take (i + 1)) = whole (l.take i) ++ 47 :: l[i] := by
  rw [List.take_succ_eq_append_getElem h, whole_append, whole_one]
theorem whole_part {l : Ps} {i : Nat} (h : i < l.length) : (whole (l.take i)).length + (l[i].length + 1) ≤ (whole l).length := by
  have h1 : whole l = whole (l.take (i + 1)) ++ whole (l.drop (i + 1)) := by rw [← whole_append, List.take_append_drop]
  rw [h1, whole_next h, List.length_append, List.length_append, List.length_cons]; omega
theorem whole_start {cwd arg : List UInt8} : (whole (start cwd arg)).length ≤ cwd.length := by
  unfold start
  split
  · rw [whole_nil]; exact Nat.zero_le _
  · unfold parts
    split
    · rw [whole_nil]; exact Nat.zero_le _
    · rename_i h
      rw [whole_cut, List.length_cons, List.length_drop]; omega
theorem parts_few {s : List UInt8} : (parts s).length ≤ s.length := by
  unfold parts
  split
  · exact Nat.zero_le _
  · rename_i h
    have := cutL_length_le 47 (s.drop 1)
    rw [List.length_drop] at this; omega
theorem rparts_none (s : List UInt8) (h : s.length < 2) (w : World) :
    Calls Tryd.prog 18 #[.string ⟨s.toArray⟩] w fun e w' => e = .returned (.slice none 0 0) ∧ w' = w := by
  have g : (s.length : Int) < 2 := by omega
  clear h
  go_enter Tryd.func18, Tryd.ntmps18
  go_wp2_with fail
  go_ret
  exact ⟨rfl, rfl⟩
theorem lead_eq (cwd arg : List UInt8) : lead cwd arg = (cutL 47 arg).foldl step (start cwd arg) := rfl
theorem step_up' {l : Ps} : step l [46, 46] = l.take (l.length - 1) := by rw [step_up, List.dropLast_eq_take]

theorem own_call {w w' : World} {base : Nat} {t : TypeId} {size : Nat} {v : Value} {n : Nat} {xs : List Value} (h : w.ownsRow base t size v n xs) (hb : Below w.heap.size w w') : w'.ownsRow base t size v n xs := by
  refine ⟨h.1, ?_⟩
  rcases h.2 with h0 | ⟨g, cap, cur, h1, h2, h3, h4⟩
  · exact Or.inl h0
  · exact Or.inr ⟨g, cap, cur, h1, h2, by rw [hb.block g (lt_of_block h3)]; exact h3, h4⟩
theorem own_more {w : World} {base : Nat} {t : TypeId} {size : Nat} {v : Value} {k : Nat} {xs : List Value} (h : w.ownsRow base t size v (k + 1) xs) : ∃ g cap, v = .slice (some ⟨g, 0, none⟩) (k + 1) cap ∧ base ≤ g ∧ g < w.heap.size := by
  rcases h.2 with ⟨_, h0⟩ | ⟨g, cap, cur, h1, h2, h3, _⟩
  · omega
  · exact ⟨g, cap, h1, h2, lt_of_block h3⟩
theorem texts_cells' {w : World} {b : Nat} {l : Ps} (h : ∀ i (h : i < l.length), w.cell? ⟨b, i, none⟩ = some (.string ⟨l[i].toArray⟩)) : ∀ j u, (l.map strV)[j]? = some u → w.cell? ((⟨b, 0, none⟩ : Addr).add j) = some u := by
  intro j u hj
  have hjl : j < l.length := by have := (List.getElem?_eq_some_iff.1 hj).1; simpa using this
  rw [add_off, h j hjl]
  rw [List.getElem?_map, List.getElem?_eq_getElem hjl, Option.map_some] at hj
  exact hj
theorem texts_one' {l : Ps} : ∀ u ∈ l.map strV, u.oneCell' = true := by
  intro u hu
  obtain ⟨x, _, rfl⟩ := List.mem_map.1 hu
  rfl

set_option maxHeartbeats 16000000 in
theorem rjoin_any (cwd arg : List UInt8) (hc : cwd.length ≤ 100000) (ha : arg.length ≤ 100000) (w : World) :
    Calls Tryd.prog 13 #[.string ⟨cwd.toArray⟩, .string ⟨arg.toArray⟩] w fun e w' => e = .returned (.tuple #[.string ⟨(join cwd arg).1.toArray⟩, .int .i64 (join cwd arg).2]) ∧ Below w.heap.size w w' := by
  have HM := Lib.hid (fun W => rmay_any cwd hc W)
  have HC := Lib.hid (fun W => rclean_same arg (by omega) W)
  have HX := Lib.hid (fun W => rcut_own 47 47 rfl arg (by omega) W)
  have HJ0 : join cwd arg = if mayP cwd then (if clean arg then (if (pathOf (lead cwd arg)).length ≤ 200 then (pathOf (lead cwd arg), 0) else ([], 5)) else ([], 2)) else ([], 1) := rfl
  have HWL : Hid ((whole (lead cwd arg)).length ≤ 300000) := Lib.hid (by
    have h1 := whole_steps (cutL 47 arg) (start cwd arg)
    have h2 := whole_start (cwd := cwd) (arg := arg)
    rw [whole_cut, List.length_cons] at h1
    rw [lead_eq]; omega)
  have HPE : Hid (cutL 47 arg ≠ []) := Lib.hid (cutL_ne 47 arg)
  have HPL : Hid ((cutL 47 arg).length ≤ 200000) := Lib.hid (by have := cutL_length_le 47 arg; omega)
  have HLD : Hid (lead cwd arg = (cutL 47 arg).foldl step (start cwd arg)) := Lib.hid rfl
  generalize join cwd arg = J at HJ0 ⊢
  generalize lead cwd arg = LD at HJ0 HWL HLD
  generalize cutL 47 arg = P at HX HPE HPL HLD
  cases hm : mayP cwd with
  | false =>
    rw [hm, if_neg (by decide)] at HJ0
    rw [hm] at HM
    have HR := Lib.hid HJ0
    clear HJ0 hm
    go_enter Tryd.func13, Tryd.ntmps13
    go_wp2_with (first
      | (go_at_call 11; refine (HM.out _).mono ?_; rintro e w1 ⟨rfl, b1⟩; have B1 := Lib.hid b1; clear b1)
      | (go_at_call 17; refine (HC.out _).mono ?_; rintro e w8 ⟨rfl, h8⟩; obtain rfl := h8.symm))
    go_ret2
    exact ⟨by rw [HR.out] <;> rfl, B1.out⟩
  | true =>
    rw [hm, if_pos rfl] at HJ0
    rw [hm] at HM
    clear hm
    cases hcl : clean arg with
    | false =>
      rw [hcl, if_neg (by decide)] at HJ0
      rw [hcl] at HC
      have HR := Lib.hid HJ0
      clear HJ0 hcl
      go_enter Tryd.func13, Tryd.ntmps13
      go_wp2_with (first
        | (go_at_call 11; refine (HM.out _).mono ?_; rintro e w1 ⟨rfl, b1⟩; have B1 := Lib.hid b1; clear b1)
        | (go_at_call 17; refine (HC.out _).mono ?_; rintro e w8 ⟨rfl, h8⟩; obtain rfl := h8.symm))
      go_ret2
      exact ⟨by rw [HR.out] <;> rfl, B1.out⟩
    | true =>
      rw [hcl, if_pos rfl] at HJ0
      rw [hcl] at HC
      have HJD := Lib.hid HJ0
      clear HJ0 hcl
      obtain ⟨i0, hi, hz0, hz1, hz2⟩ := info_parts info_string
      by_cases h2 : cwd.length < 2
      case pos =>
        cases hsl : slash arg with
        | true =>
          have gp : 0 < arg.length := by
            cases arg with
            | nil => cases hsl
            | cons b r => simp
          have hsz : 0 < (ByteArray.mk arg.toArray).size := by simpa [ByteArray.size] using gp
          obtain ⟨ch, hcx⟩ : ∃ c : UInt8, (ByteArray.mk arg.toArray)[0]'hsz = c := ⟨_, rfl⟩
          have hc0 : arg[0] = ch := hcx
          have g0 : (0 : Int) < (arg.length : Int) := by omega
          have hch : ch = 47 := by
            have h := hsl
            unfold slash at h
            rw [List.head?_eq_getElem?, List.getElem?_eq_getElem gp, hc0] at h
            simpa using h
          have g4 : ((ch.toNat : Int) == 47) = true := by rw [hch]; rfl
          clear hc0 hch
          have HPP := Lib.hid (fun W => rparts_none cwd h2 W)
          have hp0 : parts cwd = [] := by unfold parts; rw [if_pos h2]
          have hst : start cwd arg = [] := by unfold start; rw [hsl]; rfl
          rw [hst] at HLD
          clear hst hp0 h2
          clear hsl
          go_enter Tryd.func13, Tryd.ntmps13
          go_wp2_with (first
            | (go_at_call 11; refine (HM.out _).mono ?_; rintro e w1 ⟨rfl, b1⟩; have B1 := Lib.hid b1; clear b1)
            | (go_at_call 17; refine (HC.out _).mono ?_; rintro e w8 ⟨rfl, h8⟩; obtain rfl := h8.symm)
            | (go_at_call 18; refine (HPP.out _).mono ?_; rintro e w7 ⟨rfl, h7⟩; obtain rfl := h7.symm)
            | (at_builtin; refine wpList_append_own_none rfl _ _ 31 rfl w.heap.size 9 i0 1 Tryd.underlying31 hi _ _ _ rfl (World.ownsRow_nil w1 w.heap.size 9 1) rfl ?_)
            | (go_at_call 25; refine (HX.out _).mono ?_; rintro e w6 ⟨pq, m, km, rfl, hm, ho, b6⟩; have HMN := Lib.hid hm; have OQ := Lib.hid ho; have B6 := Lib.hid b6; clear hm ho b6))
          have B5 := B1
          have O5 : Hid (w1.ownsRow w.heap.size 9 1 (.slice none 0 0) 0 (([] : Ps).map strV)) := Lib.hid (World.ownsRow_nil _ _ _ _)
          have BW6 := Lib.hid (B5.out.trans (B6.out.mono B5.out.size))
          have HPN : Hid (0 < P.length) := Lib.hid (List.length_pos_iff.2 HPE.out)
          obtain ⟨b9, rfl, hb9, hl9, hcell9⟩ := OQ.out.some HPN.out
          have HB9 := Lib.hid hb9
          have HL9 := Lib.hid hl9
          have HC9 := Lib.hid hcell9
          have O6 := Lib.hid (own_call O5.out B6.out)
          clear hb9 hl9 hcell9
          go_loopw [8, 10] (fun x8 x10 wr => ∃ (i q : Nat) (p : Option Addr) (c : Nat) (L : Ps), x10 = .int .i64 (i : Int) ∧ x8 = .slice p q c ∧ i ≤ m ∧ q ≤ 100000 + i ∧ Hid (q = L.length) ∧ Hid (L = (P.take i).foldl step ([] : Ps)) ∧ Hid (wr.ownsRow w.heap.size 9 1 (.slice p q c) q (L.map strV)) ∧ Hid (∀ g, (Value.slice p q c).ownBlock = some g → g < w1.heap.size ∨ w6.heap.size ≤ g) ∧ Hid (Below w.heap.size w wr) ∧ Hid (∀ j (h : j < P.length), wr.cell? ⟨b9, j, none⟩ = some (.string ⟨P[j].toArray⟩)) ∧ Hid (w6.heap.size ≤ wr.heap.size)) (fun _ i _ => m - (intOf i).toNat)
          case atStart => exact ⟨0, 0, none, 0, [], rfl, rfl, Nat.zero_le _, by omega, Lib.hid rfl, Lib.hid rfl, O6, Lib.hid (fun g hg => Or.inl (by cases hg)), BW6, HC9, Lib.hid (Nat.le_refl _)⟩
          case round =>
            obtain ⟨i, q, p, c, L, rfl, rfl, hi, hq, HQ, HL, HO, HA, HB, HC, HS⟩ := hrel
            by_cases hlt : i < m
            · have him : i < P.length := by rw [← HMN.out]; exact hlt
              have hji : (i : Int) < (m : Int) := by omega
              have HK : Hid (i + 1 ≤ m) := Lib.hid hlt
              have hm6 : m ≤ 200000 := by rw [HMN.out]; exact HPL.out
              have hkm : i < 9223372036854775807 := by omega
              have hce := HC.out i him
              have HLN : Hid (step L P[i] = (P.take (i + 1)).foldl step ([] : Ps)) := Lib.hid (by rw [steps_next him, ← HL.out])
              generalize P[i] = t at *
              cases h1 : (t == []) with
              | true =>
                have HV : Hid (L = (P.take (i + 1)).foldl step ([] : Ps)) := Lib.hid (by rw [← HLN.out]; unfold step; rw [h1]; rfl)
                clear HLN
                go_wp2_with fail
                go_roundw
                case rel => exact ⟨i + 1, q, p, c, L, by go_num, rfl, HK.out, by omega, HQ, HV, HO, HA, HB, HC, HS⟩
                case measure => have := HK.out; simp [intOf]; omega
              | false =>
                cases h2 : (t == [46]) with
                | true =>
                  have HV : Hid (L = (P.take (i + 1)).foldl step ([] : Ps)) := Lib.hid (by rw [← HLN.out]; unfold step; rw [h1, h2]; rfl)
                  clear HLN
                  go_wp2_with fail
                  go_roundw
                  case rel => exact ⟨i + 1, q, p, c, L, by go_num, rfl, HK.out, by omega, HQ, HV, HO, HA, HB, HC, HS⟩
                  case measure => have := HK.out; simp [intOf]; omega
                | false =>
                  cases h3 : (t == [46, 46]) with
                  | true =>
                    by_cases h4 : 0 < q
                    · obtain ⟨r, rfl⟩ : ∃ r, q = r + 1 := ⟨q - 1, by omega⟩
                      obtain ⟨g, cg, he, hsl, hO⟩ := own_cut HO.out
                      injection he with e1 e2 e3
                      subst e1; subst e3
                      have HV : Hid (L.take r = (P.take (i + 1)).foldl step ([] : Ps)) := Lib.hid (by
                        rw [← HLN.out, beq_iff_eq.1 h3, step_up', ← HQ.out]; rfl)
                      have HO2 : Hid (wr.ownsRow w.heap.size 9 1 (.slice (some ⟨g, 0, none⟩) r c) r ((L.take r).map strV)) := Lib.hid (by rw [List.map_take]; exact hO)
                      have HQ2 : Hid (r = (L.take r).length) := Lib.hid (by rw [List.length_take, ← HQ.out]; omega)
                      have hr6 : r + 1 ≤ 2000000 := by omega
                      clear HLN hO h4
                      go_wp2_with fail
                      go_roundw
                      case rel => exact ⟨i + 1, r, some ⟨g, 0, none⟩, c, L.take r, by go_num, by go_num, HK.out, by omega, HQ2, HV, HO2, Lib.hid (fun g' hg' => HA.out g' hg'), HB, HC, HS⟩
                      case measure => have := HK.out; simp [intOf]; omega
                    · obtain rfl : q = 0 := by omega
                      have hL : L = [] := List.length_eq_zero_iff.1 HQ.out.symm
                      have HV : Hid (L = (P.take (i + 1)).foldl step ([] : Ps)) := Lib.hid (by rw [← HLN.out, beq_iff_eq.1 h3, hL]; rfl)
                      clear HLN h4 hL
                      go_wp2_with fail
                      go_roundw
                      case rel => exact ⟨i + 1, 0, p, c, L, by go_num, rfl, HK.out, by omega, HQ, HV, HO, HA, HB, HC, HS⟩
                      case measure => have := HK.out; simp [intOf]; omega
                  | false =>
                    have HV : Hid (L ++ [t] = (P.take (i + 1)).foldl step ([] : Ps)) := Lib.hid (by rw [← HLN.out]; unfold step; rw [h1, h2, h3]; rfl)
                    have HQ2 : Hid (q + 1 = (L ++ [t]).length) := Lib.hid (by rw [List.length_append, ← HQ.out]; rfl)
                    clear HLN
                    go_wp2_with (at_builtin; refine wpList_append_text rfl _ _ rfl w.heap.size _ q (L.map strV) rfl (HO.out.alloc _) ⟨wr.heap.size, 0, none⟩ 1 (.string ⟨t.toArray⟩) rfl ?c0 rfl ?c1 ?c2 ?_)
                    case c0 => exact (IsRow.made wr 9 #[.string ⟨t.toArray⟩]).cell 0
                    case c1 => omega
                    case c2 => have := HB.out.size; simp; omega
                    intro v3 w3 hown3 hg3 hbk
                    obtain ⟨g3, c3, rfl, _, _⟩ := own_more hown3
                    have HO3 : Hid (w3.ownsRow w.heap.size 9 1 (.slice (some ⟨g3, 0, none⟩) (q + 1) c3) (q + 1) ((L ++ [t]).map strV)) := Lib.hid (by rw [List.map_append]; exact hown3)
                    have HB3 := Lib.hid ((HB.out.alloc HB.out.size (.cells #[.string ⟨t.toArray⟩] 9)).grown hg3 (by have := HB.out.size; simp; omega) (own_ge HO.out))
                    have hs3 := hg3.size
                    rw [World.size_alloc] at hs3
                    have hneb : some b9 ≠ (Value.slice p q c).ownBlock := fun e => by
                      have h6 := HB9.out
                      have h7 := HL9.out
                      rcases HA.out b9 e.symm with h | h <;> omega
                    have HA3 : Hid (∀ g, (Value.slice (some ⟨g3, 0, none⟩) (q + 1) c3).ownBlock = some g → g < w1.heap.size ∨ w6.heap.size ≤ g) := Lib.hid (fun g hg => by
                      rcases hbk with e | ⟨g', hg', hge⟩
                      · rw [e] at hg; exact HA.out g hg
                      · rw [hg] at hg'; injection hg' with e; subst e; have := HS.out; exact Or.inr (by first | omega | (simp at hge; omega)))
                    have HC3 : Hid (∀ j (h : j < P.length), w3.cell? ⟨b9, j, none⟩ = some (.string ⟨P[j].toArray⟩)) := Lib.hid (fun j hj => by
                      have hb : Below wr.heap.size wr (wr.alloc (.cells #[.string ⟨t.toArray⟩] 9)) := (Below.refl _ _).alloc (Nat.le_refl _) _
                      exact hg3.cell (by rw [hb.cell (World.block_lt_of_cell? wr _ (HC.out j hj))]; exact HC.out j hj) hneb)
                    have HS3 : Hid (w6.heap.size ≤ w3.heap.size) := Lib.hid (by have := HS.out; omega)
                    clear hown3 hg3 hbk hs3 hneb
                    go_wp2_with fail
                    go_roundw
                    case rel => exact ⟨i + 1, q + 1, some ⟨g3, 0, none⟩, c3, L ++ [t], by go_num, rfl, HK.out, by omega, HQ2, HV, HO3, HA3, HB3, HC3, HS3⟩
                    case measure => have := HK.out; simp [intOf]; omega
            · have hji : ¬ (i : Int) < (m : Int) := by omega
              have HLF : Hid (L = LD) := Lib.hid (by rw [HL.out, HLD.out, List.take_of_length_le (by rw [← HMN.out]; omega)])
              have OS : Hid (OwnStrs w.heap.size wr (.slice p q c) L) := Lib.hid (own_texts (t := 9) (by have h := HO.out; rw [HQ.out] at h ⊢; exact h))
              clear HL HO HA HC HS
              go_wp2_with fail
              go_loopw [11, 12] (fun x11 x12 wz => ∃ (j : Nat) (o : List UInt8), x12 = .int .i64 (j : Int) ∧ x11 = .string ⟨o.toArray⟩ ∧ j ≤ q ∧ Hid (o = whole (L.take j)) ∧ Hid (wz = wr)) (fun _ j _ => q - (intOf j).toNat)
              case atStart => exact ⟨0, [], rfl, rfl, Nat.zero_le _, Lib.hid rfl, by first | exact Lib.hid rfl | exact Lib.hid trivial⟩
              case round =>
                obtain ⟨j, o, rfl, rfl, hj, HJ, HZ⟩ := hrel
                obtain rfl := HZ.out
                by_cases hlt2 : j < q
                · have hjl : j < L.length := by rw [← HQ.out]; exact hlt2
                  have hjj : (j : Int) < (q : Int) := by omega
                  have HK2 : Hid (j + 1 ≤ q) := Lib.hid hlt2
                  have hkj : j < 9223372036854775807 := by have := OS.out.texts.max; omega
                  obtain ⟨g, rfl, _, _, hcell⟩ := OS.out.some (by omega)
                  have hce := hcell j hjl
                  have hwl : o.length + (L[j].length + 1) ≤ 300000 := by
                    have h1 := whole_part hjl
                    have h2 := HWL.out
                    rw [← HLF.out] at h2
                    rw [HJ.out]; omega
                  have HJN : Hid (o ++ 47 :: L[j] = whole (L.take (j + 1))) := Lib.hid (by rw [whole_next hjl, ← HJ.out])
                  clear hcell
                  generalize L[j] = t at *
                  obtain ⟨x, hx⟩ : ∃ x, x = o ++ (47 : UInt8) :: t := ⟨_, rfl⟩
                  obtain ⟨y, hy⟩ : ∃ y, y = o ++ [(47 : UInt8)] := ⟨_, rfl⟩
                  have hx1 : ByteArray.mk o.toArray ++ ByteArray.mk #[47] = ⟨y.toArray⟩ := by rw [hy]; apply ByteArray.ext; simp [ByteArray.data_append]
                  have hx2 : ByteArray.mk y.toArray ++ ByteArray.mk t.toArray = ⟨x.toArray⟩ := by rw [hy, hx]; apply ByteArray.ext; simp [ByteArray.data_append]
                  have n0 : ¬ 9223372036854775807 < o.length + 1 := by omega
                  have n1 : ¬ 9223372036854775807 < y.length + t.length := by rw [hy, List.length_append]; simp <;> omega
                  rw [← hx] at HJN
                  clear hx hy
                  go_wp2_with fail
                  go_roundw
                  case rel => exact ⟨j + 1, x, by go_num, rfl, HK2.out, HJN, by first | exact Lib.hid rfl | exact Lib.hid trivial⟩
                  case measure => have := HK2.out; simp [intOf]; omega
                · have hjj : ¬ (j : Int) < (q : Int) := by omega
                  have HOW : Hid (o = whole LD) := Lib.hid (by rw [HJ.out, List.take_of_length_le (by rw [← HQ.out]; omega), HLF.out])
                  have HPO : Hid (pathOf LD = if o == [] then [47] else o) := Lib.hid (by rw [HOW.out]; rfl)
                  clear HJ
                  cases ho : (o == []) with
                  | true =>
                    rw [ho, if_pos rfl] at HPO
                    have HR : Hid (J = ([47], 0)) := Lib.hid (by rw [HJD.out, HPO.out]; rfl)
                    go_wp2_with fail
                    go_ret2
                    exact ⟨by rw [HR.out] <;> rfl, HB.out⟩
                  | false =>
                    rw [ho, if_neg (by decide)] at HPO
                    by_cases h9 : 200 < o.length
                    · have g9 : (200 : Int) < (o.length : Int) := by omega
                      have HR : Hid (J = ([], 5)) := Lib.hid (by rw [HJD.out, HPO.out, if_neg (by omega)])
                      clear h9
                      go_wp2_with fail
                      go_ret2
                      exact ⟨by rw [HR.out] <;> rfl, HB.out⟩
                    · have g9 : ¬ (200 : Int) < (o.length : Int) := by omega
                      have HR : Hid (J = (o, 0)) := Lib.hid (by rw [HJD.out, HPO.out, if_pos (by omega)])
                      clear h9
                      go_wp2_with fail
                      go_ret2
                      exact ⟨by rw [HR.out] <;> rfl, HB.out⟩
        | false =>
          by_cases ge : arg.length = 0
          case pos =>
            have g0 : ¬ (0 : Int) < (arg.length : Int) := by omega
            clear ge
            have HPP := Lib.hid (fun W => rparts_none cwd h2 W)
            have hp0 : parts cwd = [] := by unfold parts; rw [if_pos h2]
            have hst : start cwd arg = [] := by unfold start; rw [hsl]; exact hp0
            rw [hst] at HLD
            clear hst hp0 h2
            clear hsl
            go_enter Tryd.func13, Tryd.ntmps13
            go_wp2_with (first
              | (go_at_call 11; refine (HM.out _).mono ?_; rintro e w1 ⟨rfl, b1⟩; have B1 := Lib.hid b1; clear b1)
              | (go_at_call 17; refine (HC.out _).mono ?_; rintro e w8 ⟨rfl, h8⟩; obtain rfl := h8.symm)
              | (go_at_call 18; refine (HPP.out _).mono ?_; rintro e w7 ⟨rfl, h7⟩; obtain rfl := h7.symm)
              | (at_builtin; refine wpList_append_own_none rfl _ _ 31 rfl w.heap.size 9 i0 1 Tryd.underlying31 hi _ _ _ rfl (World.ownsRow_nil w1 w.heap.size 9 1) rfl ?_)
              | (go_at_call 25; refine (HX.out _).mono ?_; rintro e w6 ⟨pq, m, km, rfl, hm, ho, b6⟩; have HMN := Lib.hid hm; have OQ := Lib.hid ho; have B6 := Lib.hid b6; clear hm ho b6))
            have B5 := B1
            have O5 : Hid (w1.ownsRow w.heap.size 9 1 (.slice none 0 0) 0 (([] : Ps).map strV)) := Lib.hid (World.ownsRow_nil _ _ _ _)
            have BW6 := Lib.hid (B5.out.trans (B6.out.mono B5.out.size))
            have HPN : Hid (0 < P.length) := Lib.hid (List.length_pos_iff.2 HPE.out)
            obtain ⟨b9, rfl, hb9, hl9, hcell9⟩ := OQ.out.some HPN.out
            have HB9 := Lib.hid hb9
            have HL9 := Lib.hid hl9
            have HC9 := Lib.hid hcell9
            have O6 := Lib.hid (own_call O5.out B6.out)
            clear hb9 hl9 hcell9
            go_loopw [8, 10] (fun x8 x10 wr => ∃ (i q : Nat) (p : Option Addr) (c : Nat) (L : Ps), x10 = .int .i64 (i : Int) ∧ x8 = .slice p q c ∧ i ≤ m ∧ q ≤ 100000 + i ∧ Hid (q = L.length) ∧ Hid (L = (P.take i).foldl step ([] : Ps)) ∧ Hid (wr.ownsRow w.heap.size 9 1 (.slice p q c) q (L.map strV)) ∧ Hid (∀ g, (Value.slice p q c).ownBlock = some g → g < w1.heap.size ∨ w6.heap.size ≤ g) ∧ Hid (Below w.heap.size w wr) ∧ Hid (∀ j (h : j < P.length), wr.cell? ⟨b9, j, none⟩ = some (.string ⟨P[j].toArray⟩)) ∧ Hid (w6.heap.size ≤ wr.heap.size)) (fun _ i _ => m - (intOf i).toNat)
            case atStart => exact ⟨0, 0, none, 0, [], rfl, rfl, Nat.zero_le _, by omega, Lib.hid rfl, Lib.hid rfl, O6, Lib.hid (fun g hg => Or.inl (by cases hg)), BW6, HC9, Lib.hid (Nat.le_refl _)⟩
            case round =>
              obtain ⟨i, q, p, c, L, rfl, rfl, hi, hq, HQ, HL, HO, HA, HB, HC, HS⟩ := hrel
              by_cases hlt : i < m
              · have him : i < P.length := by rw [← HMN.out]; exact hlt
                have hji : (i : Int) < (m : Int) := by omega
                have HK : Hid (i + 1 ≤ m) := Lib.hid hlt
                have hm6 : m ≤ 200000 := by rw [HMN.out]; exact HPL.out
                have hkm : i < 9223372036854775807 := by omega
                have hce := HC.out i him
                have HLN : Hid (step L P[i] = (P.take (i + 1)).foldl step ([] : Ps)) := Lib.hid (by rw [steps_next him, ← HL.out])
                generalize P[i] = t at *
                cases h1 : (t == []) with
                | true =>
                  have HV : Hid (L = (P.take (i + 1)).foldl step ([] : Ps)) := Lib.hid (by rw [← HLN.out]; unfold step; rw [h1]; rfl)
                  clear HLN
                  go_wp2_with fail
                  go_roundw
                  case rel => exact ⟨i + 1, q, p, c, L, by go_num, rfl, HK.out, by omega, HQ, HV, HO, HA, HB, HC, HS⟩
                  case measure => have := HK.out; simp [intOf]; omega
                | false =>
                  cases h2 : (t == [46]) with
                  | true =>
                    have HV : Hid (L = (P.take (i + 1)).foldl step ([] : Ps)) := Lib.hid (by rw [← HLN.out]; unfold step; rw [h1, h2]; rfl)
                    clear HLN
                    go_wp2_with fail
                    go_roundw
                    case rel => exact ⟨i + 1, q, p, c, L, by go_num, rfl, HK.out, by omega, HQ, HV, HO, HA, HB, HC, HS⟩
                    case measure => have := HK.out; simp [intOf]; omega
                  | false =>
                    cases h3 : (t == [46, 46]) with
                    | true =>
                      by_cases h4 : 0 < q
                      · obtain ⟨r, rfl⟩ : ∃ r, q = r + 1 := ⟨q - 1, by omega⟩
                        obtain ⟨g, cg, he, hsl, hO⟩ := own_cut HO.out
                        injection he with e1 e2 e3
                        subst e1; subst e3
                        have HV : Hid (L.take r = (P.take (i + 1)).foldl step ([] : Ps)) := Lib.hid (by
                          rw [← HLN.out, beq_iff_eq.1 h3, step_up', ← HQ.out]; rfl)
                        have HO2 : Hid (wr.ownsRow w.heap.size 9 1 (.slice (some ⟨g, 0, none⟩) r c) r ((L.take r).map strV)) := Lib.hid (by rw [List.map_take]; exact hO)
                        have HQ2 : Hid (r = (L.take r).length) := Lib.hid (by rw [List.length_take, ← HQ.out]; omega)
                        have hr6 : r + 1 ≤ 2000000 := by omega
                        clear HLN hO h4
                        go_wp2_with fail
                        go_roundw
                        case rel => exact ⟨i + 1, r, some ⟨g, 0, none⟩, c, L.take r, by go_num, by go_num, HK.out, by omega, HQ2, HV, HO2, Lib.hid (fun g' hg' => HA.out g' hg'), HB, HC, HS⟩
                        case measure => have := HK.out; simp [intOf]; omega
                      · obtain rfl : q = 0 := by omega
                        have hL : L = [] := List.length_eq_zero_iff.1 HQ.out.symm
                        have HV : Hid (L = (P.take (i + 1)).foldl step ([] : Ps)) := Lib.hid (by rw [← HLN.out, beq_iff_eq.1 h3, hL]; rfl)
                        clear HLN h4 hL
                        go_wp2_with fail
                        go_roundw
                        case rel => exact ⟨i + 1, 0, p, c, L, by go_num, rfl, HK.out, by omega, HQ, HV, HO, HA, HB, HC, HS⟩
                        case measure => have := HK.out; simp [intOf]; omega
                    | false =>
                      have HV : Hid (L ++ [t] = (P.take (i + 1)).foldl step ([] : Ps)) := Lib.hid (by rw [← HLN.out]; unfold step; rw [h1, h2, h3]; rfl)
                      have HQ2 : Hid (q + 1 = (L ++ [t]).length) := Lib.hid (by rw [List.length_append, ← HQ.out]; rfl)
                      clear HLN
                      go_wp2_with (at_builtin; refine wpList_append_text rfl _ _ rfl w.heap.size _ q (L.map strV) rfl (HO.out.alloc _) ⟨wr.heap.size, 0, none⟩ 1 (.string ⟨t.toArray⟩) rfl ?c0 rfl ?c1 ?c2 ?_)
                      case c0 => exact (IsRow.made wr 9 #[.string ⟨t.toArray⟩]).cell 0
                      case c1 => omega
                      case c2 => have := HB.out.size; simp; omega
                      intro v3 w3 hown3 hg3 hbk
                      obtain ⟨g3, c3, rfl, _, _⟩ := own_more hown3
                      have HO3 : Hid (w3.ownsRow w.heap.size 9 1 (.slice (some ⟨g3, 0, none⟩) (q + 1) c3) (q + 1) ((L ++ [t]).map strV)) := Lib.hid (by rw [List.map_append]; exact hown3)
                      have HB3 := Lib.hid ((HB.out.alloc HB.out.size (.cells #[.string ⟨t.toArray⟩] 9)).grown hg3 (by have := HB.out.size; simp; omega) (own_ge HO.out))
                      have hs3 := hg3.size
                      rw [World.size_alloc] at hs3
                      have hneb : some b9 ≠ (Value.slice p q c).ownBlock := fun e => by
                        have h6 := HB9.out
                        have h7 := HL9.out
                        rcases HA.out b9 e.symm with h | h <;> omega
                      have HA3 : Hid (∀ g, (Value.slice (some ⟨g3, 0, none⟩) (q + 1) c3).ownBlock = some g → g < w1.heap.size ∨ w6.heap.size ≤ g) := Lib.hid (fun g hg => by
                        rcases hbk with e | ⟨g', hg', hge⟩
                        · rw [e] at hg; exact HA.out g hg
                        · rw [hg] at hg'; injection hg' with e; subst e; have := HS.out; exact Or.inr (by first | omega | (simp at hge; omega)))
                      have HC3 : Hid (∀ j (h : j < P.length), w3.cell? ⟨b9, j, none⟩ = some (.string ⟨P[j].toArray⟩)) := Lib.hid (fun j hj => by
                        have hb : Below wr.heap.size wr (wr.alloc (.cells #[.string ⟨t.toArray⟩] 9)) := (Below.refl _ _).alloc (Nat.le_refl _) _
                        exact hg3.cell (by rw [hb.cell (World.block_lt_of_cell? wr _ (HC.out j hj))]; exact HC.out j hj) hneb)
                      have HS3 : Hid (w6.heap.size ≤ w3.heap.size) := Lib.hid (by have := HS.out; omega)
                      clear hown3 hg3 hbk hs3 hneb
                      go_wp2_with fail
                      go_roundw
                      case rel => exact ⟨i + 1, q + 1, some ⟨g3, 0, none⟩, c3, L ++ [t], by go_num, rfl, HK.out, by omega, HQ2, HV, HO3, HA3, HB3, HC3, HS3⟩
                      case measure => have := HK.out; simp [intOf]; omega
              · have hji : ¬ (i : Int) < (m : Int) := by omega
                have HLF : Hid (L = LD) := Lib.hid (by rw [HL.out, HLD.out, List.take_of_length_le (by rw [← HMN.out]; omega)])
                have OS : Hid (OwnStrs w.heap.size wr (.slice p q c) L) := Lib.hid (own_texts (t := 9) (by have h := HO.out; rw [HQ.out] at h ⊢; exact h))
                clear HL HO HA HC HS
                go_wp2_with fail
                go_loopw [11, 12] (fun x11 x12 wz => ∃ (j : Nat) (o : List UInt8), x12 = .int .i64 (j : Int) ∧ x11 = .string ⟨o.toArray⟩ ∧ j ≤ q ∧ Hid (o = whole (L.take j)) ∧ Hid (wz = wr)) (fun _ j _ => q - (intOf j).toNat)
                case atStart => exact ⟨0, [], rfl, rfl, Nat.zero_le _, Lib.hid rfl, by first | exact Lib.hid rfl | exact Lib.hid trivial⟩
                case round =>
                  obtain ⟨j, o, rfl, rfl, hj, HJ, HZ⟩ := hrel
                  obtain rfl := HZ.out
                  by_cases hlt2 : j < q
                  · have hjl : j < L.length := by rw [← HQ.out]; exact hlt2
                    have hjj : (j : Int) < (q : Int) := by omega
                    have HK2 : Hid (j + 1 ≤ q) := Lib.hid hlt2
                    have hkj : j < 9223372036854775807 := by have := OS.out.texts.max; omega
                    obtain ⟨g, rfl, _, _, hcell⟩ := OS.out.some (by omega)
                    have hce := hcell j hjl
                    have hwl : o.length + (L[j].length + 1) ≤ 300000 := by
                      have h1 := whole_part hjl
                      have h2 := HWL.out
                      rw [← HLF.out] at h2
                      rw [HJ.out]; omega
                    have HJN : Hid (o ++ 47 :: L[j] = whole (L.take (j + 1))) := Lib.hid (by rw [whole_next hjl, ← HJ.out])
                    clear hcell
                    generalize L[j] = t at *
                    obtain ⟨x, hx⟩ : ∃ x, x = o ++ (47 : UInt8) :: t := ⟨_, rfl⟩
                    obtain ⟨y, hy⟩ : ∃ y, y = o ++ [(47 : UInt8)] := ⟨_, rfl⟩
                    have hx1 : ByteArray.mk o.toArray ++ ByteArray.mk #[47] = ⟨y.toArray⟩ := by rw [hy]; apply ByteArray.ext; simp [ByteArray.data_append]
                    have hx2 : ByteArray.mk y.toArray ++ ByteArray.mk t.toArray = ⟨x.toArray⟩ := by rw [hy, hx]; apply ByteArray.ext; simp [ByteArray.data_append]
                    have n0 : ¬ 9223372036854775807 < o.length + 1 := by omega
                    have n1 : ¬ 9223372036854775807 < y.length + t.length := by rw [hy, List.length_append]; simp <;> omega
                    rw [← hx] at HJN
                    clear hx hy
                    go_wp2_with fail
                    go_roundw
                    case rel => exact ⟨j + 1, x, by go_num, rfl, HK2.out, HJN, by first | exact Lib.hid rfl | exact Lib.hid trivial⟩
                    case measure => have := HK2.out; simp [intOf]; omega
                  · have hjj : ¬ (j : Int) < (q : Int) := by omega
                    have HOW : Hid (o = whole LD) := Lib.hid (by rw [HJ.out, List.take_of_length_le (by rw [← HQ.out]; omega), HLF.out])
                    have HPO : Hid (pathOf LD = if o == [] then [47] else o) := Lib.hid (by rw [HOW.out]; rfl)
                    clear HJ
                    cases ho : (o == []) with
                    | true =>
                      rw [ho, if_pos rfl] at HPO
                      have HR : Hid (J = ([47], 0)) := Lib.hid (by rw [HJD.out, HPO.out]; rfl)
                      go_wp2_with fail
                      go_ret2
                      exact ⟨by rw [HR.out] <;> rfl, HB.out⟩
                    | false =>
                      rw [ho, if_neg (by decide)] at HPO
                      by_cases h9 : 200 < o.length
                      · have g9 : (200 : Int) < (o.length : Int) := by omega
                        have HR : Hid (J = ([], 5)) := Lib.hid (by rw [HJD.out, HPO.out, if_neg (by omega)])
                        clear h9
                        go_wp2_with fail
                        go_ret2
                        exact ⟨by rw [HR.out] <;> rfl, HB.out⟩
                      · have g9 : ¬ (200 : Int) < (o.length : Int) := by omega
                        have HR : Hid (J = (o, 0)) := Lib.hid (by rw [HJD.out, HPO.out, if_pos (by omega)])
                        clear h9
                        go_wp2_with fail
                        go_ret2
                        exact ⟨by rw [HR.out] <;> rfl, HB.out⟩
          case neg =>
            have gp : 0 < arg.length := by omega
            have hsz : 0 < (ByteArray.mk arg.toArray).size := by simpa [ByteArray.size] using gp
            obtain ⟨ch, hcx⟩ : ∃ c : UInt8, (ByteArray.mk arg.toArray)[0]'hsz = c := ⟨_, rfl⟩
            have hc0 : arg[0] = ch := hcx
            have g0 : (0 : Int) < (arg.length : Int) := by omega
            have g4 : ((ch.toNat : Int) == 47) = false := by
              rw [beq_eq_false_iff_ne]
              intro e
              have hch : ch = 47 := UInt8.toNat.inj (by show ch.toNat = 47; omega)
              have h := hsl
              unfold slash at h
              rw [List.head?_eq_getElem?, List.getElem?_eq_getElem gp, hc0, hch] at h
              simp at h
            clear hc0 ge
            have HPP := Lib.hid (fun W => rparts_none cwd h2 W)
            have hp0 : parts cwd = [] := by unfold parts; rw [if_pos h2]
            have hst : start cwd arg = [] := by unfold start; rw [hsl]; exact hp0
            rw [hst] at HLD
            clear hst hp0 h2
            clear hsl
            go_enter Tryd.func13, Tryd.ntmps13
            go_wp2_with (first
              | (go_at_call 11; refine (HM.out _).mono ?_; rintro e w1 ⟨rfl, b1⟩; have B1 := Lib.hid b1; clear b1)
              | (go_at_call 17; refine (HC.out _).mono ?_; rintro e w8 ⟨rfl, h8⟩; obtain rfl := h8.symm)
              | (go_at_call 18; refine (HPP.out _).mono ?_; rintro e w7 ⟨rfl, h7⟩; obtain rfl := h7.symm)
              | (at_builtin; refine wpList_append_own_none rfl _ _ 31 rfl w.heap.size 9 i0 1 Tryd.underlying31 hi _ _ _ rfl (World.ownsRow_nil w1 w.heap.size 9 1) rfl ?_)
              | (go_at_call 25; refine (HX.out _).mono ?_; rintro e w6 ⟨pq, m, km, rfl, hm, ho, b6⟩; have HMN := Lib.hid hm; have OQ := Lib.hid ho; have B6 := Lib.hid b6; clear hm ho b6))
            have B5 := B1
            have O5 : Hid (w1.ownsRow w.heap.size 9 1 (.slice none 0 0) 0 (([] : Ps).map strV)) := Lib.hid (World.ownsRow_nil _ _ _ _)
            have BW6 := Lib.hid (B5.out.trans (B6.out.mono B5.out.size))
            have HPN : Hid (0 < P.length) := Lib.hid (List.length_pos_iff.2 HPE.out)
            obtain ⟨b9, rfl, hb9, hl9, hcell9⟩ := OQ.out.some HPN.out
            have HB9 := Lib.hid hb9
            have HL9 := Lib.hid hl9
            have HC9 := Lib.hid hcell9
            have O6 := Lib.hid (own_call O5.out B6.out)
            clear hb9 hl9 hcell9
            go_loopw [8, 10] (fun x8 x10 wr => ∃ (i q : Nat) (p : Option Addr) (c : Nat) (L : Ps), x10 = .int .i64 (i : Int) ∧ x8 = .slice p q c ∧ i ≤ m ∧ q ≤ 100000 + i ∧ Hid (q = L.length) ∧ Hid (L = (P.take i).foldl step ([] : Ps)) ∧ Hid (wr.ownsRow w.heap.size 9 1 (.slice p q c) q (L.map strV)) ∧ Hid (∀ g, (Value.slice p q c).ownBlock = some g → g < w1.heap.size ∨ w6.heap.size ≤ g) ∧ Hid (Below w.heap.size w wr) ∧ Hid (∀ j (h : j < P.length), wr.cell? ⟨b9, j, none⟩ = some (.string ⟨P[j].toArray⟩)) ∧ Hid (w6.heap.size ≤ wr.heap.size)) (fun _ i _ => m - (intOf i).toNat)
            case atStart => exact ⟨0, 0, none, 0, [], rfl, rfl, Nat.zero_le _, by omega, Lib.hid rfl, Lib.hid rfl, O6, Lib.hid (fun g hg => Or.inl (by cases hg)), BW6, HC9, Lib.hid (Nat.le_refl _)⟩
            case round =>
              obtain ⟨i, q, p, c, L, rfl, rfl, hi, hq, HQ, HL, HO, HA, HB, HC, HS⟩ := hrel
              by_cases hlt : i < m
              · have him : i < P.length := by rw [← HMN.out]; exact hlt
                have hji : (i : Int) < (m : Int) := by omega
                have HK : Hid (i + 1 ≤ m) := Lib.hid hlt
                have hm6 : m ≤ 200000 := by rw [HMN.out]; exact HPL.out
                have hkm : i < 9223372036854775807 := by omega
                have hce := HC.out i him
                have HLN : Hid (step L P[i] = (P.take (i + 1)).foldl step ([] : Ps)) := Lib.hid (by rw [steps_next him, ← HL.out])
                generalize P[i] = t at *
                cases h1 : (t == []) with
                | true =>
                  have HV : Hid (L = (P.take (i + 1)).foldl step ([] : Ps)) := Lib.hid (by rw [← HLN.out]; unfold step; rw [h1]; rfl)
                  clear HLN
                  go_wp2_with fail
                  go_roundw
                  case rel => exact ⟨i + 1, q, p, c, L, by go_num, rfl, HK.out, by omega, HQ, HV, HO, HA, HB, HC, HS⟩
                  case measure => have := HK.out; simp [intOf]; omega
                | false =>
                  cases h2 : (t == [46]) with
                  | true =>
                    have HV : Hid (L = (P.take (i + 1)).foldl step ([] : Ps)) := Lib.hid (by rw [← HLN.out]; unfold step; rw [h1, h2]; rfl)
                    clear HLN
                    go_wp2_with fail
                    go_roundw
                    case rel => exact ⟨i + 1, q, p, c, L, by go_num, rfl, HK.out, by omega, HQ, HV, HO, HA, HB, HC, HS⟩
                    case measure => have := HK.out; simp [intOf]; omega
                  | false =>
                    cases h3 : (t == [46, 46]) with
                    | true =>
                      by_cases h4 : 0 < q
                      · obtain ⟨r, rfl⟩ : ∃ r, q = r + 1 := ⟨q - 1, by omega⟩
                        obtain ⟨g, cg, he, hsl, hO⟩ := own_cut HO.out
                        injection he with e1 e2 e3
                        subst e1; subst e3
                        have HV : Hid (L.take r = (P.take (i + 1)).foldl step ([] : Ps)) := Lib.hid (by
                          rw [← HLN.out, beq_iff_eq.1 h3, step_up', ← HQ.out]; rfl)
                        have HO2 : Hid (wr.ownsRow w.heap.size 9 1 (.slice (some ⟨g, 0, none⟩) r c) r ((L.take r).map strV)) := Lib.hid (by rw [List.map_take]; exact hO)
                        have HQ2 : Hid (r = (L.take r).length) := Lib.hid (by rw [List.length_take, ← HQ.out]; omega)
                        have hr6 : r + 1 ≤ 2000000 := by omega
                        clear HLN hO h4
                        go_wp2_with fail
                        go_roundw
                        case rel => exact ⟨i + 1, r, some ⟨g, 0, none⟩, c, L.take r, by go_num, by go_num, HK.out, by omega, HQ2, HV, HO2, Lib.hid (fun g' hg' => HA.out g' hg'), HB, HC, HS⟩
                        case measure => have := HK.out; simp [intOf]; omega
                      · obtain rfl : q = 0 := by omega
                        have hL : L = [] := List.length_eq_zero_iff.1 HQ.out.symm
                        have HV : Hid (L = (P.take (i + 1)).foldl step ([] : Ps)) := Lib.hid (by rw [← HLN.out, beq_iff_eq.1 h3, hL]; rfl)
                        clear HLN h4 hL
                        go_wp2_with fail
                        go_roundw
                        case rel => exact ⟨i + 1, 0, p, c, L, by go_num, rfl, HK.out, by omega, HQ, HV, HO, HA, HB, HC, HS⟩
                        case measure => have := HK.out; simp [intOf]; omega
                    | false =>
                      have HV : Hid (L ++ [t] = (P.take (i + 1)).foldl step ([] : Ps)) := Lib.hid (by rw [← HLN.out]; unfold step; rw [h1, h2, h3]; rfl)
                      have HQ2 : Hid (q + 1 = (L ++ [t]).length) := Lib.hid (by rw [List.length_append, ← HQ.out]; rfl)
                      clear HLN
                      go_wp2_with (at_builtin; refine wpList_append_text rfl _ _ rfl w.heap.size _ q (L.map strV) rfl (HO.out.alloc _) ⟨wr.heap.size, 0, none⟩ 1 (.string ⟨t.toArray⟩) rfl ?c0 rfl ?c1 ?c2 ?_)
                      case c0 => exact (IsRow.made wr 9 #[.string ⟨t.toArray⟩]).cell 0
                      case c1 => omega
                      case c2 => have := HB.out.size; simp; omega
                      intro v3 w3 hown3 hg3 hbk
                      obtain ⟨g3, c3, rfl, _, _⟩ := own_more hown3
                      have HO3 : Hid (w3.ownsRow w.heap.size 9 1 (.slice (some ⟨g3, 0, none⟩) (q + 1) c3) (q + 1) ((L ++ [t]).map strV)) := Lib.hid (by rw [List.map_append]; exact hown3)
                      have HB3 := Lib.hid ((HB.out.alloc HB.out.size (.cells #[.string ⟨t.toArray⟩] 9)).grown hg3 (by have := HB.out.size; simp; omega) (own_ge HO.out))
                      have hs3 := hg3.size
                      rw [World.size_alloc] at hs3
                      have hneb : some b9 ≠ (Value.slice p q c).ownBlock := fun e => by
                        have h6 := HB9.out
                        have h7 := HL9.out
                        rcases HA.out b9 e.symm with h | h <;> omega
                      have HA3 : Hid (∀ g, (Value.slice (some ⟨g3, 0, none⟩) (q + 1) c3).ownBlock = some g → g < w1.heap.size ∨ w6.heap.size ≤ g) := Lib.hid (fun g hg => by
                        rcases hbk with e | ⟨g', hg', hge⟩
                        · rw [e] at hg; exact HA.out g hg
                        · rw [hg] at hg'; injection hg' with e; subst e; have := HS.out; exact Or.inr (by first | omega | (simp at hge; omega)))
                      have HC3 : Hid (∀ j (h : j < P.length), w3.cell? ⟨b9, j, none⟩ = some (.string ⟨P[j].toArray⟩)) := Lib.hid (fun j hj => by
                        have hb : Below wr.heap.size wr (wr.alloc (.cells #[.string ⟨t.toArray⟩] 9)) := (Below.refl _ _).alloc (Nat.le_refl _) _
                        exact hg3.cell (by rw [hb.cell (World.block_lt_of_cell? wr _ (HC.out j hj))]; exact HC.out j hj) hneb)
                      have HS3 : Hid (w6.heap.size ≤ w3.heap.size) := Lib.hid (by have := HS.out; omega)
                      clear hown3 hg3 hbk hs3 hneb
                      go_wp2_with fail
                      go_roundw
                      case rel => exact ⟨i + 1, q + 1, some ⟨g3, 0, none⟩, c3, L ++ [t], by go_num, rfl, HK.out, by omega, HQ2, HV, HO3, HA3, HB3, HC3, HS3⟩
                      case measure => have := HK.out; simp [intOf]; omega
              · have hji : ¬ (i : Int) < (m : Int) := by omega
                have HLF : Hid (L = LD) := Lib.hid (by rw [HL.out, HLD.out, List.take_of_length_le (by rw [← HMN.out]; omega)])
                have OS : Hid (OwnStrs w.heap.size wr (.slice p q c) L) := Lib.hid (own_texts (t := 9) (by have h := HO.out; rw [HQ.out] at h ⊢; exact h))
                clear HL HO HA HC HS
                go_wp2_with fail
                go_loopw [11, 12] (fun x11 x12 wz => ∃ (j : Nat) (o : List UInt8), x12 = .int .i64 (j : Int) ∧ x11 = .string ⟨o.toArray⟩ ∧ j ≤ q ∧ Hid (o = whole (L.take j)) ∧ Hid (wz = wr)) (fun _ j _ => q - (intOf j).toNat)
                case atStart => exact ⟨0, [], rfl, rfl, Nat.zero_le _, Lib.hid rfl, by first | exact Lib.hid rfl | exact Lib.hid trivial⟩
                case round =>
                  obtain ⟨j, o, rfl, rfl, hj, HJ, HZ⟩ := hrel
                  obtain rfl := HZ.out
                  by_cases hlt2 : j < q
                  · have hjl : j < L.length := by rw [← HQ.out]; exact hlt2
                    have hjj : (j : Int) < (q : Int) := by omega
                    have HK2 : Hid (j + 1 ≤ q) := Lib.hid hlt2
                    have hkj : j < 9223372036854775807 := by have := OS.out.texts.max; omega
                    obtain ⟨g, rfl, _, _, hcell⟩ := OS.out.some (by omega)
                    have hce := hcell j hjl
                    have hwl : o.length + (L[j].length + 1) ≤ 300000 := by
                      have h1 := whole_part hjl
                      have h2 := HWL.out
                      rw [← HLF.out] at h2
                      rw [HJ.out]; omega
                    have HJN : Hid (o ++ 47 :: L[j] = whole (L.take (j + 1))) := Lib.hid (by rw [whole_next hjl, ← HJ.out])
                    clear hcell
                    generalize L[j] = t at *
                    obtain ⟨x, hx⟩ : ∃ x, x = o ++ (47 : UInt8) :: t := ⟨_, rfl⟩
                    obtain ⟨y, hy⟩ : ∃ y, y = o ++ [(47 : UInt8)] := ⟨_, rfl⟩
                    have hx1 : ByteArray.mk o.toArray ++ ByteArray.mk #[47] = ⟨y.toArray⟩ := by rw [hy]; apply ByteArray.ext; simp [ByteArray.data_append]
                    have hx2 : ByteArray.mk y.toArray ++ ByteArray.mk t.toArray = ⟨x.toArray⟩ := by rw [hy, hx]; apply ByteArray.ext; simp [ByteArray.data_append]
                    have n0 : ¬ 9223372036854775807 < o.length + 1 := by omega
                    have n1 : ¬ 9223372036854775807 < y.length + t.length := by rw [hy, List.length_append]; simp <;> omega
                    rw [← hx] at HJN
                    clear hx hy
                    go_wp2_with fail
                    go_roundw
                    case rel => exact ⟨j + 1, x, by go_num, rfl, HK2.out, HJN, by first | exact Lib.hid rfl | exact Lib.hid trivial⟩
                    case measure => have := HK2.out; simp [intOf]; omega
                  · have hjj : ¬ (j : Int) < (q : Int) := by omega
                    have HOW : Hid (o = whole LD) := Lib.hid (by rw [HJ.out, List.take_of_length_le (by rw [← HQ.out]; omega), HLF.out])
                    have HPO : Hid (pathOf LD = if o == [] then [47] else o) := Lib.hid (by rw [HOW.out]; rfl)
                    clear HJ
                    cases ho : (o == []) with
                    | true =>
                      rw [ho, if_pos rfl] at HPO
                      have HR : Hid (J = ([47], 0)) := Lib.hid (by rw [HJD.out, HPO.out]; rfl)
                      go_wp2_with fail
                      go_ret2
                      exact ⟨by rw [HR.out] <;> rfl, HB.out⟩
                    | false =>
                      rw [ho, if_neg (by decide)] at HPO
                      by_cases h9 : 200 < o.length
                      · have g9 : (200 : Int) < (o.length : Int) := by omega
                        have HR : Hid (J = ([], 5)) := Lib.hid (by rw [HJD.out, HPO.out, if_neg (by omega)])
                        clear h9
                        go_wp2_with fail
                        go_ret2
                        exact ⟨by rw [HR.out] <;> rfl, HB.out⟩
                      · have g9 : ¬ (200 : Int) < (o.length : Int) := by omega
                        have HR : Hid (J = (o, 0)) := Lib.hid (by rw [HJD.out, HPO.out, if_pos (by omega)])
                        clear h9
                        go_wp2_with fail
                        go_ret2
                        exact ⟨by rw [HR.out] <;> rfl, HB.out⟩
      case neg =>
        cases hsl : slash arg with
        | true =>
          have gp : 0 < arg.length := by
            cases arg with
            | nil => cases hsl
            | cons b r => simp
          have hsz : 0 < (ByteArray.mk arg.toArray).size := by simpa [ByteArray.size] using gp
          obtain ⟨ch, hcx⟩ : ∃ c : UInt8, (ByteArray.mk arg.toArray)[0]'hsz = c := ⟨_, rfl⟩
          have hc0 : arg[0] = ch := hcx
          have g0 : (0 : Int) < (arg.length : Int) := by omega
          have hch : ch = 47 := by
            have h := hsl
            unfold slash at h
            rw [List.head?_eq_getElem?, List.getElem?_eq_getElem gp, hc0] at h
            simpa using h
          have g4 : ((ch.toNat : Int) == 47) = true := by rw [hch]; rfl
          clear hc0 hch
          have HPP := Lib.hid (fun W => rparts_any cwd hc W)
          have HPQ : Hid (0 < (parts cwd).length) := Lib.hid (by unfold parts; rw [if_neg h2]; exact List.length_pos_iff.2 (cutL_ne 47 _))
          have HPF : Hid ((parts cwd).length ≤ 100000) := Lib.hid (Nat.le_trans parts_few hc)
          have hst : start cwd arg = [] := by unfold start; rw [hsl]; rfl
          rw [hst] at HLD
          clear hst h2
          clear hsl
          go_enter Tryd.func13, Tryd.ntmps13
          go_wp2_with (first
            | (go_at_call 11; refine (HM.out _).mono ?_; rintro e w1 ⟨rfl, b1⟩; have B1 := Lib.hid b1; clear b1)
            | (go_at_call 17; refine (HC.out _).mono ?_; rintro e w8 ⟨rfl, h8⟩; obtain rfl := h8.symm)
            | (go_at_call 18; refine (HPP.out _).mono ?_; rintro e w3 ⟨pp, np, kp, rfl, hnp, hop, b3⟩; have NP := Lib.hid hnp; have OP := Lib.hid hop; have B3 := Lib.hid (B1.out.trans (b3.mono B1.out.size)); clear hnp b3; obtain ⟨bp, rfl, _, _, hcp⟩ := hop.some HPQ.out; have HCP := Lib.hid hcp; clear hop hcp)
            | (at_builtin; refine wpList_append_own _ rfl _ _ 31 rfl w.heap.size 9 i0 (.string ByteArray.empty) 1 16 Tryd.underlying31 hi hz0 hz1 hz2 rfl (by decide) _ _ _ rfl (World.ownsRow_nil w3 w.heap.size 9 1) ⟨bp, 0, none⟩ np kp ((parts cwd).map strV) rfl ?c0 ?c1 ?c2 ?c3 ?c4 ?c5 ?_))
          case c0 => rw [List.length_map, Nat.mul_one]; exact NP.out.symm
          case c1 => exact texts_cells' HCP.out
          case c2 => exact texts_one'
          case c3 => have h1 := NP.out; have h2 := HPF.out; unfold maxLen; omega
          case c4 => have h1 := NP.out; have h2 := HPF.out; omega
          case c5 => exact B3.out.size
          intro v4 w4 hown4 hg4 _
          have B5 := Lib.hid (B3.out.grown hg4 B3.out.size (fun k hk => by cases hk))
          have hnp1 : Hid (1 ≤ np) := Lib.hid (by have h1 := NP.out; have h2 := HPQ.out; omega)
          obtain ⟨z, hz⟩ : ∃ z, np = z + 1 := ⟨np - 1, by have := hnp1.out; omega⟩
          subst hz
          obtain ⟨g4, c4, rfl, _, hg4l⟩ := own_more hown4
          have HG4 := Lib.hid hg4l
          have O5 := Lib.hid hown4
          clear hown4 hg4 hg4l
          go_wp2_with (first
            | (go_at_call 25; refine (HX.out _).mono ?_; rintro e w6 ⟨pq, m, km, rfl, hm, ho, b6⟩; have HMN := Lib.hid hm; have OQ := Lib.hid ho; have B6 := Lib.hid b6; clear hm ho b6))
          have O5 : Hid (w4.ownsRow w.heap.size 9 1 (.slice none 0 0) 0 (([] : Ps).map strV)) := Lib.hid (World.ownsRow_nil _ _ _ _)
          have BW6 := Lib.hid (B5.out.trans (B6.out.mono B5.out.size))
          have HPN : Hid (0 < P.length) := Lib.hid (List.length_pos_iff.2 HPE.out)
          obtain ⟨b9, rfl, hb9, hl9, hcell9⟩ := OQ.out.some HPN.out
          have HB9 := Lib.hid hb9
          have HL9 := Lib.hid hl9
          have HC9 := Lib.hid hcell9
          have O6 := Lib.hid (own_call O5.out B6.out)
          clear hb9 hl9 hcell9
          go_loopw [8, 10] (fun x8 x10 wr => ∃ (i q : Nat) (p : Option Addr) (c : Nat) (L : Ps), x10 = .int .i64 (i : Int) ∧ x8 = .slice p q c ∧ i ≤ m ∧ q ≤ 100000 + i ∧ Hid (q = L.length) ∧ Hid (L = (P.take i).foldl step ([] : Ps)) ∧ Hid (wr.ownsRow w.heap.size 9 1 (.slice p q c) q (L.map strV)) ∧ Hid (∀ g, (Value.slice p q c).ownBlock = some g → g < w4.heap.size ∨ w6.heap.size ≤ g) ∧ Hid (Below w.heap.size w wr) ∧ Hid (∀ j (h : j < P.length), wr.cell? ⟨b9, j, none⟩ = some (.string ⟨P[j].toArray⟩)) ∧ Hid (w6.heap.size ≤ wr.heap.size)) (fun _ i _ => m - (intOf i).toNat)
          case atStart => exact ⟨0, 0, none, 0, [], rfl, rfl, Nat.zero_le _, by omega, Lib.hid rfl, Lib.hid rfl, O6, Lib.hid (fun g hg => Or.inl (by cases hg)), BW6, HC9, Lib.hid (Nat.le_refl _)⟩
          case round =>
            obtain ⟨i, q, p, c, L, rfl, rfl, hi, hq, HQ, HL, HO, HA, HB, HC, HS⟩ := hrel
            by_cases hlt : i < m
            · have him : i < P.length := by rw [← HMN.out]; exact hlt
              have hji : (i : Int) < (m : Int) := by omega
              have HK : Hid (i + 1 ≤ m) := Lib.hid hlt
              have hm6 : m ≤ 200000 := by rw [HMN.out]; exact HPL.out
              have hkm : i < 9223372036854775807 := by omega
              have hce := HC.out i him
              have HLN : Hid (step L P[i] = (P.take (i + 1)).foldl step ([] : Ps)) := Lib.hid (by rw [steps_next him, ← HL.out])
              generalize P[i] = t at *
              cases h1 : (t == []) with
              | true =>
                have HV : Hid (L = (P.take (i + 1)).foldl step ([] : Ps)) := Lib.hid (by rw [← HLN.out]; unfold step; rw [h1]; rfl)
                clear HLN
                go_wp2_with fail
                go_roundw
                case rel => exact ⟨i + 1, q, p, c, L, by go_num, rfl, HK.out, by omega, HQ, HV, HO, HA, HB, HC, HS⟩
                case measure => have := HK.out; simp [intOf]; omega
              | false =>
                cases h2 : (t == [46]) with
                | true =>
                  have HV : Hid (L = (P.take (i + 1)).foldl step ([] : Ps)) := Lib.hid (by rw [← HLN.out]; unfold step; rw [h1, h2]; rfl)
                  clear HLN
                  go_wp2_with fail
                  go_roundw
                  case rel => exact ⟨i + 1, q, p, c, L, by go_num, rfl, HK.out, by omega, HQ, HV, HO, HA, HB, HC, HS⟩
                  case measure => have := HK.out; simp [intOf]; omega
                | false =>
                  cases h3 : (t == [46, 46]) with
                  | true =>
                    by_cases h4 : 0 < q
                    · obtain ⟨r, rfl⟩ : ∃ r, q = r + 1 := ⟨q - 1, by omega⟩
                      obtain ⟨g, cg, he, hsl, hO⟩ := own_cut HO.out
                      injection he with e1 e2 e3
                      subst e1; subst e3
                      have HV : Hid (L.take r = (P.take (i + 1)).foldl step ([] : Ps)) := Lib.hid (by
                        rw [← HLN.out, beq_iff_eq.1 h3, step_up', ← HQ.out]; rfl)
                      have HO2 : Hid (wr.ownsRow w.heap.size 9 1 (.slice (some ⟨g, 0, none⟩) r c) r ((L.take r).map strV)) := Lib.hid (by rw [List.map_take]; exact hO)
                      have HQ2 : Hid (r = (L.take r).length) := Lib.hid (by rw [List.length_take, ← HQ.out]; omega)
                      have hr6 : r + 1 ≤ 2000000 := by omega
                      clear HLN hO h4
                      go_wp2_with fail
                      go_roundw
                      case rel => exact ⟨i + 1, r, some ⟨g, 0, none⟩, c, L.take r, by go_num, by go_num, HK.out, by omega, HQ2, HV, HO2, Lib.hid (fun g' hg' => HA.out g' hg'), HB, HC, HS⟩
                      case measure => have := HK.out; simp [intOf]; omega
                    · obtain rfl : q = 0 := by omega
                      have hL : L = [] := List.length_eq_zero_iff.1 HQ.out.symm
                      have HV : Hid (L = (P.take (i + 1)).foldl step ([] : Ps)) := Lib.hid (by rw [← HLN.out, beq_iff_eq.1 h3, hL]; rfl)
                      clear HLN h4 hL
                      go_wp2_with fail
                      go_roundw
                      case rel => exact ⟨i + 1, 0, p, c, L, by go_num, rfl, HK.out, by omega, HQ, HV, HO, HA, HB, HC, HS⟩
                      case measure => have := HK.out; simp [intOf]; omega
                  | false =>
                    have HV : Hid (L ++ [t] = (P.take (i + 1)).foldl step ([] : Ps)) := Lib.hid (by rw [← HLN.out]; unfold step; rw [h1, h2, h3]; rfl)
                    have HQ2 : Hid (q + 1 = (L ++ [t]).length) := Lib.hid (by rw [List.length_append, ← HQ.out]; rfl)
                    clear HLN
                    go_wp2_with (at_builtin; refine wpList_append_text rfl _ _ rfl w.heap.size _ q (L.map strV) rfl (HO.out.alloc _) ⟨wr.heap.size, 0, none⟩ 1 (.string ⟨t.toArray⟩) rfl ?c0 rfl ?c1 ?c2 ?_)
                    case c0 => exact (IsRow.made wr 9 #[.string ⟨t.toArray⟩]).cell 0
                    case c1 => omega
                    case c2 => have := HB.out.size; simp; omega
                    intro v3 w3 hown3 hg3 hbk
                    obtain ⟨g3, c3, rfl, _, _⟩ := own_more hown3
                    have HO3 : Hid (w3.ownsRow w.heap.size 9 1 (.slice (some ⟨g3, 0, none⟩) (q + 1) c3) (q + 1) ((L ++ [t]).map strV)) := Lib.hid (by rw [List.map_append]; exact hown3)
                    have HB3 := Lib.hid ((HB.out.alloc HB.out.size (.cells #[.string ⟨t.toArray⟩] 9)).grown hg3 (by have := HB.out.size; simp; omega) (own_ge HO.out))
                    have hs3 := hg3.size
                    rw [World.size_alloc] at hs3
                    have hneb : some b9 ≠ (Value.slice p q c).ownBlock := fun e => by
                      have h6 := HB9.out
                      have h7 := HL9.out
                      rcases HA.out b9 e.symm with h | h <;> omega
                    have HA3 : Hid (∀ g, (Value.slice (some ⟨g3, 0, none⟩) (q + 1) c3).ownBlock = some g → g < w4.heap.size ∨ w6.heap.size ≤ g) := Lib.hid (fun g hg => by
                      rcases hbk with e | ⟨g', hg', hge⟩
                      · rw [e] at hg; exact HA.out g hg
                      · rw [hg] at hg'; injection hg' with e; subst e; have := HS.out; exact Or.inr (by first | omega | (simp at hge; omega)))
                    have HC3 : Hid (∀ j (h : j < P.length), w3.cell? ⟨b9, j, none⟩ = some (.string ⟨P[j].toArray⟩)) := Lib.hid (fun j hj => by
                      have hb : Below wr.heap.size wr (wr.alloc (.cells #[.string ⟨t.toArray⟩] 9)) := (Below.refl _ _).alloc (Nat.le_refl _) _
                      exact hg3.cell (by rw [hb.cell (World.block_lt_of_cell? wr _ (HC.out j hj))]; exact HC.out j hj) hneb)
                    have HS3 : Hid (w6.heap.size ≤ w3.heap.size) := Lib.hid (by have := HS.out; omega)
                    clear hown3 hg3 hbk hs3 hneb
                    go_wp2_with fail
                    go_roundw
                    case rel => exact ⟨i + 1, q + 1, some ⟨g3, 0, none⟩, c3, L ++ [t], by go_num, rfl, HK.out, by omega, HQ2, HV, HO3, HA3, HB3, HC3, HS3⟩
                    case measure => have := HK.out; simp [intOf]; omega
            · have hji : ¬ (i : Int) < (m : Int) := by omega
              have HLF : Hid (L = LD) := Lib.hid (by rw [HL.out, HLD.out, List.take_of_length_le (by rw [← HMN.out]; omega)])
              have OS : Hid (OwnStrs w.heap.size wr (.slice p q c) L) := Lib.hid (own_texts (t := 9) (by have h := HO.out; rw [HQ.out] at h ⊢; exact h))
              clear HL HO HA HC HS
              go_wp2_with fail
              go_loopw [11, 12] (fun x11 x12 wz => ∃ (j : Nat) (o : List UInt8), x12 = .int .i64 (j : Int) ∧ x11 = .string ⟨o.toArray⟩ ∧ j ≤ q ∧ Hid (o = whole (L.take j)) ∧ Hid (wz = wr)) (fun _ j _ => q - (intOf j).toNat)
              case atStart => exact ⟨0, [], rfl, rfl, Nat.zero_le _, Lib.hid rfl, by first | exact Lib.hid rfl | exact Lib.hid trivial⟩
              case round =>
                obtain ⟨j, o, rfl, rfl, hj, HJ, HZ⟩ := hrel
                obtain rfl := HZ.out
                by_cases hlt2 : j < q
                · have hjl : j < L.length := by rw [← HQ.out]; exact hlt2
                  have hjj : (j : Int) < (q : Int) := by omega
                  have HK2 : Hid (j + 1 ≤ q) := Lib.hid hlt2
                  have hkj : j < 9223372036854775807 := by have := OS.out.texts.max; omega
                  obtain ⟨g, rfl, _, _, hcell⟩ := OS.out.some (by omega)
                  have hce := hcell j hjl
                  have hwl : o.length + (L[j].length + 1) ≤ 300000 := by
                    have h1 := whole_part hjl
                    have h2 := HWL.out
                    rw [← HLF.out] at h2
                    rw [HJ.out]; omega
                  have HJN : Hid (o ++ 47 :: L[j] = whole (L.take (j + 1))) := Lib.hid (by rw [whole_next hjl, ← HJ.out])
                  clear hcell
                  generalize L[j] = t at *
                  obtain ⟨x, hx⟩ : ∃ x, x = o ++ (47 : UInt8) :: t := ⟨_, rfl⟩
                  obtain ⟨y, hy⟩ : ∃ y, y = o ++ [(47 : UInt8)] := ⟨_, rfl⟩
                  have hx1 : ByteArray.mk o.toArray ++ ByteArray.mk #[47] = ⟨y.toArray⟩ := by rw [hy]; apply ByteArray.ext; simp [ByteArray.data_append]
                  have hx2 : ByteArray.mk y.toArray ++ ByteArray.mk t.toArray = ⟨x.toArray⟩ := by rw [hy, hx]; apply ByteArray.ext; simp [ByteArray.data_append]
                  have n0 : ¬ 9223372036854775807 < o.length + 1 := by omega
                  have n1 : ¬ 9223372036854775807 < y.length + t.length := by rw [hy, List.length_append]; simp <;> omega
                  rw [← hx] at HJN
                  clear hx hy
                  go_wp2_with fail
                  go_roundw
                  case rel => exact ⟨j + 1, x, by go_num, rfl, HK2.out, HJN, by first | exact Lib.hid rfl | exact Lib.hid trivial⟩
                  case measure => have := HK2.out; simp [intOf]; omega
                · have hjj : ¬ (j : Int) < (q : Int) := by omega
                  have HOW : Hid (o = whole LD) := Lib.hid (by rw [HJ.out, List.take_of_length_le (by rw [← HQ.out]; omega), HLF.out])
                  have HPO : Hid (pathOf LD = if o == [] then [47] else o) := Lib.hid (by rw [HOW.out]; rfl)
                  clear HJ
                  cases ho : (o == []) with
                  | true =>
                    rw [ho, if_pos rfl] at HPO
                    have HR : Hid (J = ([47], 0)) := Lib.hid (by rw [HJD.out, HPO.out]; rfl)
                    go_wp2_with fail
                    go_ret2
                    exact ⟨by rw [HR.out] <;> rfl, HB.out⟩
                  | false =>
                    rw [ho, if_neg (by decide)] at HPO
                    by_cases h9 : 200 < o.length
                    · have g9 : (200 : Int) < (o.length : Int) := by omega
                      have HR : Hid (J = ([], 5)) := Lib.hid (by rw [HJD.out, HPO.out, if_neg (by omega)])
                      clear h9
                      go_wp2_with fail
                      go_ret2
                      exact ⟨by rw [HR.out] <;> rfl, HB.out⟩
                    · have g9 : ¬ (200 : Int) < (o.length : Int) := by omega
                      have HR : Hid (J = (o, 0)) := Lib.hid (by rw [HJD.out, HPO.out, if_pos (by omega)])
                      clear h9
                      go_wp2_with fail
                      go_ret2
                      exact ⟨by rw [HR.out] <;> rfl, HB.out⟩
        | false =>
          by_cases ge : arg.length = 0
          case pos =>
            have g0 : ¬ (0 : Int) < (arg.length : Int) := by omega
            clear ge
            have HPP := Lib.hid (fun W => rparts_any cwd hc W)
            have HPQ : Hid (0 < (parts cwd).length) := Lib.hid (by unfold parts; rw [if_neg h2]; exact List.length_pos_iff.2 (cutL_ne 47 _))
            have HPF : Hid ((parts cwd).length ≤ 100000) := Lib.hid (Nat.le_trans parts_few hc)
            have hst : start cwd arg = parts cwd := by unfold start; rw [hsl]; rfl
            rw [hst] at HLD
            clear hst h2
            clear hsl
            go_enter Tryd.func13, Tryd.ntmps13
            go_wp2_with (first
              | (go_at_call 11; refine (HM.out _).mono ?_; rintro e w1 ⟨rfl, b1⟩; have B1 := Lib.hid b1; clear b1)
              | (go_at_call 17; refine (HC.out _).mono ?_; rintro e w8 ⟨rfl, h8⟩; obtain rfl := h8.symm)
              | (go_at_call 18; refine (HPP.out _).mono ?_; rintro e w3 ⟨pp, np, kp, rfl, hnp, hop, b3⟩; have NP := Lib.hid hnp; have OP := Lib.hid hop; have B3 := Lib.hid (B1.out.trans (b3.mono B1.out.size)); clear hnp b3; obtain ⟨bp, rfl, _, _, hcp⟩ := hop.some HPQ.out; have HCP := Lib.hid hcp; clear hop hcp)
              | (at_builtin; refine wpList_append_own _ rfl _ _ 31 rfl w.heap.size 9 i0 (.string ByteArray.empty) 1 16 Tryd.underlying31 hi hz0 hz1 hz2 rfl (by decide) _ _ _ rfl (World.ownsRow_nil w3 w.heap.size 9 1) ⟨bp, 0, none⟩ np kp ((parts cwd).map strV) rfl ?c0 ?c1 ?c2 ?c3 ?c4 ?c5 ?_))
            case c0 => rw [List.length_map, Nat.mul_one]; exact NP.out.symm
            case c1 => exact texts_cells' HCP.out
            case c2 => exact texts_one'
            case c3 => have h1 := NP.out; have h2 := HPF.out; unfold maxLen; omega
            case c4 => have h1 := NP.out; have h2 := HPF.out; omega
            case c5 => exact B3.out.size
            intro v4 w4 hown4 hg4 _
            have B5 := Lib.hid (B3.out.grown hg4 B3.out.size (fun k hk => by cases hk))
            have hnp1 : Hid (1 ≤ np) := Lib.hid (by have h1 := NP.out; have h2 := HPQ.out; omega)
            obtain ⟨z, hz⟩ : ∃ z, np = z + 1 := ⟨np - 1, by have := hnp1.out; omega⟩
            subst hz
            obtain ⟨g4, c4, rfl, _, hg4l⟩ := own_more hown4
            have HG4 := Lib.hid hg4l
            have O5 := Lib.hid hown4
            clear hown4 hg4 hg4l
            go_wp2_with (first
              | (go_at_call 25; refine (HX.out _).mono ?_; rintro e w6 ⟨pq, m, km, rfl, hm, ho, b6⟩; have HMN := Lib.hid hm; have OQ := Lib.hid ho; have B6 := Lib.hid b6; clear hm ho b6))
            have BW6 := Lib.hid (B5.out.trans (B6.out.mono B5.out.size))
            have HPN : Hid (0 < P.length) := Lib.hid (List.length_pos_iff.2 HPE.out)
            obtain ⟨b9, rfl, hb9, hl9, hcell9⟩ := OQ.out.some HPN.out
            have HB9 := Lib.hid hb9
            have HL9 := Lib.hid hl9
            have HC9 := Lib.hid hcell9
            have O6 := Lib.hid (own_call O5.out B6.out)
            clear hb9 hl9 hcell9
            go_loopw [8, 10] (fun x8 x10 wr => ∃ (i q : Nat) (p : Option Addr) (c : Nat) (L : Ps), x10 = .int .i64 (i : Int) ∧ x8 = .slice p q c ∧ i ≤ m ∧ q ≤ 100000 + i ∧ Hid (q = L.length) ∧ Hid (L = (P.take i).foldl step (parts cwd)) ∧ Hid (wr.ownsRow w.heap.size 9 1 (.slice p q c) q (L.map strV)) ∧ Hid (∀ g, (Value.slice p q c).ownBlock = some g → g < w4.heap.size ∨ w6.heap.size ≤ g) ∧ Hid (Below w.heap.size w wr) ∧ Hid (∀ j (h : j < P.length), wr.cell? ⟨b9, j, none⟩ = some (.string ⟨P[j].toArray⟩)) ∧ Hid (w6.heap.size ≤ wr.heap.size)) (fun _ i _ => m - (intOf i).toNat)
            case atStart => exact ⟨0, z + 1, some ⟨g4, 0, none⟩, c4, parts cwd, rfl, rfl, Nat.zero_le _, by have h1 := NP.out; have h2 := HPF.out; omega, NP, Lib.hid rfl, O6, Lib.hid (fun g hg => Or.inl (by injection hg with e; subst e; exact HG4.out)), BW6, HC9, Lib.hid (Nat.le_refl _)⟩
            case round =>
              obtain ⟨i, q, p, c, L, rfl, rfl, hi, hq, HQ, HL, HO, HA, HB, HC, HS⟩ := hrel
              by_cases hlt : i < m
              · have him : i < P.length := by rw [← HMN.out]; exact hlt
                have hji : (i : Int) < (m : Int) := by omega
                have HK : Hid (i + 1 ≤ m) := Lib.hid hlt
                have hm6 : m ≤ 200000 := by rw [HMN.out]; exact HPL.out
                have hkm : i < 9223372036854775807 := by omega
                have hce := HC.out i him
                have HLN : Hid (step L P[i] = (P.take (i + 1)).foldl step (parts cwd)) := Lib.hid (by rw [steps_next him, ← HL.out])
                generalize P[i] = t at *
                cases h1 : (t == []) with
                | true =>
                  have HV : Hid (L = (P.take (i + 1)).foldl step (parts cwd)) := Lib.hid (by rw [← HLN.out]; unfold step; rw [h1]; rfl)
                  clear HLN
                  go_wp2_with fail
                  go_roundw
                  case rel => exact ⟨i + 1, q, p, c, L, by go_num, rfl, HK.out, by omega, HQ, HV, HO, HA, HB, HC, HS⟩
                  case measure => have := HK.out; simp [intOf]; omega
                | false =>
                  cases h2 : (t == [46]) with
                  | true =>
                    have HV : Hid (L = (P.take (i + 1)).foldl step (parts cwd)) := Lib.hid (by rw [← HLN.out]; unfold step; rw [h1, h2]; rfl)
                    clear HLN
                    go_wp2_with fail
                    go_roundw
                    case rel => exact ⟨i + 1, q, p, c, L, by go_num, rfl, HK.out, by omega, HQ, HV, HO, HA, HB, HC, HS⟩
                    case measure => have := HK.out; simp [intOf]; omega
                  | false =>
                    cases h3 : (t == [46, 46]) with
                    | true =>
                      by_cases h4 : 0 < q
                      · obtain ⟨r, rfl⟩ : ∃ r, q = r + 1 := ⟨q - 1, by omega⟩
                        obtain ⟨g, cg, he, hsl, hO⟩ := own_cut HO.out
                        injection he with e1 e2 e3
                        subst e1; subst e3
                        have HV : Hid (L.take r = (P.take (i + 1)).foldl step (parts cwd)) := Lib.hid (by
                          rw [← HLN.out, beq_iff_eq.1 h3, step_up', ← HQ.out]; rfl)
                        have HO2 : Hid (wr.ownsRow w.heap.size 9 1 (.slice (some ⟨g, 0, none⟩) r c) r ((L.take r).map strV)) := Lib.hid (by rw [List.map_take]; exact hO)
                        have HQ2 : Hid (r = (L.take r).length) := Lib.hid (by rw [List.length_take, ← HQ.out]; omega)
                        have hr6 : r + 1 ≤ 2000000 := by omega
                        clear HLN hO h4
                        go_wp2_with fail
                        go_roundw
                        case rel => exact ⟨i + 1, r, some ⟨g, 0, none⟩, c, L.take r, by go_num, by go_num, HK.out, by omega, HQ2, HV, HO2, Lib.hid (fun g' hg' => HA.out g' hg'), HB, HC, HS⟩
                        case measure => have := HK.out; simp [intOf]; omega
                      · obtain rfl : q = 0 := by omega
                        have hL : L = [] := List.length_eq_zero_iff.1 HQ.out.symm
                        have HV : Hid (L = (P.take (i + 1)).foldl step (parts cwd)) := Lib.hid (by rw [← HLN.out, beq_iff_eq.1 h3, hL]; rfl)
                        clear HLN h4 hL
                        go_wp2_with fail
                        go_roundw
                        case rel => exact ⟨i + 1, 0, p, c, L, by go_num, rfl, HK.out, by omega, HQ, HV, HO, HA, HB, HC, HS⟩
                        case measure => have := HK.out; simp [intOf]; omega
                    | false =>
                      have HV : Hid (L ++ [t] = (P.take (i + 1)).foldl step (parts cwd)) := Lib.hid (by rw [← HLN.out]; unfold step; rw [h1, h2, h3]; rfl)
                      have HQ2 : Hid (q + 1 = (L ++ [t]).length) := Lib.hid (by rw [List.length_append, ← HQ.out]; rfl)
                      clear HLN
                      go_wp2_with (at_builtin; refine wpList_append_text rfl _ _ rfl w.heap.size _ q (L.map strV) rfl (HO.out.alloc _) ⟨wr.heap.size, 0, none⟩ 1 (.string ⟨t.toArray⟩) rfl ?c0 rfl ?c1 ?c2 ?_)
                      case c0 => exact (IsRow.made wr 9 #[.string ⟨t.toArray⟩]).cell 0
                      case c1 => omega
                      case c2 => have := HB.out.size; simp; omega
                      intro v3 w3 hown3 hg3 hbk
                      obtain ⟨g3, c3, rfl, _, _⟩ := own_more hown3
                      have HO3 : Hid (w3.ownsRow w.heap.size 9 1 (.slice (some ⟨g3, 0, none⟩) (q + 1) c3) (q + 1) ((L ++ [t]).map strV)) := Lib.hid (by rw [List.map_append]; exact hown3)
                      have HB3 := Lib.hid ((HB.out.alloc HB.out.size (.cells #[.string ⟨t.toArray⟩] 9)).grown hg3 (by have := HB.out.size; simp; omega) (own_ge HO.out))
                      have hs3 := hg3.size
                      rw [World.size_alloc] at hs3
                      have hneb : some b9 ≠ (Value.slice p q c).ownBlock := fun e => by
                        have h6 := HB9.out
                        have h7 := HL9.out
                        rcases HA.out b9 e.symm with h | h <;> omega
                      have HA3 : Hid (∀ g, (Value.slice (some ⟨g3, 0, none⟩) (q + 1) c3).ownBlock = some g → g < w4.heap.size ∨ w6.heap.size ≤ g) := Lib.hid (fun g hg => by
                        rcases hbk with e | ⟨g', hg', hge⟩
                        · rw [e] at hg; exact HA.out g hg
                        · rw [hg] at hg'; injection hg' with e; subst e; have := HS.out; exact Or.inr (by first | omega | (simp at hge; omega)))
                      have HC3 : Hid (∀ j (h : j < P.length), w3.cell? ⟨b9, j, none⟩ = some (.string ⟨P[j].toArray⟩)) := Lib.hid (fun j hj => by
                        have hb : Below wr.heap.size wr (wr.alloc (.cells #[.string ⟨t.toArray⟩] 9)) := (Below.refl _ _).alloc (Nat.le_refl _) _
                        exact hg3.cell (by rw [hb.cell (World.block_lt_of_cell? wr _ (HC.out j hj))]; exact HC.out j hj) hneb)
                      have HS3 : Hid (w6.heap.size ≤ w3.heap.size) := Lib.hid (by have := HS.out; omega)
                      clear hown3 hg3 hbk hs3 hneb
                      go_wp2_with fail
                      go_roundw
                      case rel => exact ⟨i + 1, q + 1, some ⟨g3, 0, none⟩, c3, L ++ [t], by go_num, rfl, HK.out, by omega, HQ2, HV, HO3, HA3, HB3, HC3, HS3⟩
                      case measure => have := HK.out; simp [intOf]; omega
              · have hji : ¬ (i : Int) < (m : Int) := by omega
                have HLF : Hid (L = LD) := Lib.hid (by rw [HL.out, HLD.out, List.take_of_length_le (by rw [← HMN.out]; omega)])
                have OS : Hid (OwnStrs w.heap.size wr (.slice p q c) L) := Lib.hid (own_texts (t := 9) (by have h := HO.out; rw [HQ.out] at h ⊢; exact h))
                clear HL HO HA HC HS
                go_wp2_with fail
                go_loopw [11, 12] (fun x11 x12 wz => ∃ (j : Nat) (o : List UInt8), x12 = .int .i64 (j : Int) ∧ x11 = .string ⟨o.toArray⟩ ∧ j ≤ q ∧ Hid (o = whole (L.take j)) ∧ Hid (wz = wr)) (fun _ j _ => q - (intOf j).toNat)
                case atStart => exact ⟨0, [], rfl, rfl, Nat.zero_le _, Lib.hid rfl, by first | exact Lib.hid rfl | exact Lib.hid trivial⟩
                case round =>
                  obtain ⟨j, o, rfl, rfl, hj, HJ, HZ⟩ := hrel
                  obtain rfl := HZ.out
                  by_cases hlt2 : j < q
                  · have hjl : j < L.length := by rw [← HQ.out]; exact hlt2
                    have hjj : (j : Int) < (q : Int) := by omega
                    have HK2 : Hid (j + 1 ≤ q) := Lib.hid hlt2
                    have hkj : j < 9223372036854775807 := by have := OS.out.texts.max; omega
                    obtain ⟨g, rfl, _, _, hcell⟩ := OS.out.some (by omega)
                    have hce := hcell j hjl
                    have hwl : o.length + (L[j].length + 1) ≤ 300000 := by
                      have h1 := whole_part hjl
                      have h2 := HWL.out
                      rw [← HLF.out] at h2
                      rw [HJ.out]; omega
                    have HJN : Hid (o ++ 47 :: L[j] = whole (L.take (j + 1))) := Lib.hid (by rw [whole_next hjl, ← HJ.out])
                    clear hcell
                    generalize L[j] = t at *
                    obtain ⟨x, hx⟩ : ∃ x, x = o ++ (47 : UInt8) :: t := ⟨_, rfl⟩
                    obtain ⟨y, hy⟩ : ∃ y, y = o ++ [(47 : UInt8)] := ⟨_, rfl⟩
                    have hx1 : ByteArray.mk o.toArray ++ ByteArray.mk #[47] = ⟨y.toArray⟩ := by rw [hy]; apply ByteArray.ext; simp [ByteArray.data_append]
                    have hx2 : ByteArray.mk y.toArray ++ ByteArray.mk t.toArray = ⟨x.toArray⟩ := by rw [hy, hx]; apply ByteArray.ext; simp [ByteArray.data_append]
                    have n0 : ¬ 9223372036854775807 < o.length + 1 := by omega
                    have n1 : ¬ 9223372036854775807 < y.length + t.length := by rw [hy, List.length_append]; simp <;> omega
                    rw [← hx] at HJN
                    clear hx hy
                    go_wp2_with fail
                    go_roundw
                    case rel => exact ⟨j + 1, x, by go_num, rfl, HK2.out, HJN, by first | exact Lib.hid rfl | exact Lib.hid trivial⟩
                    case measure => have := HK2.out; simp [intOf]; omega
                  · have hjj : ¬ (j : Int) < (q : Int) := by omega
                    have HOW : Hid (o = whole LD) := Lib.hid (by rw [HJ.out, List.take_of_length_le (by rw [← HQ.out]; omega), HLF.out])
                    have HPO : Hid (pathOf LD = if o == [] then [47] else o) := Lib.hid (by rw [HOW.out]; rfl)
                    clear HJ
                    cases ho : (o == []) with
                    | true =>
                      rw [ho, if_pos rfl] at HPO
                      have HR : Hid (J = ([47], 0)) := Lib.hid (by rw [HJD.out, HPO.out]; rfl)
                      go_wp2_with fail
                      go_ret2
                      exact ⟨by rw [HR.out] <;> rfl, HB.out⟩
                    | false =>
                      rw [ho, if_neg (by decide)] at HPO
                      by_cases h9 : 200 < o.length
                      · have g9 : (200 : Int) < (o.length : Int) := by omega
                        have HR : Hid (J = ([], 5)) := Lib.hid (by rw [HJD.out, HPO.out, if_neg (by omega)])
                        clear h9
                        go_wp2_with fail
                        go_ret2
                        exact ⟨by rw [HR.out] <;> rfl, HB.out⟩
                      · have g9 : ¬ (200 : Int) < (o.length : Int) := by omega
                        have HR : Hid (J = (o, 0)) := Lib.hid (by rw [HJD.out, HPO.out, if_pos (by omega)])
                        clear h9
                        go_wp2_with fail
                        go_ret2
                        exact ⟨by rw [HR.out] <;> rfl, HB.out⟩
          case neg =>
            have gp : 0 < arg.length := by omega
            have hsz : 0 < (ByteArray.mk arg.toArray).size := by simpa [ByteArray.size] using gp
            obtain ⟨ch, hcx⟩ : ∃ c : UInt8, (ByteArray.mk arg.toArray)[0]'hsz = c := ⟨_, rfl⟩
            have hc0 : arg[0] = ch := hcx
            have g0 : (0 : Int) < (arg.length : Int) := by omega
            have g4 : ((ch.toNat : Int) == 47) = false := by
              rw [beq_eq_false_iff_ne]
              intro e
              have hch : ch = 47 := UInt8.toNat.inj (by show ch.toNat = 47; omega)
              have h := hsl
              unfold slash at h
              rw [List.head?_eq_getElem?, List.getElem?_eq_getElem gp, hc0, hch] at h
              simp at h
            clear hc0 ge
            have HPP := Lib.hid (fun W => rparts_any cwd hc W)
            have HPQ : Hid (0 < (parts cwd).length) := Lib.hid (by unfold parts; rw [if_neg h2]; exact List.length_pos_iff.2 (cutL_ne 47 _))
            have HPF : Hid ((parts cwd).length ≤ 100000) := Lib.hid (Nat.le_trans parts_few hc)
            have hst : start cwd arg = parts cwd := by unfold start; rw [hsl]; rfl
            rw [hst] at HLD
            clear hst h2
            clear hsl
            go_enter Tryd.func13, Tryd.ntmps13
            go_wp2_with (first
              | (go_at_call 11; refine (HM.out _).mono ?_; rintro e w1 ⟨rfl, b1⟩; have B1 := Lib.hid b1; clear b1)
              | (go_at_call 17; refine (HC.out _).mono ?_; rintro e w8 ⟨rfl, h8⟩; obtain rfl := h8.symm)
              | (go_at_call 18; refine (HPP.out _).mono ?_; rintro e w3 ⟨pp, np, kp, rfl, hnp, hop, b3⟩; have NP := Lib.hid hnp; have OP := Lib.hid hop; have B3 := Lib.hid (B1.out.trans (b3.mono B1.out.size)); clear hnp b3; obtain ⟨bp, rfl, _, _, hcp⟩ := hop.some HPQ.out; have HCP := Lib.hid hcp; clear hop hcp)
              | (at_builtin; refine wpList_append_own _ rfl _ _ 31 rfl w.heap.size 9 i0 (.string ByteArray.empty) 1 16 Tryd.underlying31 hi hz0 hz1 hz2 rfl (by decide) _ _ _ rfl (World.ownsRow_nil w3 w.heap.size 9 1) ⟨bp, 0, none⟩ np kp ((parts cwd).map strV) rfl ?c0 ?c1 ?c2 ?c3 ?c4 ?c5 ?_))
            case c0 => rw [List.length_map, Nat.mul_one]; exact NP.out.symm
            case c1 => exact texts_cells' HCP.out
            case c2 => exact texts_one'
            case c3 => have h1 := NP.out; have h2 := HPF.out; unfold maxLen; omega
            case c4 => have h1 := NP.out; have h2 := HPF.out; omega
            case c5 => exact B3.out.size
            intro v4 w4 hown4 hg4 _
            have B5 := Lib.hid (B3.out.grown hg4 B3.out.size (fun k hk => by cases hk))
            have hnp1 : Hid (1 ≤ np) := Lib.hid (by have h1 := NP.out; have h2 := HPQ.out; omega)
            obtain ⟨z, hz⟩ : ∃ z, np = z + 1 := ⟨np - 1, by have := hnp1.out; omega⟩
            subst hz
            obtain ⟨g4, c4, rfl, _, hg4l⟩ := own_more hown4
            have HG4 := Lib.hid hg4l
            have O5 := Lib.hid hown4
            clear hown4 hg4 hg4l
            go_wp2_with (first
              | (go_at_call 25; refine (HX.out _).mono ?_; rintro e w6 ⟨pq, m, km, rfl, hm, ho, b6⟩; have HMN := Lib.hid hm; have OQ := Lib.hid ho; have B6 := Lib.hid b6; clear hm ho b6))
            have BW6 := Lib.hid (B5.out.trans (B6.out.mono B5.out.size))
            have HPN : Hid (0 < P.length) := Lib.hid (List.length_pos_iff.2 HPE.out)
            obtain ⟨b9, rfl, hb9, hl9, hcell9⟩ := OQ.out.some HPN.out
            have HB9 := Lib.hid hb9
            have HL9 := Lib.hid hl9
            have HC9 := Lib.hid hcell9
            have O6 := Lib.hid (own_call O5.out B6.out)
            clear hb9 hl9 hcell9
            go_loopw [8, 10] (fun x8 x10 wr => ∃ (i q : Nat) (p : Option Addr) (c : Nat) (L : Ps), x10 = .int .i64 (i : Int) ∧ x8 = .slice p q c ∧ i ≤ m ∧ q ≤ 100000 + i ∧ Hid (q = L.length) ∧ Hid (L = (P.take i).foldl step (parts cwd)) ∧ Hid (wr.ownsRow w.heap.size 9 1 (.slice p q c) q (L.map strV)) ∧ Hid (∀ g, (Value.slice p q c).ownBlock = some g → g < w4.heap.size ∨ w6.heap.size ≤ g) ∧ Hid (Below w.heap.size w wr) ∧ Hid (∀ j (h : j < P.length), wr.cell? ⟨b9, j, none⟩ = some (.string ⟨P[j].toArray⟩)) ∧ Hid (w6.heap.size ≤ wr.heap.size)) (fun _ i _ => m - (intOf i).toNat)
            case atStart => exact ⟨0, z + 1, some ⟨g4, 0, none⟩, c4, parts cwd, rfl, rfl, Nat.zero_le _, by have h1 := NP.out; have h2 := HPF.out; omega, NP, Lib.hid rfl, O6, Lib.hid (fun g hg => Or.inl (by injection hg with e; subst e; exact HG4.out)), BW6, HC9, Lib.hid (Nat.le_refl _)⟩
            case round =>
              obtain ⟨i, q, p, c, L, rfl, rfl, hi, hq, HQ, HL, HO, HA, HB, HC, HS⟩ := hrel
              by_cases hlt : i < m
              · have him : i < P.length := by rw [← HMN.out]; exact hlt
                have hji : (i : Int) < (m : Int) := by omega
                have HK : Hid (i + 1 ≤ m) := Lib.hid hlt
                have hm6 : m ≤ 200000 := by rw [HMN.out]; exact HPL.out
                have hkm : i < 9223372036854775807 := by omega
                have hce := HC.out i him
                have HLN : Hid (step L P[i] = (P.take (i + 1)).foldl step (parts cwd)) := Lib.hid (by rw [steps_next him, ← HL.out])
                generalize P[i] = t at *
                cases h1 : (t == []) with
                | true =>
                  have HV : Hid (L = (P.take (i + 1)).foldl step (parts cwd)) := Lib.hid (by rw [← HLN.out]; unfold step; rw [h1]; rfl)
                  clear HLN
                  go_wp2_with fail
                  go_roundw
                  case rel => exact ⟨i + 1, q, p, c, L, by go_num, rfl, HK.out, by omega, HQ, HV, HO, HA, HB, HC, HS⟩
                  case measure => have := HK.out; simp [intOf]; omega
                | false =>
                  cases h2 : (t == [46]) with
                  | true =>
                    have HV : Hid (L = (P.take (i + 1)).foldl step (parts cwd)) := Lib.hid (by rw [← HLN.out]; unfold step; rw [h1, h2]; rfl)
                    clear HLN
                    go_wp2_with fail
                    go_roundw
                    case rel => exact ⟨i + 1, q, p, c, L, by go_num, rfl, HK.out, by omega, HQ, HV, HO, HA, HB, HC, HS⟩
                    case measure => have := HK.out; simp [intOf]; omega
                  | false =>
                    cases h3 : (t == [46, 46]) with
                    | true =>
                      by_cases h4 : 0 < q
                      · obtain ⟨r, rfl⟩ : ∃ r, q = r + 1 := ⟨q - 1, by omega⟩
                        obtain ⟨g, cg, he, hsl, hO⟩ := own_cut HO.out
                        injection he with e1 e2 e3
                        subst e1; subst e3
                        have HV : Hid (L.take r = (P.take (i + 1)).foldl step (parts cwd)) := Lib.hid (by
                          rw [← HLN.out, beq_iff_eq.1 h3, step_up', ← HQ.out]; rfl)
                        have HO2 : Hid (wr.ownsRow w.heap.size 9 1 (.slice (some ⟨g, 0, none⟩) r c) r ((L.take r).map strV)) := Lib.hid (by rw [List.map_take]; exact hO)
                        have HQ2 : Hid (r = (L.take r).length) := Lib.hid (by rw [List.length_take, ← HQ.out]; omega)
                        have hr6 : r + 1 ≤ 2000000 := by omega
                        clear HLN hO h4
                        go_wp2_with fail
                        go_roundw
                        case rel => exact ⟨i + 1, r, some ⟨g, 0, none⟩, c, L.take r, by go_num, by go_num, HK.out, by omega, HQ2, HV, HO2, Lib.hid (fun g' hg' => HA.out g' hg'), HB, HC, HS⟩
                        case measure => have := HK.out; simp [intOf]; omega
                      · obtain rfl : q = 0 := by omega
                        have hL : L = [] := List.length_eq_zero_iff.1 HQ.out.symm
                        have HV : Hid (L = (P.take (i + 1)).foldl step (parts cwd)) := Lib.hid (by rw [← HLN.out, beq_iff_eq.1 h3, hL]; rfl)
                        clear HLN h4 hL
                        go_wp2_with fail
                        go_roundw
                        case rel => exact ⟨i + 1, 0, p, c, L, by go_num, rfl, HK.out, by omega, HQ, HV, HO, HA, HB, HC, HS⟩
                        case measure => have := HK.out; simp [intOf]; omega
                    | false =>
                      have HV : Hid (L ++ [t] = (P.take (i + 1)).foldl step (parts cwd)) := Lib.hid (by rw [← HLN.out]; unfold step; rw [h1, h2, h3]; rfl)
                      have HQ2 : Hid (q + 1 = (L ++ [t]).length) := Lib.hid (by rw [List.length_append, ← HQ.out]; rfl)
                      clear HLN
                      go_wp2_with (at_builtin; refine wpList_append_text rfl _ _ rfl w.heap.size _ q (L.map strV) rfl (HO.out.alloc _) ⟨wr.heap.size, 0, none⟩ 1 (.string ⟨t.toArray⟩) rfl ?c0 rfl ?c1 ?c2 ?_)
                      case c0 => exact (IsRow.made wr 9 #[.string ⟨t.toArray⟩]).cell 0
                      case c1 => omega
                      case c2 => have := HB.out.size; simp; omega
                      intro v3 w3 hown3 hg3 hbk
                      obtain ⟨g3, c3, rfl, _, _⟩ := own_more hown3
                      have HO3 : Hid (w3.ownsRow w.heap.size 9 1 (.slice (some ⟨g3, 0, none⟩) (q + 1) c3) (q + 1) ((L ++ [t]).map strV)) := Lib.hid (by rw [List.map_append]; exact hown3)
                      have HB3 := Lib.hid ((HB.out.alloc HB.out.size (.cells #[.string ⟨t.toArray⟩] 9)).grown hg3 (by have := HB.out.size; simp; omega) (own_ge HO.out))
                      have hs3 := hg3.size
                      rw [World.size_alloc] at hs3
                      have hneb : some b9 ≠ (Value.slice p q c).ownBlock := fun e => by
                        have h6 := HB9.out
                        have h7 := HL9.out
                        rcases HA.out b9 e.symm with h | h <;> omega
                      have HA3 : Hid (∀ g, (Value.slice (some ⟨g3, 0, none⟩) (q + 1) c3).ownBlock = some g → g < w4.heap.size ∨ w6.heap.size ≤ g) := Lib.hid (fun g hg => by
                        rcases hbk with e | ⟨g', hg', hge⟩
                        · rw [e] at hg; exact HA.out g hg
                        · rw [hg] at hg'; injection hg' with e; subst e; have := HS.out; exact Or.inr (by first | omega | (simp at hge; omega)))
                      have HC3 : Hid (∀ j (h : j < P.length), w3.cell? ⟨b9, j, none⟩ = some (.string ⟨P[j].toArray⟩)) := Lib.hid (fun j hj => by
                        have hb : Below wr.heap.size wr (wr.alloc (.cells #[.string ⟨t.toArray⟩] 9)) := (Below.refl _ _).alloc (Nat.le_refl _) _
                        exact hg3.cell (by rw [hb.cell (World.block_lt_of_cell? wr _ (HC.out j hj))]; exact HC.out j hj) hneb)
                      have HS3 : Hid (w6.heap.size ≤ w3.heap.size) := Lib.hid (by have := HS.out; omega)
                      clear hown3 hg3 hbk hs3 hneb
                      go_wp2_with fail
                      go_roundw
                      case rel => exact ⟨i + 1, q + 1, some ⟨g3, 0, none⟩, c3, L ++ [t], by go_num, rfl, HK.out, by omega, HQ2, HV, HO3, HA3, HB3, HC3, HS3⟩
                      case measure => have := HK.out; simp [intOf]; omega
              · have hji : ¬ (i : Int) < (m : Int) := by omega
                have HLF : Hid (L = LD) := Lib.hid (by rw [HL.out, HLD.out, List.take_of_length_le (by rw [← HMN.out]; omega)])
                have OS : Hid (OwnStrs w.heap.size wr (.slice p q c) L) := Lib.hid (own_texts (t := 9) (by have h := HO.out; rw [HQ.out] at h ⊢; exact h))
                clear HL HO HA HC HS
                go_wp2_with fail
                go_loopw [11, 12] (fun x11 x12 wz => ∃ (j : Nat) (o : List UInt8), x12 = .int .i64 (j : Int) ∧ x11 = .string ⟨o.toArray⟩ ∧ j ≤ q ∧ Hid (o = whole (L.take j)) ∧ Hid (wz = wr)) (fun _ j _ => q - (intOf j).toNat)
                case atStart => exact ⟨0, [], rfl, rfl, Nat.zero_le _, Lib.hid rfl, by first | exact Lib.hid rfl | exact Lib.hid trivial⟩
                case round =>
                  obtain ⟨j, o, rfl, rfl, hj, HJ, HZ⟩ := hrel
                  obtain rfl := HZ.out
                  by_cases hlt2 : j < q
                  · have hjl : j < L.length := by rw [← HQ.out]; exact hlt2
                    have hjj : (j : Int) < (q : Int) := by omega
                    have HK2 : Hid (j + 1 ≤ q) := Lib.hid hlt2
                    have hkj : j < 9223372036854775807 := by have := OS.out.texts.max; omega
                    obtain ⟨g, rfl, _, _, hcell⟩ := OS.out.some (by omega)
                    have hce := hcell j hjl
                    have hwl : o.length + (L[j].length + 1) ≤ 300000 := by
                      have h1 := whole_part hjl
                      have h2 := HWL.out
                      rw [← HLF.out] at h2
                      rw [HJ.out]; omega
                    have HJN : Hid (o ++ 47 :: L[j] = whole (L.take (j + 1))) := Lib.hid (by rw [whole_next hjl, ← HJ.out])
                    clear hcell
                    generalize L[j] = t at *
                    obtain ⟨x, hx⟩ : ∃ x, x = o ++ (47 : UInt8) :: t := ⟨_, rfl⟩
                    obtain ⟨y, hy⟩ : ∃ y, y = o ++ [(47 : UInt8)] := ⟨_, rfl⟩
                    have hx1 : ByteArray.mk o.toArray ++ ByteArray.mk #[47] = ⟨y.toArray⟩ := by rw [hy]; apply ByteArray.ext; simp [ByteArray.data_append]
                    have hx2 : ByteArray.mk y.toArray ++ ByteArray.mk t.toArray = ⟨x.toArray⟩ := by rw [hy, hx]; apply ByteArray.ext; simp [ByteArray.data_append]
                    have n0 : ¬ 9223372036854775807 < o.length + 1 := by omega
                    have n1 : ¬ 9223372036854775807 < y.length + t.length := by rw [hy, List.length_append]; simp <;> omega
                    rw [← hx] at HJN
                    clear hx hy
                    go_wp2_with fail
                    go_roundw
                    case rel => exact ⟨j + 1, x, by go_num, rfl, HK2.out, HJN, by first | exact Lib.hid rfl | exact Lib.hid trivial⟩
                    case measure => have := HK2.out; simp [intOf]; omega
                  · have hjj : ¬ (j : Int) < (q : Int) := by omega
                    have HOW : Hid (o = whole LD) := Lib.hid (by rw [HJ.out, List.take_of_length_le (by rw [← HQ.out]; omega), HLF.out])
                    have HPO : Hid (pathOf LD = if o == [] then [47] else o) := Lib.hid (by rw [HOW.out]; rfl)
                    clear HJ
                    cases ho : (o == []) with
                    | true =>
                      rw [ho, if_pos rfl] at HPO
                      have HR : Hid (J = ([47], 0)) := Lib.hid (by rw [HJD.out, HPO.out]; rfl)
                      go_wp2_with fail
                      go_ret2
                      exact ⟨by rw [HR.out] <;> rfl, HB.out⟩
                    | false =>
                      rw [ho, if_neg (by decide)] at HPO
                      by_cases h9 : 200 < o.length
                      · have g9 : (200 : Int) < (o.length : Int) := by omega
                        have HR : Hid (J = ([], 5)) := Lib.hid (by rw [HJD.out, HPO.out, if_neg (by omega)])
                        clear h9
                        go_wp2_with fail
                        go_ret2
                        exact ⟨by rw [HR.out] <;> rfl, HB.out⟩
                      · have g9 : ¬ (200 : Int) < (o.length : Int) := by omega
                        have HR : Hid (J = (o, 0)) := Lib.hid (by rw [HJD.out, HPO.out, if_pos (by omega)])
                        clear h9
                        go_wp2_with fail
                        go_ret2
                        exact ⟨by rw [HR.out] <;> rfl, HB.out⟩

#print axioms rjoin_any
end Go.Proofs.YtajdlaijdgfhhaaDoor.Pt
