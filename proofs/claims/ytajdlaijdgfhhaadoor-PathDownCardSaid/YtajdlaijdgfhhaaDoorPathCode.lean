/- The contracts of package path: trail's path, Join. -/
import Derived.Test.YtajdlaijdgfhhaaDoorPathMayCode
import Derived.Test.YtajdlaijdgfhhaaDoorPathTrailCode
import Derived.Test.YtajdlaijdgfhhaaDoorPathRefJoin
import Derived.Test.YtajdlaijdgfhhaaDoorEnvBare
namespace Go.Proofs.YtajdlaijdgfhhaaDoor.Pt
open Go.Proofs.YtajdlaijdgfhhaaDoor Go.Proofs.YtajdlaijdgfhhaaDoor.Cm Go.Proofs.YtajdlaijdgfhhaaDoor.Quad
open Go Go.ChangeShapes Go.WideShapes Go.ChangeAt Go.RowKit
set_option maxRecDepth 100000
set_option linter.unusedSimpArgs false
set_option linter.unusedVariables false

theorem joined_any {B K : Nat} (p : Option Addr) (n c : Nat) (L : Ps) (hn : n = L.length) (hl : (whole L).length ≤ 1000000) (hn6 : n ≤ 1000000) (w : World) (h : Strand B K w (.slice p n c) L) :
    Calls Tryd.prog 32 #[.slice p n c, .string ⟨#[47]⟩] w fun e w' => e = .returned (.string ⟨(Lib.join L [47]).toArray⟩) ∧ Below w.heap.size w w' := by
  by_cases h0 : L.length = 0
  · obtain rfl : n = 0 := by omega
    have hL : L = [] := List.length_eq_zero_iff.1 h0
    subst hL
    refine (Tryd.strings_Join_none p c ⟨#[47]⟩ w).mono ?_
    rintro e w' ⟨rfl, rfl⟩
    exact ⟨rfl, Below.refl _ _⟩
  · obtain ⟨g, rfl, hg, hc, hcell⟩ := h.lies (by omega)
    have em : (L.map fun s => (⟨s.toArray⟩ : ByteArray)).map (·.data.toList) = L := by
      rw [List.map_map]
      conv => rhs; rw [← List.map_id L]
      exact List.map_congr_left fun s _ => by simp
    have hj := join_le L
    have c := Tryd.strings_Join g 0 c (L.map fun s => (⟨s.toArray⟩ : ByteArray)) ⟨#[47]⟩ w (fun j x hx => by
      rw [List.getElem?_map] at hx
      rw [Nat.zero_add]
      have hjl : j < L.length := by
        rcases Nat.lt_or_ge j L.length with h | h
        · exact h
        · rw [List.getElem?_eq_none h] at hx; cases hx
      rw [List.getElem?_eq_getElem hjl, Option.map_some] at hx
      rw [← Option.some.inj hx]
      exact hcell j hjl) hg (by rw [List.length_map]; omega) (by rw [List.length_map]; omega) (by rw [em]; show (Lib.join L [47]).length ≤ _; omega)
    rw [em, List.length_map, ← hn] at c
    exact c

def fits (L : Ps) (b : Nat) : Bool := b == 0 && decide ((47 :: Lib.join L [47]).length ≤ 200)

set_option maxHeartbeats 2000000 in
theorem path_any {B K : Nat} (p : Option Addr) (n c : Nat) (L : Ps) (b : Nat) (hn : n = L.length) (hl : (whole L).length ≤ 1000000) (hn6 : n ≤ 1000000) (w : World) (h : Strand B K w (.slice p n c) L) :
    Calls Tryd.prog 24 #[trailV (.slice p n c) (b : Int)] w fun e w' => e = .returned (.tuple #[.string ⟨(47 :: Lib.join L [47]).toArray⟩, .bool (fits L b)]) ∧ Below w.heap.size w w' := by
  have HJ := Lib.hid (fun W hs => joined_any (B := B) (K := K) p n c L hn hl hn6 W hs)
  have HS := Lib.hid h
  have hj : (Lib.join L [47]).length ≤ 1000000 := by have := join_le L; omega
  have hF : fits L b = (b == 0 && decide ((47 :: Lib.join L [47]).length ≤ 200)) := rfl
  generalize fits L b = ft at *
  generalize Lib.join L [47] = t at *
  obtain ⟨y, hy⟩ : ∃ y, y = (47 : UInt8) :: t := ⟨_, rfl⟩
  have hx1 : ByteArray.mk #[47] ++ ByteArray.mk t.toArray = ⟨y.toArray⟩ := by rw [hy]; apply ByteArray.ext; simp [ByteArray.data_append]
  have n0 : ¬ 9223372036854775807 < 1 + t.length := by omega
  have hyl : y.length ≤ 1000001 := by rw [hy, List.length_cons]; omega
  rw [← hy] at hF ⊢
  clear hy h hn hl
  by_cases hb : b = 0
  · have g1 : ((b : Int) == 0) = true := by rw [beq_iff_eq]; omega
    rw [show (b == 0) = true by rw [beq_iff_eq]; exact hb, Bool.true_and] at hF
    clear hb
    by_cases h2 : y.length ≤ 200
    · have g2 : (y.length : Int) ≤ 200 := by omega
      have HF : Hid (ft = true) := Lib.hid (by rw [hF]; exact decide_eq_true h2)
      clear hF h2
      go_enter Tryd.func24, Tryd.ntmps24
      go_wp2_with (go_at_call 32; refine (HJ.out _ (HS.out.alloc _)).mono ?_; rintro e w2 ⟨rfl, b2⟩; have B2 := Lib.hid (((Below.refl _ w).alloc (Nat.le_refl _) _).trans (b2.mono (by simp))); have R := (IsRow.made w 36 #[.slice p n c, .int .i64 (b : Int)]).call b2; have x1 := R.cell 1; clear R b2)
      go_ret2
      exact ⟨by rw [HF.out] <;> rfl, B2.out⟩
    · have g2 : ¬ (y.length : Int) ≤ 200 := by omega
      have g3 : decide ((y.length : Int) ≤ 200) = false := decide_eq_false g2
      have HF : Hid (ft = false) := Lib.hid (by rw [hF]; exact decide_eq_false h2)
      clear hF h2
      go_enter Tryd.func24, Tryd.ntmps24
      go_wp2_with (go_at_call 32; refine (HJ.out _ (HS.out.alloc _)).mono ?_; rintro e w2 ⟨rfl, b2⟩; have B2 := Lib.hid (((Below.refl _ w).alloc (Nat.le_refl _) _).trans (b2.mono (by simp))); have R := (IsRow.made w 36 #[.slice p n c, .int .i64 (b : Int)]).call b2; have x1 := R.cell 1; clear R b2)
      go_ret2
      exact ⟨by rw [HF.out] <;> rfl, B2.out⟩
  · have g1 : ((b : Int) == 0) = false := by rw [beq_eq_false_iff_ne]; omega
    have HF : Hid (ft = false) := Lib.hid (by rw [hF, show (b == 0) = false by rw [beq_eq_false_iff_ne]; exact hb, Bool.false_and])
    clear hF hb
    go_enter Tryd.func24, Tryd.ntmps24
    go_wp2_with (go_at_call 32; refine (HJ.out _ (HS.out.alloc _)).mono ?_; rintro e w2 ⟨rfl, b2⟩; have B2 := Lib.hid (((Below.refl _ w).alloc (Nat.le_refl _) _).trans (b2.mono (by simp))); have R := (IsRow.made w 36 #[.slice p n c, .int .i64 (b : Int)]).call b2; have x1 := R.cell 1; clear R b2)
    go_ret2
    exact ⟨by rw [HF.out] <;> rfl, B2.out⟩

theorem Made.lt {base : Nat} {w : World} {v : Value} {L : Ps} (h : Made base w v L) : ∀ g, v.ownBlock = some g → g < w.heap.size := by
  intro g hg
  rcases h with ⟨rfl, _⟩ | ⟨g', rfl, _, _, h4, _⟩
  · simp [Value.ownBlock] at hg
  · simp only [Value.ownBlock, Option.some.injEq] at hg
    omega
theorem Made.strand_below {base B K : Nat} {w : World} {v : Value} {L : Ps} (h : Made base w v L) (hB : ∀ g, v.ownBlock = some g → g < B) : Strand B K w v L := by
  rcases h with ⟨rfl, rfl⟩ | ⟨g, h1, h2, h3, h4, h5⟩
  · exact Or.inl (World.ownsRow_nil _ _ _ _)
  · exact Or.inr ⟨g, h1, by have := hB g (by rw [h1]; rfl); omega, h4, h2, h5⟩
theorem by_le {L : Ps} {i : Nat} (b : Nat) (t : List UInt8) (hb : b ≤ 100 + i) : (byT L b t).2 ≤ 100 + (i + 1) := by
  unfold byT upT downT
  split
  · show b ≤ _; omega
  · split
    · split
      · show b - 1 ≤ _; omega
      · show 0 ≤ _; omega
    · split
      · show b + 1 ≤ _; omega
      · show b ≤ _; omega
theorem whole_take (l : Ps) (k : Nat) : (whole (l.take k)).length ≤ (whole l).length := by
  have h : whole l = whole (l.take k) ++ whole (l.drop k) := by rw [← whole_append, List.take_append_drop]
  rw [h, List.length_append]; omega
theorem trail_join {cwd arg : List UInt8} {L : Ps} {b : Nat} (hm : mayP cwd = true) (hc : clean arg = true) (ht : Trail (lead cwd arg) L b) : join cwd arg = if fits L b then (47 :: Lib.join L [47], 0) else ([], 5) := by
  unfold fits
  by_cases hb : b = 0
  · subst hb
    have e := ht.same
    rw [show ((0 : Nat) == 0) = true from rfl, Bool.true_and, join_path, e]
    by_cases hl : (pathOf (lead cwd arg)).length ≤ 200
    · rw [decide_eq_true hl, if_pos rfl]; exact join_ok hm hc hl
    · rw [decide_eq_false hl, if_neg (by decide)]; exact join_over hm hc hl
  · rw [show (b == 0) = false by rw [beq_eq_false_iff_ne]; exact hb, Bool.false_and, if_neg (by decide)]
    exact join_over hm hc (ht.over (by omega) (lead_good hm hc))

set_option maxHeartbeats 16000000 in
theorem join_any (cwd arg : List UInt8) (hcl : cwd.length ≤ 100000) (hal : arg.length ≤ 100000) (w : World) (E : Env w) :
    Calls Tryd.prog 12 #[.string ⟨cwd.toArray⟩, .string ⟨arg.toArray⟩] w fun e w' => e = .returned (.tuple #[.string ⟨(join cwd arg).1.toArray⟩, .int .i64 (join cwd arg).2]) ∧ Below w.heap.size w w' := by
  have HP := Lib.hid (partsOf_any cwd hcl w E)
  have HC := Lib.hid (fun W => clean_same arg (by omega) W)
  have HE := Lib.hid E
  unfold GotPost at HP
  cases hmt : mayP cwd with
  | false =>
    have HV := Lib.hid (join_arg (arg := arg) hmt)
    rw [hmt] at HP
    go_enter Tryd.func12, Tryd.ntmps12
    go_wp2_with (go_at_call 19; refine HP.out.mono ?_; rintro e w1 ⟨p1, n1, k1, rfl, hn1, ho1, b1⟩; have N1 := Lib.hid hn1; have O1 := Lib.hid ho1; have B1 := Lib.hid b1; clear HP hn1 ho1 b1)
    go_ret2
    exact ⟨by rw [HV.out] <;> rfl, B1.out⟩
  | true =>
    rw [hmt] at HP
    cases hct : clean arg with
    | false =>
      have HV := Lib.hid (join_form hmt hct)
      rw [hct] at HC
      go_enter Tryd.func12, Tryd.ntmps12
      go_wp2_with (first | (go_at_call 19; refine HP.out.mono ?_; rintro e w1 ⟨p1, n1, k1, rfl, hn1, ho1, b1⟩; have N1 := Lib.hid hn1; have O1 := Lib.hid ho1; have B1 := Lib.hid b1; clear HP hn1 ho1 b1) | (go_at_call 20; refine (HC.out _).mono ?_; rintro e w8 ⟨rfl, h8⟩; obtain rfl := h8.symm))
      go_ret2
      exact ⟨by rw [HV.out] <;> rfl, B1.out⟩
    | true =>
      rw [hct] at HC
      have HH := Lib.hid (fun W => hasp_any arg W)
      have HSP := Lib.hid (fun W EW => split_made arg hal W EW)
      have HLD := Lib.hid (lead_eq cwd arg)
      have hg : got cwd = parts cwd := by unfold got; rw [hmt]; rfl
      rw [hg] at HP
      have HSF := Lib.hid (start_few (a := arg) hmt)
      have hst : start cwd arg = if slash arg then [] else parts cwd := rfl
      have HPL : Hid ((cutL 47 arg).length ≤ 100001) := Lib.hid (by rw [cut_count]; have := List.count_le_length (a := (47 : UInt8)) (l := arg); omega)
      have HWL : Hid ((whole (lead cwd arg)).length ≤ 300000) := Lib.hid (by
        have h1 := whole_steps (cutL 47 arg) (start cwd arg)
        have h2 := whole_start (cwd := cwd) (arg := arg)
        have h3 : (whole (cutL 47 arg)).length = arg.length + 1 := by rw [whole_cut]; rfl
        rw [lead_eq]; omega)
      have HCN : Hid (cutL 47 arg ≠ []) := Lib.hid (cutL_ne 47 arg)
      cases hsl : slash arg with
      | true =>
        rw [hsl] at HH
        rw [hsl, if_pos rfl] at hst
        rw [hst] at HLD HSF
        clear hst hg hsl
        generalize hP : cutL 47 arg = P at *
        obtain ⟨S0, hS0⟩ : ∃ S0 : Ps, S0 = [] := ⟨_, rfl⟩
        rw [← hS0] at HLD HSF
        have HS0 : Hid (S0.length ≤ 100) := HSF
        have N0 : Hid (0 = S0.length) := Lib.hid (by rw [hS0]; rfl)
        have M0' : Hid (∀ W : World, Made w.heap.size W (.slice none 0 0) S0) := Lib.hid (fun W => Or.inl ⟨rfl, hS0⟩)
        clear hS0
        go_enter Tryd.func12, Tryd.ntmps12
        go_wp2_with (first | (go_at_call 19; refine HP.out.mono ?_; rintro e w1 ⟨p1, n1, k1, rfl, hn1, ho1, b1⟩; have N1 := Lib.hid hn1; have O1 := Lib.hid ho1; have B1 := Lib.hid b1; clear HP hn1 ho1 b1) | (go_at_call 20; refine (HC.out _).mono ?_; rintro e w8 ⟨rfl, h8⟩; obtain rfl := h8.symm) | (go_at_call 21; refine (HH.out _).mono ?_; rintro e w7 ⟨rfl, h7⟩; obtain rfl := h7.symm))
        have M0 : Hid (Made w.heap.size w1 (.slice none 0 0) S0) := Lib.hid (M0'.out w1)
        go_wp2_with (go_at_call 22; refine (HSP.out _ ((HE.out.below B1.out).alloc _)).mono ?_; rintro e w2 ⟨p2, n2, k2, rfl, hn2, ho2, b2⟩; have N2 := Lib.hid hn2; have O2 := Lib.hid ho2; have B2 := Lib.hid b2; clear hn2 ho2 b2)
        have hsz : (w1.alloc (.cells #[.slice none 0 0, .int .i64 0] 36)).heap.size = w1.heap.size + 1 := by simp
        have RB : Hid (IsRow w2 w1.heap.size 36 #[.slice none 0 0, .int .i64 0]) := Lib.hid (by exact (IsRow.made w1 _ _).call B2.out)
        have HK : Hid (w1.heap.size < w2.heap.size) := Lib.hid (by have := B2.out.size; rw [hsz] at this; omega)
        have HBB : Hid (Below w.heap.size w w2) := Lib.hid ((B1.out.alloc B1.out.size _).trans (B2.out.mono (by have := B1.out.size; rw [hsz]; omega)))
        have HBW : Hid (w.heap.size ≤ w1.heap.size) := Lib.hid (by exact B1.out.size)
        have ST : Hid (Strand w1.heap.size w2.heap.size w2 (.slice none 0 0) S0) := Lib.hid (((M0.out.call ((Below.refl _ _).alloc (Nat.le_refl _) _)).call B2.out).strand_below (by exact M0.out.lt))
        have HP0 : Hid (0 < P.length) := Lib.hid (List.length_pos_iff.2 HCN.out)
        obtain ⟨b9, rfl, hb9, hl9, hcell9⟩ := O2.out.own.some HP0.out
        have HB9 : Hid (b9 ≠ w1.heap.size ∧ b9 < w2.heap.size) := Lib.hid ⟨by rw [hsz] at hb9; omega, hl9⟩
        have HC9 := Lib.hid hcell9
        clear hb9 hl9 hcell9 hsz
        go_loopw [33] (fun x33 wr => ∃ (i q : Nat) (pp : Option Addr) (c : Nat) (L : Ps) (b : Nat), x33 = .int .i64 (i : Int) ∧ i ≤ n2 ∧ q ≤ 100 ∧ b ≤ 100 + i ∧ Hid (q = L.length) ∧ Hid (Trail ((P.take i).foldl step S0) L b) ∧ Hid (IsRow wr w1.heap.size 36 #[.slice pp q c, .int .i64 (b : Int)]) ∧ Hid (Strand w1.heap.size w2.heap.size wr (.slice pp q c) L) ∧ Hid (∀ j (h : j < P.length), wr.cell? ⟨b9, j, none⟩ = some (.string ⟨P[j].toArray⟩)) ∧ Hid (Below w.heap.size w wr) ∧ Hid (w2.heap.size ≤ wr.heap.size)) (fun i _ => n2 - (intOf i).toNat)
        case atStart => exact ⟨0, _, _, _, S0, 0, rfl, Nat.zero_le _, by rw [N0.out]; exact HS0.out, by omega, N0, Lib.hid (Trail.start HS0.out), RB, ST, HC9, HBB, Lib.hid (Nat.le_refl _)⟩
        case round =>
          obtain ⟨i, q, pp, c, L, b, rfl, hi, hq, hb, HQ, HT, HR, HSt, HCe, HW, HZ⟩ := hrel
          by_cases hlt : i < n2
          · have hil : i < P.length := by rw [← N2.out]; exact hlt
            have hji : (i : Int) < (n2 : Int) := by omega
            have HKN : Hid (i + 1 ≤ n2) := Lib.hid hlt
            have hn6 : n2 ≤ 100001 := by rw [N2.out]; exact HPL.out
            have hkm : i < 9223372036854775807 := by omega
            have hce := HCe.out i hil
            have HLN : Hid (step ((P.take i).foldl step S0) P[i] = (P.take (i + 1)).foldl step S0) := Lib.hid (steps_next hil).symm
            generalize P[i] = t at *
            have HTN := Lib.hid (HT.out.by t)
            rw [HLN.out] at HTN
            have y0 := HR.out.cell 0
            have y1 := HR.out.cell 1
            have f0 := HR.out.free 0
            have f1 := HR.out.free 1
            have HG := Lib.hid (by_any HK.out pp q c L b t HQ.out (by omega) (by omega) wr HZ.out HSt.out)
            have HLE : Hid ((byT L b t).1.length ≤ 100 ∧ (byT L b t).2 ≤ 100 + (i + 1)) := Lib.hid ⟨HTN.out.short, by_le b t hb⟩
            generalize byT L b t = rr at *
            go_wp2_with (go_at_call 23; refine HG.out.mono ?_; rintro e w3 ⟨q3, m3, d3, rfl, hm3, hg3⟩; have HM3 := Lib.hid hm3; have HG3 := Lib.hid hg3; have R3 := HR.out.below hg3.below HK.out; have HR3 := Lib.hid R3; have z0 := R3.cell 0; have z1 := R3.cell 1; have e0 := R3.free 0; have e1 := R3.free 1; clear hm3 hg3 R3)
            generalize hW : World.setCell _ _ _ = W9
            have FR : Hid (IsRow W9 w1.heap.size 36 #[.slice q3 m3 d3, .int .i64 (rr.2 : Int)]) := Lib.hid (by rw [← hW]; exact (HR3.out.set 0 _).set 1 _)
            have S9 : Hid (Strand w1.heap.size w2.heap.size W9 (.slice q3 m3 d3) rr.1) := Lib.hid (by rw [← hW]; exact (HG3.out.strand.set HK.out (a := ⟨w1.heap.size, 0, none⟩) rfl _).set HK.out (a := ⟨w1.heap.size, 1, none⟩) rfl _)
            have C9 : Hid (∀ j (h : j < P.length), W9.cell? ⟨b9, j, none⟩ = some (.string ⟨P[j].toArray⟩)) := Lib.hid (fun j hj => by
              rw [← hW, World.cell?_of_block (w := World.setCell w3 ⟨w1.heap.size, 0, none⟩ _) (a := ⟨b9, j, none⟩) (Below.heap_setCell _ ⟨w1.heap.size, 1, none⟩ _ b9 HB9.out.1), World.cell?_of_block (w := w3) (a := ⟨b9, j, none⟩) (Below.heap_setCell _ ⟨w1.heap.size, 0, none⟩ _ b9 HB9.out.1), HG3.out.below.cell (p := ⟨b9, j, none⟩) HB9.out.2]
              exact HCe.out j hj)
            have BL : Hid (Below w.heap.size w W9) := Lib.hid (by
              rw [← hW]
              exact ((HW.out.trans (HG3.out.below.mono (by have := HBB.out.size; omega))).setCell (p := ⟨w1.heap.size, 0, none⟩) HBW.out _).setCell (p := ⟨w1.heap.size, 1, none⟩) HBW.out _)
            have Z9 : Hid (w2.heap.size ≤ W9.heap.size) := Lib.hid (by
              rw [← hW]
              have h1 := HG3.out.size
              have h2 := HZ.out
              simp [World.setCell] <;> omega)
            clear hW
            go_wp2_with fail
            go_roundw
            case rel => exact ⟨i + 1, m3, q3, d3, rr.1, rr.2, by go_num, HKN.out, by rw [HM3.out]; exact HLE.out.1, HLE.out.2, HM3, HTN, FR, S9, C9, BL, Z9⟩
            case measure => have := HKN.out; simp [intOf]; omega
          · have hji : ¬ (i : Int) < (n2 : Int) := by omega
            have HTL : Hid (Trail (lead cwd arg) L b) := Lib.hid (by
              have h := HT.out
              rw [List.take_of_length_le (by rw [← N2.out]; omega)] at h
              rw [HLD.out]; exact h)
            have HWL2 : Hid ((whole L).length ≤ 1000000) := Lib.hid (by have h1 := whole_take (lead cwd arg) 100; rw [← HTL.out.eq] at h1; have h2 := HWL.out; omega)
            have HJN := Lib.hid (trail_join hmt hct HTL.out)
            have y0 := HR.out.cell 0
            have y1 := HR.out.cell 1
            have HPA := Lib.hid (path_any pp q c L b HQ.out HWL2.out (by omega) wr HSt.out)
            cases hft : fits L b with
            | false =>
              rw [hft] at HPA HJN
              have HV : Hid (join cwd arg = ([], 5)) := Lib.hid HJN.out
              go_wp2_with (go_at_call 24; refine HPA.out.mono ?_; rintro e w5 ⟨rfl, b5⟩; have B5 := Lib.hid (HW.out.trans (b5.mono (by have := HBB.out.size; have := HZ.out; omega))); clear b5)
              go_ret2
              exact ⟨by rw [HV.out] <;> rfl, B5.out⟩
            | true =>
              rw [hft] at HPA HJN
              have HV : Hid (join cwd arg = (47 :: Lib.join L [47], 0)) := Lib.hid HJN.out
              generalize 47 :: Lib.join L [47] = res at *
              go_wp2_with (go_at_call 24; refine HPA.out.mono ?_; rintro e w5 ⟨rfl, b5⟩; have B5 := Lib.hid (HW.out.trans (b5.mono (by have := HBB.out.size; have := HZ.out; omega))); clear b5)
              go_ret2
              exact ⟨by rw [HV.out] <;> rfl, B5.out⟩
      | false =>
        rw [hsl] at HH
        rw [hsl, if_neg (by decide)] at hst
        rw [hst] at HLD HSF
        clear hst hg hsl
        generalize hP : cutL 47 arg = P at *
        generalize parts cwd = S0 at *
        have HS0 : Hid (S0.length ≤ 100) := HSF
        go_enter Tryd.func12, Tryd.ntmps12
        go_wp2_with (first | (go_at_call 19; refine HP.out.mono ?_; rintro e w1 ⟨p1, n1, k1, rfl, hn1, ho1, b1⟩; have N1 := Lib.hid hn1; have O1 := Lib.hid ho1; have B1 := Lib.hid b1; clear HP hn1 ho1 b1) | (go_at_call 20; refine (HC.out _).mono ?_; rintro e w8 ⟨rfl, h8⟩; obtain rfl := h8.symm) | (go_at_call 21; refine (HH.out _).mono ?_; rintro e w7 ⟨rfl, h7⟩; obtain rfl := h7.symm))
        have N0 := N1
        have M0 := O1
        go_wp2_with (go_at_call 22; refine (HSP.out _ ((HE.out.below B1.out).alloc _)).mono ?_; rintro e w2 ⟨p2, n2, k2, rfl, hn2, ho2, b2⟩; have N2 := Lib.hid hn2; have O2 := Lib.hid ho2; have B2 := Lib.hid b2; clear hn2 ho2 b2)
        have hsz : (w1.alloc (.cells #[.slice p1 n1 k1, .int .i64 0] 36)).heap.size = w1.heap.size + 1 := by simp
        have RB : Hid (IsRow w2 w1.heap.size 36 #[.slice p1 n1 k1, .int .i64 0]) := Lib.hid (by exact (IsRow.made w1 _ _).call B2.out)
        have HK : Hid (w1.heap.size < w2.heap.size) := Lib.hid (by have := B2.out.size; rw [hsz] at this; omega)
        have HBB : Hid (Below w.heap.size w w2) := Lib.hid ((B1.out.alloc B1.out.size _).trans (B2.out.mono (by have := B1.out.size; rw [hsz]; omega)))
        have HBW : Hid (w.heap.size ≤ w1.heap.size) := Lib.hid (by exact B1.out.size)
        have ST : Hid (Strand w1.heap.size w2.heap.size w2 (.slice p1 n1 k1) S0) := Lib.hid (((M0.out.call ((Below.refl _ _).alloc (Nat.le_refl _) _)).call B2.out).strand_below (by exact M0.out.lt))
        have HP0 : Hid (0 < P.length) := Lib.hid (List.length_pos_iff.2 HCN.out)
        obtain ⟨b9, rfl, hb9, hl9, hcell9⟩ := O2.out.own.some HP0.out
        have HB9 : Hid (b9 ≠ w1.heap.size ∧ b9 < w2.heap.size) := Lib.hid ⟨by rw [hsz] at hb9; omega, hl9⟩
        have HC9 := Lib.hid hcell9
        clear hb9 hl9 hcell9 hsz
        go_loopw [33] (fun x33 wr => ∃ (i q : Nat) (pp : Option Addr) (c : Nat) (L : Ps) (b : Nat), x33 = .int .i64 (i : Int) ∧ i ≤ n2 ∧ q ≤ 100 ∧ b ≤ 100 + i ∧ Hid (q = L.length) ∧ Hid (Trail ((P.take i).foldl step S0) L b) ∧ Hid (IsRow wr w1.heap.size 36 #[.slice pp q c, .int .i64 (b : Int)]) ∧ Hid (Strand w1.heap.size w2.heap.size wr (.slice pp q c) L) ∧ Hid (∀ j (h : j < P.length), wr.cell? ⟨b9, j, none⟩ = some (.string ⟨P[j].toArray⟩)) ∧ Hid (Below w.heap.size w wr) ∧ Hid (w2.heap.size ≤ wr.heap.size)) (fun i _ => n2 - (intOf i).toNat)
        case atStart => exact ⟨0, _, _, _, S0, 0, rfl, Nat.zero_le _, by rw [N0.out]; exact HS0.out, by omega, N0, Lib.hid (Trail.start HS0.out), RB, ST, HC9, HBB, Lib.hid (Nat.le_refl _)⟩
        case round =>
          obtain ⟨i, q, pp, c, L, b, rfl, hi, hq, hb, HQ, HT, HR, HSt, HCe, HW, HZ⟩ := hrel
          by_cases hlt : i < n2
          · have hil : i < P.length := by rw [← N2.out]; exact hlt
            have hji : (i : Int) < (n2 : Int) := by omega
            have HKN : Hid (i + 1 ≤ n2) := Lib.hid hlt
            have hn6 : n2 ≤ 100001 := by rw [N2.out]; exact HPL.out
            have hkm : i < 9223372036854775807 := by omega
            have hce := HCe.out i hil
            have HLN : Hid (step ((P.take i).foldl step S0) P[i] = (P.take (i + 1)).foldl step S0) := Lib.hid (steps_next hil).symm
            generalize P[i] = t at *
            have HTN := Lib.hid (HT.out.by t)
            rw [HLN.out] at HTN
            have y0 := HR.out.cell 0
            have y1 := HR.out.cell 1
            have f0 := HR.out.free 0
            have f1 := HR.out.free 1
            have HG := Lib.hid (by_any HK.out pp q c L b t HQ.out (by omega) (by omega) wr HZ.out HSt.out)
            have HLE : Hid ((byT L b t).1.length ≤ 100 ∧ (byT L b t).2 ≤ 100 + (i + 1)) := Lib.hid ⟨HTN.out.short, by_le b t hb⟩
            generalize byT L b t = rr at *
            go_wp2_with (go_at_call 23; refine HG.out.mono ?_; rintro e w3 ⟨q3, m3, d3, rfl, hm3, hg3⟩; have HM3 := Lib.hid hm3; have HG3 := Lib.hid hg3; have R3 := HR.out.below hg3.below HK.out; have HR3 := Lib.hid R3; have z0 := R3.cell 0; have z1 := R3.cell 1; have e0 := R3.free 0; have e1 := R3.free 1; clear hm3 hg3 R3)
            generalize hW : World.setCell _ _ _ = W9
            have FR : Hid (IsRow W9 w1.heap.size 36 #[.slice q3 m3 d3, .int .i64 (rr.2 : Int)]) := Lib.hid (by rw [← hW]; exact (HR3.out.set 0 _).set 1 _)
            have S9 : Hid (Strand w1.heap.size w2.heap.size W9 (.slice q3 m3 d3) rr.1) := Lib.hid (by rw [← hW]; exact (HG3.out.strand.set HK.out (a := ⟨w1.heap.size, 0, none⟩) rfl _).set HK.out (a := ⟨w1.heap.size, 1, none⟩) rfl _)
            have C9 : Hid (∀ j (h : j < P.length), W9.cell? ⟨b9, j, none⟩ = some (.string ⟨P[j].toArray⟩)) := Lib.hid (fun j hj => by
              rw [← hW, World.cell?_of_block (w := World.setCell w3 ⟨w1.heap.size, 0, none⟩ _) (a := ⟨b9, j, none⟩) (Below.heap_setCell _ ⟨w1.heap.size, 1, none⟩ _ b9 HB9.out.1), World.cell?_of_block (w := w3) (a := ⟨b9, j, none⟩) (Below.heap_setCell _ ⟨w1.heap.size, 0, none⟩ _ b9 HB9.out.1), HG3.out.below.cell (p := ⟨b9, j, none⟩) HB9.out.2]
              exact HCe.out j hj)
            have BL : Hid (Below w.heap.size w W9) := Lib.hid (by
              rw [← hW]
              exact ((HW.out.trans (HG3.out.below.mono (by have := HBB.out.size; omega))).setCell (p := ⟨w1.heap.size, 0, none⟩) HBW.out _).setCell (p := ⟨w1.heap.size, 1, none⟩) HBW.out _)
            have Z9 : Hid (w2.heap.size ≤ W9.heap.size) := Lib.hid (by
              rw [← hW]
              have h1 := HG3.out.size
              have h2 := HZ.out
              simp [World.setCell] <;> omega)
            clear hW
            go_wp2_with fail
            go_roundw
            case rel => exact ⟨i + 1, m3, q3, d3, rr.1, rr.2, by go_num, HKN.out, by rw [HM3.out]; exact HLE.out.1, HLE.out.2, HM3, HTN, FR, S9, C9, BL, Z9⟩
            case measure => have := HKN.out; simp [intOf]; omega
          · have hji : ¬ (i : Int) < (n2 : Int) := by omega
            have HTL : Hid (Trail (lead cwd arg) L b) := Lib.hid (by
              have h := HT.out
              rw [List.take_of_length_le (by rw [← N2.out]; omega)] at h
              rw [HLD.out]; exact h)
            have HWL2 : Hid ((whole L).length ≤ 1000000) := Lib.hid (by have h1 := whole_take (lead cwd arg) 100; rw [← HTL.out.eq] at h1; have h2 := HWL.out; omega)
            have HJN := Lib.hid (trail_join hmt hct HTL.out)
            have y0 := HR.out.cell 0
            have y1 := HR.out.cell 1
            have HPA := Lib.hid (path_any pp q c L b HQ.out HWL2.out (by omega) wr HSt.out)
            cases hft : fits L b with
            | false =>
              rw [hft] at HPA HJN
              have HV : Hid (join cwd arg = ([], 5)) := Lib.hid HJN.out
              go_wp2_with (go_at_call 24; refine HPA.out.mono ?_; rintro e w5 ⟨rfl, b5⟩; have B5 := Lib.hid (HW.out.trans (b5.mono (by have := HBB.out.size; have := HZ.out; omega))); clear b5)
              go_ret2
              exact ⟨by rw [HV.out] <;> rfl, B5.out⟩
            | true =>
              rw [hft] at HPA HJN
              have HV : Hid (join cwd arg = (47 :: Lib.join L [47], 0)) := Lib.hid HJN.out
              generalize 47 :: Lib.join L [47] = res at *
              go_wp2_with (go_at_call 24; refine HPA.out.mono ?_; rintro e w5 ⟨rfl, b5⟩; have B5 := Lib.hid (HW.out.trans (b5.mono (by have := HBB.out.size; have := HZ.out; omega))); clear b5)
              go_ret2
              exact ⟨by rw [HV.out] <;> rfl, B5.out⟩

#print axioms path_any
#print axioms join_any
end Go.Proofs.YtajdlaijdgfhhaaDoor.Pt
