/- Proved: for every reply the law ReplyBack of layer 9 answers true. Conditions: none beyond the row's own (the library's variables start as the program's text lays them: the card ties them). -/
import Derived.Test.YtbojjbnmjhblfaaDoorReplyAwake
import Derived.BigQuiet
import Derived.Deep.QuietTactic
import Derived.LoopTactic
import Derived.WalkMore
import Derived.Deep.RegionLaw
import Derived.Deep.RegionHeld
import Derived.IntWalk
import Derived.Test.YtbojjbnmjhblfaaDoorTwo

namespace Go.Proofs.YtbojjbnmjhblfaaDoor.replyBack
open Go.Proofs.YtbojjbnmjhblfaaDoor Go.Proofs.YtbojjbnmjhblfaaDoor.Rp Go.Proofs.YtbojjbnmjhblfaaDoor.Cm Go.Proofs.YtbojjbnmjhblfaaDoor.Quad
open Go.ChangeShapes Go.WideShapes Go.ChangeAt Go.RowKit Go.Sort Go.ChangeMaps

/-- what stands ahead of the line at k, or behind the last one -/
def gAt (c : Int) (l : Ls) (k : Nat) : Ga := if k = l.length then Ga.none else before c l k
theorem gAt_code {c : Int} {l : Ls} {k : Nat} : (gAt c l k).code = 0 ∨ (gAt c l k).code = c := by
  unfold gAt before
  split
  · exact Or.inl rfl
  · split
    · exact Or.inl rfl
    · exact Or.inr rfl
theorem gAt_len {c : Int} {l : Ls} {k : Nat} : (gAt c l k).lines.length ≤ l.length := by
  unfold gAt before
  split
  · exact Nat.zero_le _
  · split
    · exact Nat.zero_le _
    · show (l.take k).length ≤ l.length
      rw [List.length_take]; omega
theorem take_n (c : Int) (lo : -9223372036854775808 ≤ c) (hi : c ≤ 9223372036854775807) (u : Value) (o : Bool) (l : Ls) (s : List UInt8) (hl : l.length ≤ 1000) (hs : s.length ≤ 100000) (T : Tk) (hT : take ⟨c, l, o⟩ s = T) (w : World) (E : Env w) (Y : TextsIs w u l) :
    Calls Tryd.prog 17 #[gatherV c u o, .string ⟨s.toArray⟩] w fun e w' => (∃ p n c q m d, e = .returned (.tuple #[gatherV T.g.code (.slice p n c) T.g.isOpen, replyV T.code (.slice q m d), .bool T.done, .int .i64 T.err]) ∧ n = T.g.lines.length ∧ m = T.lines.length ∧ OwnStrs w.heap.size w' (.slice p n c) T.g.lines ∧ OwnStrs w.heap.size w' (.slice q m d) T.lines) ∧ Below w.heap.size w w' := by
  refine (take_at c lo hi u o l s hl hs T hT w E Y).mono ?_
  rintro e w' ⟨⟨p, c, q, d, h1, h2, h3⟩, hb⟩
  exact ⟨⟨p, _, c, q, _, d, h1, rfl, rfl, h2, h3⟩, hb⟩

set_option linter.unusedVariables false in
set_option maxHeartbeats 8000000 in
set_option maxRecDepth 100000 in
theorem walk (c0 : Int) (u0 : Value) (s0 : List (List UInt8)) (l0 : -9223372036854775808 ≤ c0) (h0 : c0 ≤ 9223372036854775807) (z0 : ∀ s ∈ s0, s.length ≤ 9223372036854775807) (w : World) (y0 : StrsIs w u0 s0) (E : Env w) :
    Calls Tryd.prog 4 #[replyV c0 u0] w fun e w' => e = .returned (.bool true) ∧ Below w.heap.size w w' := by
  have Y0 := Lib.hid y0.texts
  obtain ⟨p0, n0, k0, rfl, hn0⟩ := y0.texts.form3
  have HN0 := Lib.hid hn0
  clear hn0
  have HF0 := Lib.hid (fun W Y => few_below (.slice p0 n0 k0) s0 W Y)
  have HFP0 := Lib.hid (fun h => few_parts (l := s0) h)
  clear y0
  have HP := Lib.hid (fun W E Y => print_n c0 l0 h0 (.slice p0 n0 k0) s0 z0 _ rfl W E Y)
  cases hf0 : few s0 with
  | false =>
    rw [hf0] at HF0
    generalize Rp.print c0 s0 = P at HP
    obtain ⟨pl, pb⟩ := P
    simp only at HP
    have B0 := Lib.hid (Below.refl w.heap.size w)
    go_enter Tryd.func4, Tryd.ntmps4
    go_wp2_with (first
          | (go_at_call 8; refine (awake_any _ (E.below ((B0.out).alloc B0.out.size (.cells #[.int .i64 c0, .slice p0 n0 k0] 24)))).mono ?_; rintro e w1 ⟨rfl, b1⟩; have B1 := Lib.hid (((B0.out).alloc B0.out.size (.cells #[.int .i64 c0, .slice p0 n0 k0] 24)).trans (b1.mono (by have := B0.out.size; simp <;> omega))); have xr1 := Lib.hid ((IsRow.made w 24 #[.int .i64 c0, .slice p0 n0 k0]).call b1); have xrc0 : w1.cell? ⟨w.heap.size, 0, none⟩ = some (.int .i64 c0) := xr1.out.cell 0; have xrc1 : w1.cell? ⟨w.heap.size, 1, none⟩ = some (.slice p0 n0 k0) := xr1.out.cell 1; have xrlt : w.heap.size < w1.heap.size := xr1.out.lt)
          | (go_at_call 9; refine (HF0.out _ (Y0.out.call (B1.out))).mono ?_; rintro e w2 ⟨rfl, b2⟩; have B2 := Lib.hid (B1.out.trans (b2.mono B1.out.size)); have xr2 := Lib.hid (xr1.out.call b2); clear xrc0 xrc1 xrlt; have xrc0 : w2.cell? ⟨w.heap.size, 0, none⟩ = some (.int .i64 c0) := xr2.out.cell 0; have xrc1 : w2.cell? ⟨w.heap.size, 1, none⟩ = some (.slice p0 n0 k0) := xr2.out.cell 1; have xrlt : w.heap.size < w2.heap.size := xr2.out.lt; clear HF0; clear xr1)
          | (go_at_call 11; refine (HP.out _ (E.below (B2.out)) (Y0.out.call (B2.out))).mono ?_; rintro e w3 ⟨⟨px, nx, kx, rfl, hnx, ox⟩, b3⟩; have B3 := Lib.hid (B2.out.trans (b3.mono B2.out.size)); have xr3 := Lib.hid (xr2.out.call b3); clear xrc0 xrc1 xrlt; clear hnx ox; clear xr2))
    all_goals (go_ret; exact ⟨by first | rfl | (simp; done) | (simp; omega), B3.out⟩)
  | true =>
    rw [hf0] at HF0
    obtain ⟨hl0, hs0⟩ := HFP0.out hf0
    cases hm0 : mayB c0 s0 with
    | false =>
      rw [show Rp.print c0 s0 = ([], false) from by unfold Rp.print; rw [hm0]; rfl] at HP
      simp only [List.length_nil] at HP
      clear hs0 hf0 hm0
      have B0 := Lib.hid (Below.refl w.heap.size w)
      go_enter Tryd.func4, Tryd.ntmps4
      go_wp2_with (first
            | (go_at_call 8; refine (awake_any _ (E.below ((B0.out).alloc B0.out.size (.cells #[.int .i64 c0, .slice p0 n0 k0] 24)))).mono ?_; rintro e w1 ⟨rfl, b1⟩; have B1 := Lib.hid (((B0.out).alloc B0.out.size (.cells #[.int .i64 c0, .slice p0 n0 k0] 24)).trans (b1.mono (by have := B0.out.size; simp <;> omega))); have xr1 := Lib.hid ((IsRow.made w 24 #[.int .i64 c0, .slice p0 n0 k0]).call b1); have xrc0 : w1.cell? ⟨w.heap.size, 0, none⟩ = some (.int .i64 c0) := xr1.out.cell 0; have xrc1 : w1.cell? ⟨w.heap.size, 1, none⟩ = some (.slice p0 n0 k0) := xr1.out.cell 1; have xrlt : w.heap.size < w1.heap.size := xr1.out.lt)
            | (go_at_call 9; refine (HF0.out _ (Y0.out.call (B1.out))).mono ?_; rintro e w2 ⟨rfl, b2⟩; have B2 := Lib.hid (B1.out.trans (b2.mono B1.out.size)); have xr2 := Lib.hid (xr1.out.call b2); clear xrc0 xrc1 xrlt; have xrc0 : w2.cell? ⟨w.heap.size, 0, none⟩ = some (.int .i64 c0) := xr2.out.cell 0; have xrc1 : w2.cell? ⟨w.heap.size, 1, none⟩ = some (.slice p0 n0 k0) := xr2.out.cell 1; have xrlt : w.heap.size < w2.heap.size := xr2.out.lt; clear HF0; clear xr1)
            | (go_at_call 11; refine (HP.out _ (E.below (B2.out)) (Y0.out.call (B2.out))).mono ?_; rintro e w3 ⟨⟨px, nx, kx, rfl, hnx, ox⟩, b3⟩; have B3 := Lib.hid (B2.out.trans (b3.mono B2.out.size)); have xr3 := Lib.hid (xr2.out.call b3); clear xrc0 xrc1 xrlt; have xrc0 : w3.cell? ⟨w.heap.size, 0, none⟩ = some (.int .i64 c0) := xr3.out.cell 0; have xrc1 : w3.cell? ⟨w.heap.size, 1, none⟩ = some (.slice p0 n0 k0) := xr3.out.cell 1; have xrlt : w.heap.size < w3.heap.size := xr3.out.lt; subst hnx; clear ox; clear xr2))
      all_goals (go_ret; exact ⟨by first | rfl | (simp; done) | (simp; omega), B3.out⟩)
    | true =>
      rw [show Rp.print c0 s0 = (linesOf c0 s0, true) from by unfold Rp.print; rw [hm0]; rfl] at HP
      have M := may_parts hm0
      have HMY := Lib.hid M
      have hone := M.one
      have hx0 : (linesOf c0 s0).length = s0.length := by unfold linesOf; exact lines_len _ _ _
      have HLA : Hid (∀ i (h : i < (linesOf c0 s0).length) (h' : i < s0.length), (linesOf c0 s0)[i].length ≤ 504 ∧ take (before c0 s0 i) (linesOf c0 s0)[i] = if i + 1 = s0.length then ⟨Ga.none, c0, s0, true, 0⟩ else ⟨before c0 s0 (i + 1), 0, [], false, 0⟩) := Lib.hid (fun i h h' => by
        unfold linesOf at h ⊢
        rw [lines_at h h']
        exact ⟨(line_clean M h').2, take_line M h'⟩)
      clear M hm0 hs0 hf0
      generalize linesOf c0 s0 = xl at HP HLA hx0
      have hxp : 0 < xl.length := by omega
      obtain ⟨m, hm⟩ : ∃ m, s0.length = m + 1 := ⟨s0.length - 1, by omega⟩
      have HXL : Hid (xl.length = m + 1) := Lib.hid (by omega)
      have HSL := Lib.hid hm
      have hm30 : m < 30 := by omega
      have HN : Hid (n0 = m + 1) := Lib.hid (by have := HN0.out; omega)
      have HSa := Lib.hid (fun q mm d W EW YA YB => same_any c0 c0 (.slice p0 n0 k0) (.slice q mm d) s0 s0 (by omega) W EW YA YB)
      rw [show same c0 s0 c0 s0 = true from same_yes] at HSa
      clear hx0 hm hl0 hone
      simp only at HP
      have B0 := Lib.hid (Below.refl w.heap.size w)
      go_enter Tryd.func4, Tryd.ntmps4
      go_wp2_with (first
            | (go_at_call 8; refine (awake_any _ (E.below ((B0.out).alloc B0.out.size (.cells #[.int .i64 c0, .slice p0 n0 k0] 24)))).mono ?_; rintro e w1 ⟨rfl, b1⟩; have B1 := Lib.hid (((B0.out).alloc B0.out.size (.cells #[.int .i64 c0, .slice p0 n0 k0] 24)).trans (b1.mono (by have := B0.out.size; simp <;> omega))); have xr1 := Lib.hid ((IsRow.made w 24 #[.int .i64 c0, .slice p0 n0 k0]).call b1); have xrc0 : w1.cell? ⟨w.heap.size, 0, none⟩ = some (.int .i64 c0) := xr1.out.cell 0; have xrc1 : w1.cell? ⟨w.heap.size, 1, none⟩ = some (.slice p0 n0 k0) := xr1.out.cell 1; have xrlt : w.heap.size < w1.heap.size := xr1.out.lt)
            | (go_at_call 9; refine (HF0.out _ (Y0.out.call (B1.out))).mono ?_; rintro e w2 ⟨rfl, b2⟩; have B2 := Lib.hid (B1.out.trans (b2.mono B1.out.size)); have xr2 := Lib.hid (xr1.out.call b2); clear xrc0 xrc1 xrlt; have xrc0 : w2.cell? ⟨w.heap.size, 0, none⟩ = some (.int .i64 c0) := xr2.out.cell 0; have xrc1 : w2.cell? ⟨w.heap.size, 1, none⟩ = some (.slice p0 n0 k0) := xr2.out.cell 1; have xrlt : w.heap.size < w2.heap.size := xr2.out.lt; clear HF0; clear xr1)
            | (go_at_call 11; refine (HP.out _ (E.below (B2.out)) (Y0.out.call (B2.out))).mono ?_; rintro e w3 ⟨⟨px, nx, kx, rfl, hnx, ox⟩, b3⟩; have B3 := Lib.hid (B2.out.trans (b3.mono B2.out.size)); have xr3 := Lib.hid (xr2.out.call b3); clear xrc0 xrc1 xrlt; obtain ⟨bx, rfl, _, hbx, hcx⟩ := ox.some hxp; have hnm : nx = m + 1 := hnx.trans HXL.out; subst hnm; have CX := Lib.hid (And.intro hbx hcx); clear ox hnx hbx hcx; clear xr2))
      have glt : w3.heap.size < (w3.alloc (.cells #[.int .i64 0, .slice none 0 0, .bool false] 33)).heap.size := by simp
      go_loopw [8] (fun x8 wr => ∃ (k : Nat) (g : Ga) (p : Option Addr) (n c : Nat), x8 = .int .i64 (k : Int) ∧ k ≤ m + 1 ∧ Hid (g = gAt c0 s0 k) ∧ Hid (IsRow wr w3.heap.size 33 #[.int .i64 g.code, .slice p n c, .bool g.isOpen]) ∧ Hid (OwnStrs (w3.heap.size + 1) wr (.slice p n c) g.lines) ∧ Hid (Below w3.heap.size w3 wr)) (fun i _ => m + 1 - (intOf i).toNat)
      case atStart => exact ⟨0, Ga.none, none, 0, 0, rfl, Nat.zero_le _, Lib.hid (by unfold gAt before; split <;> rfl), Lib.hid (IsRow.made _ _ _), Lib.hid (OwnStrs.nil _ _), Lib.hid ((Below.refl _ _).alloc (Nat.le_refl _) _)⟩
      case round =>
        obtain ⟨k, g, gp, gn, gk, rfl, hk, HG, HGR, HGO, HB⟩ := hrel
        obtain ⟨gc, gl, go⟩ := g
        simp only at HG HGR HGO
        have XR := (xr3.out.call HB.out)
        have a0 := XR.cell 0
        have a1 := XR.cell 1
        have ltr := XR.lt
        have BW := Lib.hid (B3.out.trans (HB.out.mono B3.out.size))
        have g0 := HGR.out.cell 0
        have g1 := HGR.out.cell 1
        have g2 := HGR.out.cell 2
        have glw := HGR.out.lt
        by_cases hlt : k < m + 1
        · have hji : (k : Int) < ((m + 1 : Nat) : Int) := by omega
          have hxl : k < xl.length := by have := HXL.out; omega
          have hsl : k < s0.length := by have := HSL.out; omega
          have hgb : (⟨gc, gl, go⟩ : Ga) = before c0 s0 k := by have h := HG.out; unfold gAt at h; rw [if_neg (by omega)] at h; exact h
          have hgl : gl.length ≤ 1000 := by have h := gAt_len (c := c0) (l := s0) (k := k); rw [← HG.out] at h; simp only at h; have := HSL.out; omega
          have hgc : -9223372036854775808 ≤ gc ∧ gc ≤ 9223372036854775807 := by
            have h := gAt_code (c := c0) (l := s0) (k := k)
            rw [← HG.out] at h
            simp only at h
            omega
          obtain ⟨hL1, hL2⟩ := HLA.out k hxl hsl
          rw [← hgb] at hL2
          have e1 : wr.cell? ⟨bx, k, none⟩ = some (.string ⟨xl[k].toArray⟩) := (HB.out.cell (p := ⟨bx, k, none⟩) CX.out.1).trans (CX.out.2 k hxl)
          have bxl : bx < wr.heap.size := Nat.lt_of_lt_of_le CX.out.1 HB.out.size
          generalize xl[k] = t at *
          by_cases hlast : k + 1 = s0.length
          · rw [if_pos hlast] at hL2
            have HTK := Lib.hid (fun W EW YW => take_n gc hgc.1 hgc.2 (.slice gp gn gk) go gl t hgl (by omega) _ hL2 W EW YW)
            clear hL1 hL2 hgb hgl hgc
            simp only [List.length_nil] at HTK
            have HGN : Hid (Ga.none = gAt c0 s0 (k + 1)) := Lib.hid (by unfold gAt; rw [if_pos hlast])
            go_wp2_with fail
            have JOIN : Hid (∀ W w4, Below wr.heap.size wr W → Below W.heap.size W w4 → Below wr.heap.size wr w4) := Lib.hid (fun W w4 h k => h.trans (k.mono h.size))
            have GK : Hid (∀ w4, Below wr.heap.size wr w4 → w4.cell? ⟨w3.heap.size, 0, none⟩ = some (.int .i64 gc) ∧ w4.cell? ⟨w3.heap.size, 1, none⟩ = some (.slice gp gn gk) ∧ w4.cell? ⟨w3.heap.size, 2, none⟩ = some (.bool go) ∧ w4.cell? ⟨bx, k, none⟩ = some (.string ⟨t.toArray⟩)) := Lib.hid (fun w4 h => ⟨(HGR.out.call h).cell 0, (HGR.out.call h).cell 1, (HGR.out.call h).cell 2, (h.cell (p := ⟨bx, k, none⟩) bxl).trans e1⟩)
            have JN2 : Hid (∀ W w4, Below wr.heap.size wr W → Below W.heap.size W w4 → ∀ v l v' l', OwnStrs W.heap.size w4 v l → OwnStrs W.heap.size w4 v' l' → ∃ B, wr.heap.size ≤ B ∧ W.heap.size = B ∧ OwnStrs B w4 v l ∧ OwnStrs B w4 v' l') := Lib.hid (fun W w4 h _ v l v' l' o1 o2 => ⟨_, h.size, rfl, o1, o2⟩)
            have EV : Hid (∀ W, Below wr.heap.size wr W → Env W) := Lib.hid (fun W h => E.below (BW.out.trans (h.mono BW.out.size)))
            have XV : Hid (∀ W, Below wr.heap.size wr W → TextsIs W (.slice gp gn gk) gl) := Lib.hid (fun W h => HGO.out.texts.call h)
            have ne1 : w3.heap.size ≠ wr.heap.size := by omega
            have ne2 : w3.heap.size ≠ wr.heap.size + 1 := by omega
            have ne3 : bx ≠ wr.heap.size := by omega
            have ne4 : bx ≠ wr.heap.size + 1 := by omega
            go_region_held (fun w' => w'.cell? ⟨w3.heap.size, 0, none⟩ = some (.int .i64 gc) ∧ w'.cell? ⟨w3.heap.size, 1, none⟩ = some (.slice gp gn gk) ∧ w'.cell? ⟨w3.heap.size, 2, none⟩ = some (.bool go) ∧ w'.cell? ⟨bx, k, none⟩ = some (.string ⟨t.toArray⟩)) (first | with_reducible exact K4 | exact GK.out _ (by repeat (first | with_reducible exact HB4.out | with_reducible exact Below.refl _ _ | with_reducible refine Below.drew ?_ | with_reducible refine Below.alloc ?_ (by first | exact Nat.le_refl _ | (simp; done) | (have := HB4.out.size; simp; omega)) _ | with_reducible refine Below.setCell ?_ (by first | exact Nat.le_refl _ | (show wr.heap.size ≤ _; have := HB4.out.size; simp <;> omega)) _)) | go_keep)
              ((go_at_call 17; refine (HTK.out _ (EV.out _ (by first | exact Below.refl _ _ | exact (Below.refl _ _).drew | exact ((Below.refl _ _).alloc (Nat.le_refl _) _) | exact ((Below.refl _ _).alloc (Nat.le_refl _) _).drew | exact (((Below.refl _ _).alloc (Nat.le_refl _) _).alloc (by simp) _) | exact (((Below.refl _ _).alloc (Nat.le_refl _) _).alloc (by simp) _).drew)) (XV.out _ (by first | exact Below.refl _ _ | exact (Below.refl _ _).drew | exact ((Below.refl _ _).alloc (Nat.le_refl _) _) | exact ((Below.refl _ _).alloc (Nat.le_refl _) _).drew | exact (((Below.refl _ _).alloc (Nat.le_refl _) _).alloc (by simp) _) | exact (((Below.refl _ _).alloc (Nat.le_refl _) _).alloc (by simp) _).drew))).mono ?_; rintro e w4 ⟨⟨p4, n4, c4, q4, m4, d4, rfl, hn4, hm4, oh, or'⟩, b4⟩; have HN4 := Lib.hid hn4; have HM4 := Lib.hid hm4; clear hn4 hm4; have HB4 := Lib.hid (JOIN.out _ _ (by first | exact Below.refl _ _ | exact (Below.refl _ _).drew | exact ((Below.refl _ _).alloc (Nat.le_refl _) _) | exact ((Below.refl _ _).alloc (Nat.le_refl _) _).drew | exact (((Below.refl _ _).alloc (Nat.le_refl _) _).alloc (by simp) _) | exact (((Below.refl _ _).alloc (Nat.le_refl _) _).alloc (by simp) _).drew) b4); have K4 := GK.out w4 HB4.out; obtain ⟨BB, hBl, hBe, OH, OR⟩ := JN2.out _ _ (by first | exact Below.refl _ _ | exact (Below.refl _ _).drew | exact ((Below.refl _ _).alloc (Nat.le_refl _) _) | exact ((Below.refl _ _).alloc (Nat.le_refl _) _).drew | exact (((Below.refl _ _).alloc (Nat.le_refl _) _).alloc (by simp) _) | exact (((Below.refl _ _).alloc (Nat.le_refl _) _).alloc (by simp) _).drew) b4 _ _ _ _ oh or'; simp at hBe; have ne5 : w3.heap.size ≠ w4.heap.size := (by have := HB4.out.size; omega); have ne6 : w3.heap.size ≠ w4.heap.size + 1 := (by have := HB4.out.size; omega); have ne7 : bx ≠ w4.heap.size := (by have := HB4.out.size; omega); have ne8 : bx ≠ w4.heap.size + 1 := (by have := HB4.out.size; omega); first | (have ZH := (IsRow.made wr 33 #[.int .i64 0, .slice none 0 0, .bool false]).drew.call b4; have zf0 := ZH.free 0; have zc0 := ZH.cell 0; have zf1 := ZH.free 1; have zc1 := ZH.cell 1; have zf2 := ZH.free 2; have zc2 := ZH.cell 2; have zlt := ZH.lt) | (have ZM := (IsRow.made wr 24 #[.int .i64 0, .slice none 0 0]).drew.call b4; have yf0 := ZM.free 0; have yc0 := ZM.cell 0; have yf1 := ZM.free 1; have yc1 := ZM.cell 1; have ylt := ZM.lt) | (have ZH := ((IsRow.made wr 33 #[.int .i64 0, .slice none 0 0, .bool false]).alloc (.cells #[.int .i64 0, .slice none 0 0] 24)).drew.call b4; have ZM := (IsRow.made (wr.alloc (.cells #[.int .i64 0, .slice none 0 0, .bool false] 33)) 24 #[.int .i64 0, .slice none 0 0]).drew.call b4; have zf0 := ZH.free 0; have zc0 := ZH.cell 0; have zf1 := ZH.free 1; have zc1 := ZH.cell 1; have zf2 := ZH.free 2; have zc2 := ZH.cell 2; have zlt := ZH.lt; have yf0 : w4.frozen? ⟨wr.heap.size + 1, 0, none⟩ = false := (by have h := ZM.free 0; rw [World.size_alloc] at h; exact h); have yc0 : w4.cell? ⟨wr.heap.size + 1, 0, none⟩ = some (.int .i64 0) := (by have h := ZM.cell 0; rw [World.size_alloc] at h; exact h); have yf1 : w4.frozen? ⟨wr.heap.size + 1, 1, none⟩ = false := (by have h := ZM.free 1; rw [World.size_alloc] at h; exact h); have yc1 : w4.cell? ⟨wr.heap.size + 1, 1, none⟩ = some (.slice none 0 0) := (by have h := ZM.cell 1; rw [World.size_alloc] at h; exact h); have ylt : wr.heap.size + 1 < w4.heap.size := (by have h := ZM.lt; rw [World.size_alloc] at h; exact h)) | (have ZM := ((IsRow.made wr 24 #[.int .i64 0, .slice none 0 0]).alloc (.cells #[.int .i64 0, .slice none 0 0, .bool false] 33)).drew.call b4; have ZH := (IsRow.made (wr.alloc (.cells #[.int .i64 0, .slice none 0 0] 24)) 33 #[.int .i64 0, .slice none 0 0, .bool false]).drew.call b4; have yf0 := ZM.free 0; have yc0 := ZM.cell 0; have yf1 := ZM.free 1; have yc1 := ZM.cell 1; have ylt := ZM.lt; have zf0 : w4.frozen? ⟨wr.heap.size + 1, 0, none⟩ = false := (by have h := ZH.free 0; rw [World.size_alloc] at h; exact h); have zc0 : w4.cell? ⟨wr.heap.size + 1, 0, none⟩ = some (.int .i64 0) := (by have h := ZH.cell 0; rw [World.size_alloc] at h; exact h); have zf1 : w4.frozen? ⟨wr.heap.size + 1, 1, none⟩ = false := (by have h := ZH.free 1; rw [World.size_alloc] at h; exact h); have zc1 : w4.cell? ⟨wr.heap.size + 1, 1, none⟩ = some (.slice none 0 0) := (by have h := ZH.cell 1; rw [World.size_alloc] at h; exact h); have zf2 : w4.frozen? ⟨wr.heap.size + 1, 2, none⟩ = false := (by have h := ZH.free 2; rw [World.size_alloc] at h; exact h); have zc2 : w4.cell? ⟨wr.heap.size + 1, 2, none⟩ = some (.bool false) := (by have h := ZH.cell 2; rw [World.size_alloc] at h; exact h); have zlt : wr.heap.size + 1 < w4.heap.size := (by have h := ZH.lt; rw [World.size_alloc] at h; exact h)) | (have ZH := (IsRow.made wr 33 #[.int .i64 0, .slice none 0 0, .bool false]).call b4; have zf0 := ZH.free 0; have zc0 := ZH.cell 0; have zf1 := ZH.free 1; have zc1 := ZH.cell 1; have zf2 := ZH.free 2; have zc2 := ZH.cell 2; have zlt := ZH.lt) | (have ZM := (IsRow.made wr 24 #[.int .i64 0, .slice none 0 0]).call b4; have yf0 := ZM.free 0; have yc0 := ZM.cell 0; have yf1 := ZM.free 1; have yc1 := ZM.cell 1; have ylt := ZM.lt) | (have ZH := ((IsRow.made wr 33 #[.int .i64 0, .slice none 0 0, .bool false]).alloc (.cells #[.int .i64 0, .slice none 0 0] 24)).call b4; have ZM := (IsRow.made (wr.alloc (.cells #[.int .i64 0, .slice none 0 0, .bool false] 33)) 24 #[.int .i64 0, .slice none 0 0]).call b4; have zf0 := ZH.free 0; have zc0 := ZH.cell 0; have zf1 := ZH.free 1; have zc1 := ZH.cell 1; have zf2 := ZH.free 2; have zc2 := ZH.cell 2; have zlt := ZH.lt; have yf0 : w4.frozen? ⟨wr.heap.size + 1, 0, none⟩ = false := (by have h := ZM.free 0; rw [World.size_alloc] at h; exact h); have yc0 : w4.cell? ⟨wr.heap.size + 1, 0, none⟩ = some (.int .i64 0) := (by have h := ZM.cell 0; rw [World.size_alloc] at h; exact h); have yf1 : w4.frozen? ⟨wr.heap.size + 1, 1, none⟩ = false := (by have h := ZM.free 1; rw [World.size_alloc] at h; exact h); have yc1 : w4.cell? ⟨wr.heap.size + 1, 1, none⟩ = some (.slice none 0 0) := (by have h := ZM.cell 1; rw [World.size_alloc] at h; exact h); have ylt : wr.heap.size + 1 < w4.heap.size := (by have h := ZM.lt; rw [World.size_alloc] at h; exact h)) | (have ZM := ((IsRow.made wr 24 #[.int .i64 0, .slice none 0 0]).alloc (.cells #[.int .i64 0, .slice none 0 0, .bool false] 33)).call b4; have ZH := (IsRow.made (wr.alloc (.cells #[.int .i64 0, .slice none 0 0] 24)) 33 #[.int .i64 0, .slice none 0 0, .bool false]).call b4; have yf0 := ZM.free 0; have yc0 := ZM.cell 0; have yf1 := ZM.free 1; have yc1 := ZM.cell 1; have ylt := ZM.lt; have zf0 : w4.frozen? ⟨wr.heap.size + 1, 0, none⟩ = false := (by have h := ZH.free 0; rw [World.size_alloc] at h; exact h); have zc0 : w4.cell? ⟨wr.heap.size + 1, 0, none⟩ = some (.int .i64 0) := (by have h := ZH.cell 0; rw [World.size_alloc] at h; exact h); have zf1 : w4.frozen? ⟨wr.heap.size + 1, 1, none⟩ = false := (by have h := ZH.free 1; rw [World.size_alloc] at h; exact h); have zc1 : w4.cell? ⟨wr.heap.size + 1, 1, none⟩ = some (.slice none 0 0) := (by have h := ZH.cell 1; rw [World.size_alloc] at h; exact h); have zf2 : w4.frozen? ⟨wr.heap.size + 1, 2, none⟩ = false := (by have h := ZH.free 2; rw [World.size_alloc] at h; exact h); have zc2 : w4.cell? ⟨wr.heap.size + 1, 2, none⟩ = some (.bool false) := (by have h := ZH.cell 2; rw [World.size_alloc] at h; exact h); have zlt : wr.heap.size + 1 < w4.heap.size := (by have h := ZH.lt; rw [World.size_alloc] at h; exact h)) | skip))
            all_goals (first
              | (have TW := Lib.hid (Two.ss (.int .i64 0) (.slice p4 n4 c4) (.bool false) (.int .i64 c0) (.slice q4 m4 d4) (w := w4) (b := w3.heap.size + 1) (B := BB) (H := wr.heap.size) (M := wr.heap.size + 1) (by omega) (by omega) (by omega) (by omega) (by omega) (by omega) (by have h := ZH; first | exact h | (rw [World.size_alloc] at h; exact h)) (by have h := ZM; first | exact h | (rw [World.size_alloc] at h; exact h))); generalize World.setCell (World.setCell (World.setCell (World.setCell (World.setCell w4 _ _) _ _) _ _) _ _) _ _ = v4 at TW ⊢; generalize wr.heap.size + 1 = MM at TW ⊢; generalize wr.heap.size = HH at TW ⊢; with_reducible show Exit.then _ _ _ _ v4)
              | (have TW := Lib.hid (Two.ss (.int .i64 0) (.slice p4 n4 c4) (.bool false) (.int .i64 c0) (.slice q4 m4 d4) (w := w4) (b := w3.heap.size + 1) (B := BB) (H := wr.heap.size + 1) (M := wr.heap.size) (by omega) (by omega) (by omega) (by omega) (by omega) (by omega) (by have h := ZH; first | exact h | (rw [World.size_alloc] at h; exact h)) (by have h := ZM; first | exact h | (rw [World.size_alloc] at h; exact h))); generalize World.setCell (World.setCell (World.setCell (World.setCell (World.setCell w4 _ _) _ _) _ _) _ _) _ _ = v4 at TW ⊢; generalize wr.heap.size + 1 = HH at TW ⊢; generalize wr.heap.size = MM at TW ⊢; with_reducible show Exit.then _ _ _ _ v4)
              | (have TW := Lib.hid (Two.sn (.int .i64 0) (.slice p4 n4 c4) (.bool false) (.int .i64 c0) (.slice q4 m4 d4) (w := w4) (b := w3.heap.size + 1) (B := BB) (H := wr.heap.size) (by omega) (by omega) (by omega) ZH); generalize World.alloc (World.setCell (World.setCell (World.setCell w4 _ _) _ _) _ _) _ = v4 at TW ⊢; generalize wr.heap.size = HH at TW ⊢; generalize w4.heap.size = MM at TW ⊢; with_reducible show Exit.then _ _ _ _ v4)
              | (have TW := Lib.hid (Two.ns (.int .i64 0) (.slice p4 n4 c4) (.bool false) (.int .i64 c0) (.slice q4 m4 d4) (w := w4) (b := w3.heap.size + 1) (B := BB) (M := wr.heap.size) (by omega) (by omega) (by omega) ZM); generalize World.alloc (World.setCell (World.setCell w4 _ _) _ _) _ = v4 at TW ⊢; generalize w4.heap.size = HH at TW ⊢; generalize wr.heap.size = MM at TW ⊢; with_reducible show Exit.then _ _ _ _ v4)
              | (have TW := Lib.hid (Two.hm (.int .i64 0) (.slice p4 n4 c4) (.bool false) (.int .i64 c0) (.slice q4 m4 d4) (w := w4) (b := w3.heap.size + 1) (B := BB) (by have := HB4.out.size; omega) (by omega)); generalize World.alloc (World.alloc w4 _) _ = v4 at TW ⊢; generalize w4.heap.size + 1 = MM at TW ⊢; generalize w4.heap.size = HH at TW ⊢; with_reducible show Exit.then _ _ _ _ v4)
              | (have TW := Lib.hid (Two.mh (.int .i64 0) (.slice p4 n4 c4) (.bool false) (.int .i64 c0) (.slice q4 m4 d4) (w := w4) (b := w3.heap.size + 1) (B := BB) (by have := HB4.out.size; omega) (by omega)); generalize World.alloc (World.alloc w4 _) _ = v4 at TW ⊢; generalize w4.heap.size + 1 = HH at TW ⊢; generalize w4.heap.size = MM at TW ⊢; with_reducible show Exit.then _ _ _ _ v4))
            all_goals (
              have BG : Below (w3.heap.size + 1) wr v4 := TW.out.below _ _ (HB4.out.mono (by omega)) (Nat.le_refl _)
              have BGH := Lib.hid BG
              have OX4 := Lib.hid (TW.out.own _ _ OH)
              have OY4 := Lib.hid (TW.out.own _ _ OR)
              have HR4 := Lib.hid TW.out.row
              have MR4 := Lib.hid TW.out.mow
              have hHH := TW.out.hb
              have GR4 := Lib.hid (HGR.out.below BG (Nat.lt_succ_self _))
              have XR4 := Lib.hid (XR.below (BG.mono (Nat.le_refl _)) (by have := B3.out.size; have := xr3.out.lt; omega))
              have BW4 := Lib.hid (BW.out.trans (BG.mono (by have := B3.out.size; omega)))
              clear TW BG
              (try clear ZH ZM)
              (try clear ZH)
              (try clear ZM)
              have h2 := HR4.out.cell 2
              have h0 := HR4.out.cell 0
              have h1 := HR4.out.cell 1
              have hlt4 := HR4.out.lt
              have y1 : ((k : Int) == (m : Int)) = true := by rw [beq_iff_eq]; have := HSL.out; omega
              have y2 : ((k : Int) == (m : Int) + 1 - 1) = true := by rw [beq_iff_eq]; have := HSL.out; omega
              have y3 : (k == m) = true := by rw [beq_iff_eq]; have := HSL.out; omega
              have wr1 : IntKind.i64.wrap (m : Int) = (m : Int) := IntWalk.i64_in _ (by omega)
              clear XR a0 a1 ltr g0 g1 g2 e1
              have j0 := MR4.out.cell 0
              have j1 := MR4.out.cell 1
              have jlt := MR4.out.lt
              have a0 := XR4.out.cell 0
              have a1 := XR4.out.cell 1
              have alt := XR4.out.lt
              go_wp2_with (go_at_call 16; refine (HSa.out q4 m4 d4 _ (E.below BW4.out) (Y0.out.call BW4.out) OY4.out.texts).mono ?_; rintro e w5 ⟨rfl, b5⟩; have GR5 := Lib.hid (GR4.out.call b5); have H5 := Lib.hid (HR4.out.call b5); have OX5 := Lib.hid (OX4.out.call b5); have BG5 := Lib.hid ((BGH.out.mono (Nat.le_succ _)).trans (b5.mono (by have := BGH.out.size; omega))); clear h0 h1 h2 hlt4 j0 j1 jlt a0 a1 alt b5; have h0 := H5.out.cell 0; have h1 := H5.out.cell 1; have h2 := H5.out.cell 2; have hlt5 := H5.out.lt; have gf0 := GR5.out.free 0; have gf1 := GR5.out.free 1; have gf2 := GR5.out.free 2; have gc0 := GR5.out.cell 0; have gc1 := GR5.out.cell 1; have gc2 := GR5.out.cell 2; have glt5 := GR5.out.lt)
              go_roundw
              case rel => exact ⟨k + 1, Ga.none, p4, n4, c4, by go_num, by omega, HGN, Lib.hid (((GR5.out.set 0 _).set 1 _).set 2 _), Lib.hid (((OX5.out.set (p := ⟨w3.heap.size, 0, none⟩) (Nat.lt_succ_self _) _).set (p := ⟨w3.heap.size, 1, none⟩) (Nat.lt_succ_self _) _).set (p := ⟨w3.heap.size, 2, none⟩) (Nat.lt_succ_self _) _), Lib.hid ((((HB.out.trans BG5.out).setCell (p := ⟨w3.heap.size, 0, none⟩) (Nat.le_refl _) _).setCell (p := ⟨w3.heap.size, 1, none⟩) (Nat.le_refl _) _).setCell (p := ⟨w3.heap.size, 2, none⟩) (Nat.le_refl _) _)⟩
              case measure => simp [intOf]; omega)
          · rw [if_neg hlast] at hL2
            have HTK := Lib.hid (fun W EW YW => take_n gc hgc.1 hgc.2 (.slice gp gn gk) go gl t hgl (by omega) _ hL2 W EW YW)
            clear hL1 hL2 hgb hgl hgc
            have hbf : before c0 s0 (k + 1) = ⟨c0, s0.take (k + 1), true⟩ := by unfold before; rw [if_neg (by omega)]
            rw [hbf] at HTK
            simp only [List.length_nil] at HTK
            have HGN : Hid ((⟨c0, s0.take (k + 1), true⟩ : Ga) = gAt c0 s0 (k + 1)) := Lib.hid (by unfold gAt; rw [if_neg hlast]; exact hbf.symm)
            clear hbf
            go_wp2_with fail
            have JOIN : Hid (∀ W w4, Below wr.heap.size wr W → Below W.heap.size W w4 → Below wr.heap.size wr w4) := Lib.hid (fun W w4 h k => h.trans (k.mono h.size))
            have GK : Hid (∀ w4, Below wr.heap.size wr w4 → w4.cell? ⟨w3.heap.size, 0, none⟩ = some (.int .i64 gc) ∧ w4.cell? ⟨w3.heap.size, 1, none⟩ = some (.slice gp gn gk) ∧ w4.cell? ⟨w3.heap.size, 2, none⟩ = some (.bool go) ∧ w4.cell? ⟨bx, k, none⟩ = some (.string ⟨t.toArray⟩)) := Lib.hid (fun w4 h => ⟨(HGR.out.call h).cell 0, (HGR.out.call h).cell 1, (HGR.out.call h).cell 2, (h.cell (p := ⟨bx, k, none⟩) bxl).trans e1⟩)
            have JN2 : Hid (∀ W w4, Below wr.heap.size wr W → Below W.heap.size W w4 → ∀ v l v' l', OwnStrs W.heap.size w4 v l → OwnStrs W.heap.size w4 v' l' → ∃ B, wr.heap.size ≤ B ∧ W.heap.size = B ∧ OwnStrs B w4 v l ∧ OwnStrs B w4 v' l') := Lib.hid (fun W w4 h _ v l v' l' o1 o2 => ⟨_, h.size, rfl, o1, o2⟩)
            have EV : Hid (∀ W, Below wr.heap.size wr W → Env W) := Lib.hid (fun W h => E.below (BW.out.trans (h.mono BW.out.size)))
            have XV : Hid (∀ W, Below wr.heap.size wr W → TextsIs W (.slice gp gn gk) gl) := Lib.hid (fun W h => HGO.out.texts.call h)
            have ne1 : w3.heap.size ≠ wr.heap.size := by omega
            have ne2 : w3.heap.size ≠ wr.heap.size + 1 := by omega
            have ne3 : bx ≠ wr.heap.size := by omega
            have ne4 : bx ≠ wr.heap.size + 1 := by omega
            go_region_held (fun w' => w'.cell? ⟨w3.heap.size, 0, none⟩ = some (.int .i64 gc) ∧ w'.cell? ⟨w3.heap.size, 1, none⟩ = some (.slice gp gn gk) ∧ w'.cell? ⟨w3.heap.size, 2, none⟩ = some (.bool go) ∧ w'.cell? ⟨bx, k, none⟩ = some (.string ⟨t.toArray⟩)) (first | with_reducible exact K4 | exact GK.out _ (by repeat (first | with_reducible exact HB4.out | with_reducible exact Below.refl _ _ | with_reducible refine Below.drew ?_ | with_reducible refine Below.alloc ?_ (by first | exact Nat.le_refl _ | (simp; done) | (have := HB4.out.size; simp; omega)) _ | with_reducible refine Below.setCell ?_ (by first | exact Nat.le_refl _ | (show wr.heap.size ≤ _; have := HB4.out.size; simp <;> omega)) _)) | go_keep)
              ((go_at_call 17; refine (HTK.out _ (EV.out _ (by first | exact Below.refl _ _ | exact (Below.refl _ _).drew | exact ((Below.refl _ _).alloc (Nat.le_refl _) _) | exact ((Below.refl _ _).alloc (Nat.le_refl _) _).drew | exact (((Below.refl _ _).alloc (Nat.le_refl _) _).alloc (by simp) _) | exact (((Below.refl _ _).alloc (Nat.le_refl _) _).alloc (by simp) _).drew)) (XV.out _ (by first | exact Below.refl _ _ | exact (Below.refl _ _).drew | exact ((Below.refl _ _).alloc (Nat.le_refl _) _) | exact ((Below.refl _ _).alloc (Nat.le_refl _) _).drew | exact (((Below.refl _ _).alloc (Nat.le_refl _) _).alloc (by simp) _) | exact (((Below.refl _ _).alloc (Nat.le_refl _) _).alloc (by simp) _).drew))).mono ?_; rintro e w4 ⟨⟨p4, n4, c4, q4, m4, d4, rfl, hn4, hm4, oh, or'⟩, b4⟩; have HN4 := Lib.hid hn4; have HM4 := Lib.hid hm4; clear hn4 hm4; have HB4 := Lib.hid (JOIN.out _ _ (by first | exact Below.refl _ _ | exact (Below.refl _ _).drew | exact ((Below.refl _ _).alloc (Nat.le_refl _) _) | exact ((Below.refl _ _).alloc (Nat.le_refl _) _).drew | exact (((Below.refl _ _).alloc (Nat.le_refl _) _).alloc (by simp) _) | exact (((Below.refl _ _).alloc (Nat.le_refl _) _).alloc (by simp) _).drew) b4); have K4 := GK.out w4 HB4.out; obtain ⟨BB, hBl, hBe, OH, OR⟩ := JN2.out _ _ (by first | exact Below.refl _ _ | exact (Below.refl _ _).drew | exact ((Below.refl _ _).alloc (Nat.le_refl _) _) | exact ((Below.refl _ _).alloc (Nat.le_refl _) _).drew | exact (((Below.refl _ _).alloc (Nat.le_refl _) _).alloc (by simp) _) | exact (((Below.refl _ _).alloc (Nat.le_refl _) _).alloc (by simp) _).drew) b4 _ _ _ _ oh or'; simp at hBe; have ne5 : w3.heap.size ≠ w4.heap.size := (by have := HB4.out.size; omega); have ne6 : w3.heap.size ≠ w4.heap.size + 1 := (by have := HB4.out.size; omega); have ne7 : bx ≠ w4.heap.size := (by have := HB4.out.size; omega); have ne8 : bx ≠ w4.heap.size + 1 := (by have := HB4.out.size; omega); first | (have ZH := (IsRow.made wr 33 #[.int .i64 0, .slice none 0 0, .bool false]).drew.call b4; have zf0 := ZH.free 0; have zc0 := ZH.cell 0; have zf1 := ZH.free 1; have zc1 := ZH.cell 1; have zf2 := ZH.free 2; have zc2 := ZH.cell 2; have zlt := ZH.lt) | (have ZM := (IsRow.made wr 24 #[.int .i64 0, .slice none 0 0]).drew.call b4; have yf0 := ZM.free 0; have yc0 := ZM.cell 0; have yf1 := ZM.free 1; have yc1 := ZM.cell 1; have ylt := ZM.lt) | (have ZH := ((IsRow.made wr 33 #[.int .i64 0, .slice none 0 0, .bool false]).alloc (.cells #[.int .i64 0, .slice none 0 0] 24)).drew.call b4; have ZM := (IsRow.made (wr.alloc (.cells #[.int .i64 0, .slice none 0 0, .bool false] 33)) 24 #[.int .i64 0, .slice none 0 0]).drew.call b4; have zf0 := ZH.free 0; have zc0 := ZH.cell 0; have zf1 := ZH.free 1; have zc1 := ZH.cell 1; have zf2 := ZH.free 2; have zc2 := ZH.cell 2; have zlt := ZH.lt; have yf0 : w4.frozen? ⟨wr.heap.size + 1, 0, none⟩ = false := (by have h := ZM.free 0; rw [World.size_alloc] at h; exact h); have yc0 : w4.cell? ⟨wr.heap.size + 1, 0, none⟩ = some (.int .i64 0) := (by have h := ZM.cell 0; rw [World.size_alloc] at h; exact h); have yf1 : w4.frozen? ⟨wr.heap.size + 1, 1, none⟩ = false := (by have h := ZM.free 1; rw [World.size_alloc] at h; exact h); have yc1 : w4.cell? ⟨wr.heap.size + 1, 1, none⟩ = some (.slice none 0 0) := (by have h := ZM.cell 1; rw [World.size_alloc] at h; exact h); have ylt : wr.heap.size + 1 < w4.heap.size := (by have h := ZM.lt; rw [World.size_alloc] at h; exact h)) | (have ZM := ((IsRow.made wr 24 #[.int .i64 0, .slice none 0 0]).alloc (.cells #[.int .i64 0, .slice none 0 0, .bool false] 33)).drew.call b4; have ZH := (IsRow.made (wr.alloc (.cells #[.int .i64 0, .slice none 0 0] 24)) 33 #[.int .i64 0, .slice none 0 0, .bool false]).drew.call b4; have yf0 := ZM.free 0; have yc0 := ZM.cell 0; have yf1 := ZM.free 1; have yc1 := ZM.cell 1; have ylt := ZM.lt; have zf0 : w4.frozen? ⟨wr.heap.size + 1, 0, none⟩ = false := (by have h := ZH.free 0; rw [World.size_alloc] at h; exact h); have zc0 : w4.cell? ⟨wr.heap.size + 1, 0, none⟩ = some (.int .i64 0) := (by have h := ZH.cell 0; rw [World.size_alloc] at h; exact h); have zf1 : w4.frozen? ⟨wr.heap.size + 1, 1, none⟩ = false := (by have h := ZH.free 1; rw [World.size_alloc] at h; exact h); have zc1 : w4.cell? ⟨wr.heap.size + 1, 1, none⟩ = some (.slice none 0 0) := (by have h := ZH.cell 1; rw [World.size_alloc] at h; exact h); have zf2 : w4.frozen? ⟨wr.heap.size + 1, 2, none⟩ = false := (by have h := ZH.free 2; rw [World.size_alloc] at h; exact h); have zc2 : w4.cell? ⟨wr.heap.size + 1, 2, none⟩ = some (.bool false) := (by have h := ZH.cell 2; rw [World.size_alloc] at h; exact h); have zlt : wr.heap.size + 1 < w4.heap.size := (by have h := ZH.lt; rw [World.size_alloc] at h; exact h)) | (have ZH := (IsRow.made wr 33 #[.int .i64 0, .slice none 0 0, .bool false]).call b4; have zf0 := ZH.free 0; have zc0 := ZH.cell 0; have zf1 := ZH.free 1; have zc1 := ZH.cell 1; have zf2 := ZH.free 2; have zc2 := ZH.cell 2; have zlt := ZH.lt) | (have ZM := (IsRow.made wr 24 #[.int .i64 0, .slice none 0 0]).call b4; have yf0 := ZM.free 0; have yc0 := ZM.cell 0; have yf1 := ZM.free 1; have yc1 := ZM.cell 1; have ylt := ZM.lt) | (have ZH := ((IsRow.made wr 33 #[.int .i64 0, .slice none 0 0, .bool false]).alloc (.cells #[.int .i64 0, .slice none 0 0] 24)).call b4; have ZM := (IsRow.made (wr.alloc (.cells #[.int .i64 0, .slice none 0 0, .bool false] 33)) 24 #[.int .i64 0, .slice none 0 0]).call b4; have zf0 := ZH.free 0; have zc0 := ZH.cell 0; have zf1 := ZH.free 1; have zc1 := ZH.cell 1; have zf2 := ZH.free 2; have zc2 := ZH.cell 2; have zlt := ZH.lt; have yf0 : w4.frozen? ⟨wr.heap.size + 1, 0, none⟩ = false := (by have h := ZM.free 0; rw [World.size_alloc] at h; exact h); have yc0 : w4.cell? ⟨wr.heap.size + 1, 0, none⟩ = some (.int .i64 0) := (by have h := ZM.cell 0; rw [World.size_alloc] at h; exact h); have yf1 : w4.frozen? ⟨wr.heap.size + 1, 1, none⟩ = false := (by have h := ZM.free 1; rw [World.size_alloc] at h; exact h); have yc1 : w4.cell? ⟨wr.heap.size + 1, 1, none⟩ = some (.slice none 0 0) := (by have h := ZM.cell 1; rw [World.size_alloc] at h; exact h); have ylt : wr.heap.size + 1 < w4.heap.size := (by have h := ZM.lt; rw [World.size_alloc] at h; exact h)) | (have ZM := ((IsRow.made wr 24 #[.int .i64 0, .slice none 0 0]).alloc (.cells #[.int .i64 0, .slice none 0 0, .bool false] 33)).call b4; have ZH := (IsRow.made (wr.alloc (.cells #[.int .i64 0, .slice none 0 0] 24)) 33 #[.int .i64 0, .slice none 0 0, .bool false]).call b4; have yf0 := ZM.free 0; have yc0 := ZM.cell 0; have yf1 := ZM.free 1; have yc1 := ZM.cell 1; have ylt := ZM.lt; have zf0 : w4.frozen? ⟨wr.heap.size + 1, 0, none⟩ = false := (by have h := ZH.free 0; rw [World.size_alloc] at h; exact h); have zc0 : w4.cell? ⟨wr.heap.size + 1, 0, none⟩ = some (.int .i64 0) := (by have h := ZH.cell 0; rw [World.size_alloc] at h; exact h); have zf1 : w4.frozen? ⟨wr.heap.size + 1, 1, none⟩ = false := (by have h := ZH.free 1; rw [World.size_alloc] at h; exact h); have zc1 : w4.cell? ⟨wr.heap.size + 1, 1, none⟩ = some (.slice none 0 0) := (by have h := ZH.cell 1; rw [World.size_alloc] at h; exact h); have zf2 : w4.frozen? ⟨wr.heap.size + 1, 2, none⟩ = false := (by have h := ZH.free 2; rw [World.size_alloc] at h; exact h); have zc2 : w4.cell? ⟨wr.heap.size + 1, 2, none⟩ = some (.bool false) := (by have h := ZH.cell 2; rw [World.size_alloc] at h; exact h); have zlt : wr.heap.size + 1 < w4.heap.size := (by have h := ZH.lt; rw [World.size_alloc] at h; exact h)) | skip))
            all_goals (first
              | (have TW := Lib.hid (Two.ss (.int .i64 c0) (.slice p4 n4 c4) (.bool true) (.int .i64 0) (.slice q4 m4 d4) (w := w4) (b := w3.heap.size + 1) (B := BB) (H := wr.heap.size) (M := wr.heap.size + 1) (by omega) (by omega) (by omega) (by omega) (by omega) (by omega) (by have h := ZH; first | exact h | (rw [World.size_alloc] at h; exact h)) (by have h := ZM; first | exact h | (rw [World.size_alloc] at h; exact h))); generalize World.setCell (World.setCell (World.setCell (World.setCell (World.setCell w4 _ _) _ _) _ _) _ _) _ _ = v4 at TW ⊢; generalize wr.heap.size + 1 = MM at TW ⊢; generalize wr.heap.size = HH at TW ⊢; with_reducible show Exit.then _ _ _ _ v4)
              | (have TW := Lib.hid (Two.ss (.int .i64 c0) (.slice p4 n4 c4) (.bool true) (.int .i64 0) (.slice q4 m4 d4) (w := w4) (b := w3.heap.size + 1) (B := BB) (H := wr.heap.size + 1) (M := wr.heap.size) (by omega) (by omega) (by omega) (by omega) (by omega) (by omega) (by have h := ZH; first | exact h | (rw [World.size_alloc] at h; exact h)) (by have h := ZM; first | exact h | (rw [World.size_alloc] at h; exact h))); generalize World.setCell (World.setCell (World.setCell (World.setCell (World.setCell w4 _ _) _ _) _ _) _ _) _ _ = v4 at TW ⊢; generalize wr.heap.size + 1 = HH at TW ⊢; generalize wr.heap.size = MM at TW ⊢; with_reducible show Exit.then _ _ _ _ v4)
              | (have TW := Lib.hid (Two.sn (.int .i64 c0) (.slice p4 n4 c4) (.bool true) (.int .i64 0) (.slice q4 m4 d4) (w := w4) (b := w3.heap.size + 1) (B := BB) (H := wr.heap.size) (by omega) (by omega) (by omega) ZH); generalize World.alloc (World.setCell (World.setCell (World.setCell w4 _ _) _ _) _ _) _ = v4 at TW ⊢; generalize wr.heap.size = HH at TW ⊢; generalize w4.heap.size = MM at TW ⊢; with_reducible show Exit.then _ _ _ _ v4)
              | (have TW := Lib.hid (Two.ns (.int .i64 c0) (.slice p4 n4 c4) (.bool true) (.int .i64 0) (.slice q4 m4 d4) (w := w4) (b := w3.heap.size + 1) (B := BB) (M := wr.heap.size) (by omega) (by omega) (by omega) ZM); generalize World.alloc (World.setCell (World.setCell w4 _ _) _ _) _ = v4 at TW ⊢; generalize w4.heap.size = HH at TW ⊢; generalize wr.heap.size = MM at TW ⊢; with_reducible show Exit.then _ _ _ _ v4)
              | (have TW := Lib.hid (Two.hm (.int .i64 c0) (.slice p4 n4 c4) (.bool true) (.int .i64 0) (.slice q4 m4 d4) (w := w4) (b := w3.heap.size + 1) (B := BB) (by have := HB4.out.size; omega) (by omega)); generalize World.alloc (World.alloc w4 _) _ = v4 at TW ⊢; generalize w4.heap.size + 1 = MM at TW ⊢; generalize w4.heap.size = HH at TW ⊢; with_reducible show Exit.then _ _ _ _ v4)
              | (have TW := Lib.hid (Two.mh (.int .i64 c0) (.slice p4 n4 c4) (.bool true) (.int .i64 0) (.slice q4 m4 d4) (w := w4) (b := w3.heap.size + 1) (B := BB) (by have := HB4.out.size; omega) (by omega)); generalize World.alloc (World.alloc w4 _) _ = v4 at TW ⊢; generalize w4.heap.size + 1 = HH at TW ⊢; generalize w4.heap.size = MM at TW ⊢; with_reducible show Exit.then _ _ _ _ v4))
            all_goals (
              have BG : Below (w3.heap.size + 1) wr v4 := TW.out.below _ _ (HB4.out.mono (by omega)) (Nat.le_refl _)
              have BGH := Lib.hid BG
              have OX4 := Lib.hid (TW.out.own _ _ OH)
              have OY4 := Lib.hid (TW.out.own _ _ OR)
              have HR4 := Lib.hid TW.out.row
              have MR4 := Lib.hid TW.out.mow
              have hHH := TW.out.hb
              have GR4 := Lib.hid (HGR.out.below BG (Nat.lt_succ_self _))
              have XR4 := Lib.hid (XR.below (BG.mono (Nat.le_refl _)) (by have := B3.out.size; have := xr3.out.lt; omega))
              have BW4 := Lib.hid (BW.out.trans (BG.mono (by have := B3.out.size; omega)))
              clear TW BG
              (try clear ZH ZM)
              (try clear ZH)
              (try clear ZM)
              have h2 := HR4.out.cell 2
              have h0 := HR4.out.cell 0
              have h1 := HR4.out.cell 1
              have hlt4 := HR4.out.lt
              have y1 : ((k : Int) == (m : Int)) = false := by rw [beq_eq_false_iff_ne]; have := HSL.out; omega
              have y2 : ((k : Int) == (m : Int) + 1 - 1) = false := by rw [beq_eq_false_iff_ne]; have := HSL.out; omega
              have y3 : (k == m) = false := by rw [beq_eq_false_iff_ne]; have := HSL.out; omega
              have wr1 : IntKind.i64.wrap (m : Int) = (m : Int) := IntWalk.i64_in _ (by omega)
              clear XR a0 a1 ltr g0 g1 g2 e1
              have GR5 := GR4
              have OX5 := OX4
              have BG5 := Lib.hid (BGH.out.mono (Nat.le_succ w3.heap.size))
              have gf0 := GR5.out.free 0
              have gf1 := GR5.out.free 1
              have gf2 := GR5.out.free 2
              have gc0 := GR5.out.cell 0
              have gc1 := GR5.out.cell 1
              have gc2 := GR5.out.cell 2
              have glt5 := GR5.out.lt
              go_wp2_with fail
              go_roundw
              case rel => exact ⟨k + 1, ⟨c0, s0.take (k + 1), true⟩, p4, n4, c4, by go_num, by omega, HGN, Lib.hid (((GR5.out.set 0 _).set 1 _).set 2 _), Lib.hid (((OX5.out.set (p := ⟨w3.heap.size, 0, none⟩) (Nat.lt_succ_self _) _).set (p := ⟨w3.heap.size, 1, none⟩) (Nat.lt_succ_self _) _).set (p := ⟨w3.heap.size, 2, none⟩) (Nat.lt_succ_self _) _), Lib.hid ((((HB.out.trans BG5.out).setCell (p := ⟨w3.heap.size, 0, none⟩) (Nat.le_refl _) _).setCell (p := ⟨w3.heap.size, 1, none⟩) (Nat.le_refl _) _).setCell (p := ⟨w3.heap.size, 2, none⟩) (Nat.le_refl _) _)⟩
              case measure => simp [intOf]; omega)
        · have hji : ¬ (k : Int) < ((m + 1 : Nat) : Int) := by omega
          have hgn : (⟨gc, gl, go⟩ : Ga) = Ga.none := by have h := HG.out; unfold gAt at h; rw [if_pos (by have := HSL.out; omega)] at h; exact h
          have hgo : go = false := congrArg Ga.isOpen hgn
          subst hgo
          have g9 : (((m + 1 : Nat) : Int) == (n0 : Int)) = true := by have := HN.out; rw [beq_iff_eq]; omega
          have g8 : ((m : Int) + 1 == (n0 : Int)) = true := by have := HN.out; rw [beq_iff_eq]; omega
          clear hgn
          go_wp2_with fail
          go_ret
          exact ⟨by first | rfl | (simp; done), BW.out⟩

set_option maxRecDepth 100000 in
theorem lifted (os : Os) (started : os.Started) (H : Type) (enc : TypeId × Value → H) :
    ReturnsInHanded {} Tryd.checked os 4 .any (fun w args => (Rows.replyBackSpec.pre enc Tryd.prog Tryd.f4 [] false w args ∧ laidMetH Tryd.prog laidHere w) ∧ sizedMet enc Tryd.prog Tryd.f4 (OpenSpec.ofChange Rows.replyBackSpec) false w args)
      (Rows.replyBackSpec.post enc Tryd.prog Tryd.f4 false true false false) := by
  refine handed started (by kernel_rfl) Tryd.func4 #[.agg #[.int .i64 0, .slice none 0 0]] (by kernel_rfl) (by kernel_rfl) (by kernel_rfl) (World.shaped_of_ZipB (by kernel_rfl) (by kernel_rfl))
    (by unfold laidHere; rw [MakeChecks.laidMetH_plain _ _ _ (by kernel_rfl)]; exact laidMet_laidAll _ (by kernel_rfl) (by kernel_rfl)) ?_
  intro W base args ds gs before hval0 hW E
  have hval : ∀ (j : Nat) t v, Tryd.f4.params[j]? = some t → args[j]? = some v → Value.okWide Tryd.prog W .any base t v := hval0
  have hW' := hW
  obtain ⟨p, q, hA0, hV, rfl, _, _⟩ := hW
  have hA : DataW.TrodAll enc Tryd.prog W 0 (fun _ => true) true Tryd.f4.params.toList args.toList ds p := hA0
  rw [Tryd.params4] at hA hval
  obtain ⟨v0, vs0, d0, ds0, p0, q0, hargs, rfl, rfl, r0, t0⟩ := trodAll_cons hA
  obtain ⟨rfl, rfl, rfl⟩ := trodAll_nil t0
  obtain rfl : args = #[v0] := by cases args; simp_all
  obtain ⟨rfl, rfl⟩ := trodVars_none hV
  obtain ⟨c0, u0, s0, rfl, w0, y0, z0, k0⟩ := open_reply (hval 0 24 v0 rfl rfl) r0
  clear hA0 hval0
  simp only [List.append_nil] at hW'
  refine (walk c0 u0 s0 (int_wf w0).1 (int_wf w0).2 (fun s hs => by have := z0 s hs; unfold maxLen at this; exact this) W y0 E).mono fun e W' ⟨he, hb⟩ => ?_
  subst he
  obtain ⟨pa0, t0'⟩ := k0 W' hb
  exact ⟨_, rfl, told hW' (fun _ _ _ => trodAll_cons_mk (shut_bool Tryd.underlying4 _) trodAll_mk0) (trodAll_cons_mk (t0') trodAll_mk0) (fun _ => rfl) hb⟩

theorem over : Rows.ReplyBackSaid :=
  OpenClaim.holds_of_wide 4 Tryd.f4 rfl rfl rfl rfl rfl rfl rfl ⟨rfl, rfl, rfl, rfl, rfl⟩ rfl rfl rfl rfl rfl (by kernel_rfl) Tryd.func4 (by kernel_rfl)
    (of_decide_eq_true (by kernel_rfl)) (by unfold Func.isWrapper; first | (rw [if_pos (by decide +kernel)]; kernel_rfl) | (rw [if_neg (by decide +kernel)]; exact ⟨rfl, rfl⟩))
    (fun os started H enc _ => lifted os started H enc)

theorem proved : Rows.ReplyBackCardSaid :=
  Claim7.holds_tied_plain_at .later [] Rows.replyBackCard.laidKinds true Rows.replyBackCard.stood.harness Rows.replyBackCard.stood.looks
    over (fun _ h => by cases h) (by kernel_rfl) (fun _ h => by cases h) replyBack_row_tie rfl ⟨rfl, rfl⟩ (by kernel_rfl) rfl
    (fun f fn hf hfn => by
      obtain rfl : f = 4 := Option.some.inj ((show Tryd.prog.funcNamed "wharfinger/wharfingerlaw09.ReplyBack" = some 4 by kernel_rfl).symm.trans hf) |>.symm
      obtain rfl : fn = Tryd.f4 := (Option.some.inj (Tryd.func4.symm.trans hfn)).symm
      exact ⟨by kernel_rfl, fun j t ht => by
        rw [Tryd.params4] at ht
        have hm : t ∈ [24] := by simpa using Array.mem_of_getElem? ht
        have hall : ([24].all fun u => !Tryd.prog.wantsStandIn u) = true := by kernel_rfl
        exact (show Tryd.prog.wantsStandIn t = false by simpa using List.all_eq_true.1 hall t hm)⟩)
    (by kernel_rfl)
#print axioms proved
end Go.Proofs.YtbojjbnmjhblfaaDoor.replyBack
