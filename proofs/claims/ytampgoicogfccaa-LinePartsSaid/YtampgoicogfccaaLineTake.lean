/- The contract of package line's feeder: take. -/
import Derived.Test.YtampgoicogfccaaLineEnd
namespace Go.Proofs.Ytampgoicogfccaa.Ln
open Go.Proofs.Ytampgoicogfccaa
open Go.ChangeShapes Go.WideShapes Go.ChangeAt Go.RowKit
set_option linter.unusedSimpArgs false

theorem put_len (f : Fr) (c : UInt8) (most : Int) : (put f c most).b.length ≤ f.b.length + 1 := by
  unfold put
  split
  · omega
  · split <;> simp

theorem put13_any (K B : Nat) (g : Fr) (most : Int) (lf : Bool) (x out : Value) (ls : List (List UInt8 × Bool)) (hK : K ≤ B) (hl : g.b.length ≤ 1000000) (w : World) (h : Has K B g most lf x out ls w) :
    Calls Try.prog 24 #[.pointer (some ⟨B, 0, none⟩), .int .u8 13] w (HasPost K B (put g 13 most) most lf ls w) := put_any K B g most lf x out ls 13 hK hl w h
theorem put10_any (K B : Nat) (g : Fr) (most : Int) (lf : Bool) (x out : Value) (ls : List (List UInt8 × Bool)) (hK : K ≤ B) (hl : g.b.length ≤ 1000000) (w : World) (h : Has K B g most lf x out ls w) :
    Calls Try.prog 24 #[.pointer (some ⟨B, 0, none⟩), .int .u8 10] w (HasPost K B (put g 10 most) most lf ls w) := put_any K B g most lf x out ls 10 hK hl w h

set_option maxHeartbeats 4000000 in
set_option maxRecDepth 100000 in
theorem take_any (K B : Nat) (g : Fr) (most : Int) (lf : Bool) (x out : Value) (ls : List (List UInt8 × Bool)) (c : UInt8) (hK : K ≤ B) (hl : g.b.length ≤ 900000) (hs : ls.length ≤ 1000000) (w : World) (h : Has K B g most lf x out ls w) :
    Calls Try.prog 18 #[.pointer (some ⟨B, 0, none⟩), .int .u8 (c.toNat : Int)] w (HasPost K B (step most lf g c).1 most lf (ls ++ (step most lf g c).2) w) := by
  obtain ⟨gb, gcr, gskip⟩ := g
  have H := Lib.hid h
  have hlt := h.row.lt
  have c1 := h.c1; have c4 := h.c4
  have f1 := h.free 1
  simp only at c1
  simp only at hl
  clear h
  cases gcr with
  | true =>
    by_cases h10 : c = 10
    · subst h10
      rw [show step most lf ⟨gb, true, gskip⟩ 10 = (none0, [fin ⟨gb, true, gskip⟩]) from by unfold step; rw [if_pos ⟨rfl, Or.inl rfl⟩]]
      go_enter Try.func18, Try.ntmps18
      go_wp2_with (go_at_call 23; refine (end_any K B _ most lf _ _ ls hK hs _ H.out).mono ?_; rintro e w2 ⟨rfl, h2, b2⟩; have H2 := Lib.hid h2; have B2 := Lib.hid b2; clear h2 b2)
      go_end0
      exact ⟨rfl, H2.out, B2.out⟩
    · have q10 : ((c.toNat : Int) == 10) = false := byte_ne h10
      have hL := put_len ⟨gb, true, gskip⟩ 13 most
      simp only at hL
      by_cases h13 : c = 13
      · subst h13
        rw [show step most lf ⟨gb, true, gskip⟩ 13 = (⟨(put ⟨gb, true, gskip⟩ 13 most).b, true, (put ⟨gb, true, gskip⟩ 13 most).skip⟩, []) from by unfold step; rw [if_neg (fun h => h10 h.1), if_pos rfl]; rfl]
        go_enter Try.func18, Try.ntmps18
        go_wp2_with (go_at_call 24; refine (put13_any K B _ most lf _ _ ls hK (by simp only; omega) _ H.out).mono ?_; rintro e w2 ⟨rfl, ⟨x2, o2, h2⟩, b2⟩; have H2 := Lib.hid h2; have B2 := Lib.hid b2; have j1 := h2.c1; have jf1 := h2.free 1; have J1 := (h2.cr false).c1; have JF1 := (h2.cr false).free 1; have H3 := Lib.hid ((h2.cr false).cr true); clear h2 b2)
        go_end0
        exact ⟨rfl, ⟨x2, o2, by simpa using H3.out⟩, (B2.out.setCell hK _).setCell hK _⟩
      · have q13 : ((c.toNat : Int) == 13) = false := byte_ne h13
        rw [show step most lf ⟨gb, true, gskip⟩ c = (put ⟨(put ⟨gb, true, gskip⟩ 13 most).b, false, (put ⟨gb, true, gskip⟩ 13 most).skip⟩ c most, []) from by unfold step; rw [if_neg (fun h => h10 h.1), if_neg h13]; rfl]
        go_enter Try.func18, Try.ntmps18
        go_wp2_with (first
          | (go_at_call 24; refine (put13_any K B _ most lf _ _ ls hK (by simp only; omega) _ H.out).mono ?_; rintro e w2 ⟨rfl, ⟨x2, o2, h2⟩, b2⟩; have B2 := Lib.hid b2; have j1 := h2.c1; have jf1 := h2.free 1; have H3 := Lib.hid (h2.cr false); clear h2 b2 H)
          | (go_at_call 24; refine (put_any K B _ most lf _ _ ls c hK (by simp only; omega) _ H3.out).mono ?_; rintro e w4 ⟨rfl, h4, b4⟩; have H4 := Lib.hid h4; have B4 := Lib.hid b4; clear h4 b4))
        go_end0
        exact ⟨rfl, by simpa using H4.out, (B2.out.setCell hK _).trans B4.out⟩
  | false =>
    by_cases h13 : c = 13
    · subst h13
      rw [show step most lf ⟨gb, false, gskip⟩ 13 = (⟨gb, true, gskip⟩, []) from by unfold step; rw [if_neg (by intro h; exact absurd h.1 (by decide)), if_pos rfl]; rfl]
      go_enter Try.func18, Try.ntmps18
      go_wp2_with fail
      go_end0
      exact ⟨rfl, ⟨_, _, by simpa using H.out.cr true⟩, (Below.refl K w).setCell hK _⟩
    · have q13 : ((c.toNat : Int) == 13) = false := byte_ne h13
      by_cases h10 : c = 10
      · subst h10
        cases lf with
        | true =>
          rw [show step most true ⟨gb, false, gskip⟩ 10 = (none0, [fin ⟨gb, false, gskip⟩]) from by unfold step; rw [if_pos ⟨rfl, Or.inr rfl⟩]]
          go_enter Try.func18, Try.ntmps18
          go_wp2_with (go_at_call 23; refine (end_any K B _ most true _ _ ls hK hs _ H.out).mono ?_; rintro e w2 ⟨rfl, h2, b2⟩; have H2 := Lib.hid h2; have B2 := Lib.hid b2; clear h2 b2)
          go_end0
          exact ⟨rfl, H2.out, B2.out⟩
        | false =>
          rw [show step most false ⟨gb, false, gskip⟩ 10 = (put ⟨gb, false, gskip⟩ 10 most, []) from by unfold step; rw [if_neg (by rintro ⟨_, h | h⟩ <;> cases h), if_neg (by decide)]; rfl]
          go_enter Try.func18, Try.ntmps18
          go_wp2_with (go_at_call 24; refine (put10_any K B _ most false _ _ ls hK (by simp only; omega) _ H.out).mono ?_; rintro e w2 ⟨rfl, h2, b2⟩; have H2 := Lib.hid h2; have B2 := Lib.hid b2; clear h2 b2)
          go_end0
          exact ⟨rfl, by simpa using H2.out, B2.out⟩
      · have q10 : ((c.toNat : Int) == 10) = false := byte_ne h10
        rw [show step most lf ⟨gb, false, gskip⟩ c = (put ⟨gb, false, gskip⟩ c most, []) from by unfold step; rw [if_neg (fun h => h10 h.1), if_neg h13]; rfl]
        go_enter Try.func18, Try.ntmps18
        go_wp2_with (go_at_call 24; refine (put_any K B _ most lf _ _ ls c hK (by simp only; omega) _ H.out).mono ?_; rintro e w2 ⟨rfl, h2, b2⟩; have H2 := Lib.hid h2; have B2 := Lib.hid b2; clear h2 b2)
        go_end0
        exact ⟨rfl, by simpa using H2.out, B2.out⟩

#print axioms take_any
end Go.Proofs.Ytampgoicogfccaa.Ln
