/- The contract of the document's answer of layer 9: wharfingerref09's Print. -/
import Derived.Test.YtbojjbnmjhblfaaDoorReplySame
namespace Go.Proofs.YtbojjbnmjhblfaaDoor.Rp
open Go.Proofs.YtbojjbnmjhblfaaDoor Go.Proofs.YtbojjbnmjhblfaaDoor.Cm Go.Proofs.YtbojjbnmjhblfaaDoor.Quad
open Go Go.ChangeShapes Go.WideShapes Go.ChangeAt Go.RowKit
set_option maxRecDepth 100000
set_option linter.unusedSimpArgs false

set_option maxHeartbeats 8000000 in
theorem rprint_any (code : Int) (lo : -9223372036854775808 ≤ code) (hi : code ≤ 9223372036854775807) (u : Value) (l : Ls) (hz : ∀ s ∈ l, s.length ≤ 9223372036854775807) (w : World) (Y : TextsIs w u l) :
    Calls Tryd.prog 12 #[replyV code u] w fun e w' => ∃ x, e = .returned (.tuple #[x, .bool (print code l).2]) ∧ OwnStrs w.heap.size w' x (print code l).1 ∧ Below w.heap.size w w' := by
  have HM := Lib.hid (fun W Y => rmay_any code lo hi u l hz W Y)
  have HN := Lib.hid (fun W => rnum_any code lo hi W)
  have HP : Hid (print code l = if mayB code l then (linesOf code l, true) else ([], false)) := Lib.hid rfl
  have b0 : Below w.heap.size w (w.alloc (.cells #[.int .i64 code, u] 24)) := (Below.refl _ w).alloc (Nat.le_refl _) _
  have R0 : IsRow (w.alloc (.cells #[.int .i64 code, u] 24)) w.heap.size 24 #[.int .i64 code, u] := IsRow.made w _ _
  have HY := Lib.hid Y
  have HY0 := Lib.hid (Y.alloc (.cells #[.int .i64 code, u] 24))
  obtain ⟨p0, c0, rfl⟩ := Y.form
  clear Y hz
  cases hm : mayB code l with
  | false =>
    rw [hm] at HM HP
    go_enter Tryd.func12, Tryd.ntmps12
    go_wp2_with (go_at_call 10; refine (HM.out _ HY0.out).mono ?_; rintro e w1 ⟨rfl, b1⟩; have B1 := Lib.hid (b0.trans (b1.mono b0.size)))
    go_ret2
    exact ⟨_, by rw [HP.out] <;> rfl, by rw [HP.out]; exact OwnStrs.nil _ _, B1.out⟩
  | true =>
    rw [hm] at HM HP
    have MP := may_parts hm
    have hn20 := MP.few
    have hn1 := MP.one
    have hd := code_len MP.lo MP.hi
    have HS := Lib.hid MP.short
    have HLA : Hid (∀ k (h : k < l.length), lineAt code l.length k l[k] = if k + 1 = l.length then Lib.itoa code ++ 32 :: l[k] else if k = 0 then Lib.itoa code ++ 45 :: l[k] else l[k]) := Lib.hid (fun k h => rfl)
    have HL1 := Lib.hid (fun k (h : k < l.length) => lines_next (code := code) h)
    obtain ⟨a, rfl, _, hab, hcell⟩ := HY.out.some (by omega)
    have HCE := Lib.hid hcell
    obtain ⟨i0, hi, hz0, hz1, hz2⟩ := info_parts info_string
    clear MP hm hcell HY
    generalize Lib.itoa code = d at HN hd HLA
    go_enter Tryd.func12, Tryd.ntmps12
    go_wp2_with (first
      | (go_at_call 10; refine (HM.out _ HY0.out).mono ?_; rintro e w1 ⟨rfl, b1⟩; have B1 := Lib.hid (b0.trans (b1.mono b0.size)); have R1 := R0.call b1; have q0 := R1.cell 0; have q1 := R1.cell 1; have hlt1 := R1.lt)
      | (go_at_call 22; refine (HN.out _).mono ?_; rintro e w2 ⟨rfl, rfl⟩))
    have RH := Lib.hid R1
    clear R0 R1 q0 q1 b0 b1 HY0
    go_loopw [7, 8] (fun x7 x8 wr => ∃ (k : Nat) (v : Value), v = x7 ∧ x8 = .int .i64 (k : Int) ∧ k ≤ l.length ∧ wr.ownsRow w1.heap.size 9 1 v k ((linesUpto code l k).map strV) ∧ Hid (Below w1.heap.size w1 wr)) (fun _ i _ => l.length - (intOf i).toNat)
    case atStart => exact ⟨0, _, rfl, rfl, Nat.zero_le _, World.ownsRow_nil _ _ _ _, Lib.hid (Below.refl _ _)⟩
    case round =>
      obtain ⟨k, v, rfl, rfl, hk, hown, HB⟩ := hrel
      by_cases hlt : k < l.length
      · have hji : (k : Int) < (l.length : Int) := by omega
        have q1 := (RH.out.call HB.out).cell 1
        have hc : wr.cell? (a.add k) = some (.string ⟨l[k].toArray⟩) := by rw [(B1.out.trans (HB.out.mono B1.out.size)).cell (by rw [add_block]; exact hab)]; exact HCE.out k hlt
        have hs := HS.out k hlt
        have HLN := Lib.hid (HL1.out k hlt)
        obtain ⟨x, hx⟩ : ∃ x, x = lineAt code l.length k l[k] := ⟨_, rfl⟩
        rw [← hx] at HLN
        rw [HLA.out k hlt] at hx
        generalize l[k] = t at *
        by_cases h1 : k + 1 = l.length
        · have g1 : ((k : Int) == (l.length : Int) - 1) = true := by rw [beq_iff_eq]; omega
          rw [if_pos h1] at hx
          have H1 := Lib.hid h1
          clear h1
          obtain ⟨q, hq⟩ : ∃ q, q = d ++ [32] := ⟨_, rfl⟩
          have hx1 : ByteArray.mk d.toArray ++ ByteArray.mk #[32] = ⟨q.toArray⟩ := by rw [hq]; apply ByteArray.ext; simp [ByteArray.data_append]
          have hx2 : ByteArray.mk q.toArray ++ ByteArray.mk t.toArray = ⟨x.toArray⟩ := by rw [hq, hx]; apply ByteArray.ext; simp [ByteArray.data_append]
          have n0 : ¬ 9223372036854775807 < d.length + 1 := by omega
          have n1 : ¬ 9223372036854775807 < q.length + t.length := by rw [hq, List.length_append]; simp <;> omega
          clear hq hx
          go_wp2_with (at_builtin; refine wpList_append_own _ rfl _ _ 22 rfl w1.heap.size 9 i0 (.string ByteArray.empty) 1 16 Tryd.underlying22 hi hz0 hz1 hz2 rfl (by decide) _ _ _ rfl (hown.alloc _) ⟨_, 0, none⟩ 1 1 [.string ⟨x.toArray⟩] rfl rfl ?c1 ?c2 ?c3 ?c4 ?c5 ?_)
          case c1 => exact one_new _ _ _
          case c2 => intro y hy; simp only [List.mem_singleton] at hy; subst hy; rfl
          case c3 => unfold maxLen; omega
          case c4 => omega
          case c5 => have := HB.out.size; simp; omega
          intro v' w3 hown' hgrow _
          have hb' : Below w1.heap.size w1 w3 := (HB.out.alloc HB.out.size _).grown hgrow (by have := HB.out.size; simp; omega) (own_ge hown)
          have hown2 := own_add (done := linesUpto code l k) (lines_len _ _ _) hown'
          rw [← HLN.out] at hown2
          have HO2 := Lib.hid hown2
          have HB2 := Lib.hid hb'
          clear hown' hgrow hown hb' hown2 HLN HB
          go_wp2_with fail
          go_roundw
          case rel => exact ⟨k + 1, _, rfl, by go_num, by omega, by first | (have h := HO2.out; rw [lines_len] at h; exact h) | exact HO2.out, HB2⟩
          case measure => simp [intOf]; omega
        · have g1 : ((k : Int) == (l.length : Int) - 1) = false := by rw [beq_eq_false_iff_ne]; omega
          rw [if_neg h1] at hx
          by_cases h0 : k = 0
          · have g0 : ((k : Int) == 0) = true := by rw [beq_iff_eq]; omega
            rw [if_pos h0] at hx
            have H0 := Lib.hid h0
            clear h0
            obtain ⟨q, hq⟩ : ∃ q, q = d ++ [45] := ⟨_, rfl⟩
            have hx1 : ByteArray.mk d.toArray ++ ByteArray.mk #[45] = ⟨q.toArray⟩ := by rw [hq]; apply ByteArray.ext; simp [ByteArray.data_append]
            have hx2 : ByteArray.mk q.toArray ++ ByteArray.mk t.toArray = ⟨x.toArray⟩ := by rw [hq, hx]; apply ByteArray.ext; simp [ByteArray.data_append]
            have n0 : ¬ 9223372036854775807 < d.length + 1 := by omega
            have n1 : ¬ 9223372036854775807 < q.length + t.length := by rw [hq, List.length_append]; simp <;> omega
            clear hq hx
            go_wp2_with (at_builtin; refine wpList_append_own _ rfl _ _ 22 rfl w1.heap.size 9 i0 (.string ByteArray.empty) 1 16 Tryd.underlying22 hi hz0 hz1 hz2 rfl (by decide) _ _ _ rfl (hown.alloc _) ⟨_, 0, none⟩ 1 1 [.string ⟨x.toArray⟩] rfl rfl ?c1 ?c2 ?c3 ?c4 ?c5 ?_)
            case c1 => exact one_new _ _ _
            case c2 => intro y hy; simp only [List.mem_singleton] at hy; subst hy; rfl
            case c3 => unfold maxLen; omega
            case c4 => omega
            case c5 => have := HB.out.size; simp; omega
            intro v' w3 hown' hgrow _
            have hb' : Below w1.heap.size w1 w3 := (HB.out.alloc HB.out.size _).grown hgrow (by have := HB.out.size; simp; omega) (own_ge hown)
            have hown2 := own_add (done := linesUpto code l k) (lines_len _ _ _) hown'
            rw [← HLN.out] at hown2
            have HO2 := Lib.hid hown2
            have HB2 := Lib.hid hb'
            clear hown' hgrow hown hb' hown2 HLN HB
            go_wp2_with fail
            go_roundw
            case rel => exact ⟨k + 1, _, rfl, by go_num, by omega, by first | (have h := HO2.out; rw [lines_len] at h; exact h) | exact HO2.out, HB2⟩
            case measure => simp [intOf]; omega
          · have g0 : ((k : Int) == 0) = false := by rw [beq_eq_false_iff_ne]; omega
            rw [if_neg h0] at hx
            subst hx
            go_wp2_with (at_builtin; refine wpList_append_own _ rfl _ _ 22 rfl w1.heap.size 9 i0 (.string ByteArray.empty) 1 16 Tryd.underlying22 hi hz0 hz1 hz2 rfl (by decide) _ _ _ rfl (hown.alloc _) ⟨_, 0, none⟩ 1 1 [.string ⟨x.toArray⟩] rfl rfl ?c1 ?c2 ?c3 ?c4 ?c5 ?_)
            case c1 => exact one_new _ _ _
            case c2 => intro y hy; simp only [List.mem_singleton] at hy; subst hy; rfl
            case c3 => unfold maxLen; omega
            case c4 => omega
            case c5 => have := HB.out.size; simp; omega
            intro v' w3 hown' hgrow _
            have hb' : Below w1.heap.size w1 w3 := (HB.out.alloc HB.out.size _).grown hgrow (by have := HB.out.size; simp; omega) (own_ge hown)
            have hown2 := own_add (done := linesUpto code l k) (lines_len _ _ _) hown'
            rw [← HLN.out] at hown2
            have HO2 := Lib.hid hown2
            have HB2 := Lib.hid hb'
            clear hown' hgrow hown hb' hown2 HLN HB
            go_wp2_with fail
            go_roundw
            case rel => exact ⟨k + 1, _, rfl, by go_num, by omega, by first | (have h := HO2.out; rw [lines_len] at h; exact h) | exact HO2.out, HB2⟩
            case measure => simp [intOf]; omega
      · have hji : ¬ (k : Int) < (l.length : Int) := by omega
        obtain rfl : k = l.length := by omega
        have q1 := (RH.out.call HB.out).cell 1
        have hO : OwnStrs w1.heap.size wr v (linesOf code l) := own_texts (by have h := hown; unfold linesOf; rw [lines_len]; exact h)
        have HO := Lib.hid (hO.mono B1.out.size)
        clear hown hO
        go_wp2_with fail
        go_ret2
        exact ⟨_, by rw [HP.out] <;> rfl, by rw [HP.out]; exact HO.out, B1.out.trans (HB.out.mono B1.out.size)⟩

theorem rprint_at (code : Int) (lo : -9223372036854775808 ≤ code) (hi : code ≤ 9223372036854775807) (u : Value) (l : Ls) (hz : ∀ s ∈ l, s.length ≤ 9223372036854775807) (P : Ls × Bool) (hP : print code l = P) (w : World) (Y : TextsIs w u l) :
    Calls Tryd.prog 12 #[replyV code u] w fun e w' => (∃ p n c, e = .returned (.tuple #[.slice p n c, .bool P.2]) ∧ n = P.1.length ∧ OwnStrs w.heap.size w' (.slice p n c) P.1) ∧ Below w.heap.size w w' := by
  subst hP
  refine (rprint_any code lo hi u l hz w Y).mono ?_
  rintro e w' ⟨x, rfl, h1, h2⟩
  obtain ⟨p, n, c, rfl, hn⟩ := h1.texts.form3
  exact ⟨⟨p, n, c, rfl, hn, h1⟩, h2⟩

#print axioms rprint_any
end Go.Proofs.YtbojjbnmjhblfaaDoor.Rp
