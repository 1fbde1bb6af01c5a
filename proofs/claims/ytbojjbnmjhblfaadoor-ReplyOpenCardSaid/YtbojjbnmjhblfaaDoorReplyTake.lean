/- The contracts of reply.takeFirst, takeNext, take and Take. -/
import Derived.Test.YtbojjbnmjhblfaaDoorReplyWith
namespace Go.Proofs.YtbojjbnmjhblfaaDoor.Rp
open Go.Proofs.YtbojjbnmjhblfaaDoor Go.Proofs.YtbojjbnmjhblfaaDoor.Cm Go.Proofs.YtbojjbnmjhblfaaDoor.Quad
open Go Go.ChangeShapes Go.WideShapes Go.ChangeAt Go.RowKit
set_option maxRecDepth 100000
set_option linter.unusedSimpArgs false

/-- what a line led to, as the code tells it: what has come, the line among it, whether it was the last one; the error -/
structure Tn where
  g : Ga
  ended : Bool
  err : Int
def Tn.tk (T : Tn) : Tk := if T.ended then ⟨Ga.none, T.g.code, T.g.lines, true, T.err⟩ else ⟨T.g, 0, [], false, T.err⟩
abbrev takenV (c : Int) (u : Value) (o b : Bool) : Value := .agg #[.int .i64 c, u, .bool o, .bool b]
def TnPost (base : Nat) (T : Tn) (e : Ending) (w' : World) : Prop := ∃ p n k, e = .returned (.tuple #[takenV T.g.code (.slice p n k) T.g.isOpen T.ended, .int .i64 T.err]) ∧ OwnStrs base w' (.slice p n k) T.g.lines

set_option maxHeartbeats 8000000 in
theorem takeFirst_any (s : List UInt8) (hs : s.length ≤ 100000) (w : World) (E : Env w) :
    Calls Tryd.prog 32 #[.string ⟨s.toArray⟩] w fun e w' => (∃ T : Tn, T.tk = first s ∧ TnPost w.heap.size T e w') ∧ Below w.heap.size w w' := by
  have b0 : Below w.heap.size w (w.alloc (.cells #[.int .i64 0, .slice none 0 0, .bool false, .bool false] 47)) := (Below.refl _ w).alloc (Nat.le_refl _) _
  have R0 : IsRow (w.alloc (.cells #[.int .i64 0, .slice none 0 0, .bool false, .bool false] 47)) w.heap.size 47 #[.int .i64 0, .slice none 0 0, .bool false, .bool false] := IsRow.made w _ _
  have HF := Lib.hid (fun W EW => firstCode_any s (by omega) W EW)
  have HI := Lib.hid (fun W => isCode_any (codeN s) W)
  have HC := Lib.hid (fun W EW => cutEnd_any (codeN s) (by have := codeN_lo s; omega) (by have := codeN_hi s; omega) s (by omega) W EW)
  have HN := Lib.hid (fun W EW => num_any (codeN s) (by have := codeN_lo s; omega) (by have := codeN_hi s; omega) W EW)
  rcases begun s with ⟨h, he⟩ | ⟨h, hen, he⟩ | ⟨h, hen, r, hr, he⟩ | ⟨h, hen, hp, he⟩
  · have HE := Lib.hid he
    rw [show (decide (100 ≤ codeN s) && decide (codeN s ≤ 599)) = false from by rw [decide_eq_false h]; rfl] at HI
    generalize codeN s = n at *
    clear he h HC HN
    go_enter Tryd.func32, Tryd.ntmps32
    go_wp2_with (first
      | (go_at_call 36; refine (HF.out _ (E.below b0)).mono ?_; rintro e w1 ⟨rfl, b1⟩; have B2 := Lib.hid ((b0.trans (b1.mono b0.size)).alloc (b0.trans (b1.mono b0.size)).size (.cells #[.int .i64 n, .slice none 0 0, .bool true] 33)); have RH2 := Lib.hid ((R0.call b1).alloc (.cells #[.int .i64 n, .slice none 0 0, .bool true] 33)); have RG2 := Lib.hid (IsRow.made w1 33 #[.int .i64 n, .slice none 0 0, .bool true]); have f0 := RH2.out.free 0; have f1 := RH2.out.free 1; have f2 := RH2.out.free 2; have f3 := RH2.out.free 3; have h0 := RH2.out.cell 0; have h1 := RH2.out.cell 1; have h2 := RH2.out.cell 2; have h3 := RH2.out.cell 3; have hlt := RH2.out.lt; clear b1)
      | (go_at_call 23; refine (HI.out _).mono ?_; rintro e w2 ⟨rfl, rfl⟩))
    generalize hW : World.setCell _ _ _ = W9
    have FR : IsRow W9 w.heap.size 47 #[.int .i64 0, .slice none 0 0, .bool false, .bool false] := by rw [← hW]; exact (((RH2.out.set 0 _).set 1 _).set 2 _).set 3 _
    have B9 : Below w.heap.size w W9 := by rw [← hW]; exact (((B2.out.setCell (p := ⟨w.heap.size, 0, none⟩) (Nat.le_refl _) _).setCell (p := ⟨w.heap.size, 1, none⟩) (Nat.le_refl _) _).setCell (p := ⟨w.heap.size, 2, none⟩) (Nat.le_refl _) _).setCell (p := ⟨w.heap.size, 3, none⟩) (Nat.le_refl _) _
    have O9 : OwnStrs w.heap.size W9 (.slice none 0 0) [] := OwnStrs.nil _ _
    have y0 : W9.cell? ⟨w.heap.size, 0, none⟩ = some (.int .i64 0) := FR.cell 0
    have y1 : W9.cell? ⟨w.heap.size, 1, none⟩ = some (.slice none 0 0) := FR.cell 1
    have y2 : W9.cell? ⟨w.heap.size, 2, none⟩ = some (.bool false) := FR.cell 2
    have y3 : W9.cell? ⟨w.heap.size, 3, none⟩ = some (.bool false) := FR.cell 3
    exact bodyPost_ret (v := .tuple #[takenV 0 (.slice none 0 0) false false, .int .i64 2]) (by simp [results, Tryd.results32, go_sem, takenV, y0, y1, y2, y3]) rfl ⟨⟨⟨Ga.none, false, 2⟩, HE.out.symm, _, _, _, rfl, O9⟩, B9⟩
  · have HE := Lib.hid he
    rw [show (decide (100 ≤ codeN s) && decide (codeN s ≤ 599)) = true from by rw [decide_eq_true h, decide_eq_true (codeN_hi s)]; rfl] at HI
    rw [hen] at HC
    have hT : cutT (codeN s) s = rest s := by unfold cutT; rw [hen, if_pos rfl]
    rw [hT] at HC
    generalize codeN s = n at *
    generalize rest s = t at *
    have HW := Lib.hid (fun W Y => with_any n (.slice none 0 0) true [] t (by decide) W Y)
    clear he h hen HN hT
    go_enter Tryd.func32, Tryd.ntmps32
    go_wp2_with (first
      | (go_at_call 36; refine (HF.out _ (E.below b0)).mono ?_; rintro e w1 ⟨rfl, b1⟩; have B2 := Lib.hid ((b0.trans (b1.mono b0.size)).alloc (b0.trans (b1.mono b0.size)).size (.cells #[.int .i64 n, .slice none 0 0, .bool true] 33)); have RH2 := Lib.hid ((R0.call b1).alloc (.cells #[.int .i64 n, .slice none 0 0, .bool true] 33)); have RG2 := Lib.hid (IsRow.made w1 33 #[.int .i64 n, .slice none 0 0, .bool true]); have f0 := RH2.out.free 0; have f1 := RH2.out.free 1; have f2 := RH2.out.free 2; have f3 := RH2.out.free 3; have h0 := RH2.out.cell 0; have h1 := RH2.out.cell 1; have h2 := RH2.out.cell 2; have h3 := RH2.out.cell 3; have hlt := RH2.out.lt; clear b1)
      | (go_at_call 23; refine (HI.out _).mono ?_; rintro e w2 ⟨rfl, rfl⟩)
      | (go_at_call 24; refine (HC.out _ (E.below B2.out)).mono ?_; rintro e w3 ⟨rfl, b3⟩; clear f0 f1 f2 f3 h0 h1 h2 h3 hlt; have B3 := Lib.hid (B2.out.trans (b3.mono B2.out.size)); have RH3 := Lib.hid (RH2.out.call b3); have RG3 := Lib.hid (RG2.out.call b3); have g0 := RG3.out.cell 0; have g1 := RG3.out.cell 1; have g2 := RG3.out.cell 2; have glt := RG3.out.lt; have f0 := RH3.out.free 0; have f1 := RH3.out.free 1; have f2 := RH3.out.free 2; have f3 := RH3.out.free 3; have h0 := RH3.out.cell 0; have h1 := RH3.out.cell 1; have h2 := RH3.out.cell 2; have h3 := RH3.out.cell 3; have hlt := RH3.out.lt; clear b3)
      | (go_at_call 35; refine (HW.out _ (TextsIs.nil _)).mono ?_; rintro e w4 ⟨q, m, d, rfl, hm, ho, b4⟩; clear f0 f1 f2 f3 h0 h1 h2 h3 hlt; clear g0 g1 g2 glt; have B4 := Lib.hid (B3.out.trans (b4.mono B3.out.size)); have RH4 := Lib.hid (RH3.out.call b4); have f0 := RH4.out.free 0; have f1 := RH4.out.free 1; have f2 := RH4.out.free 2; have f3 := RH4.out.free 3; have h0 := RH4.out.cell 0; have h1 := RH4.out.cell 1; have h2 := RH4.out.cell 2; have h3 := RH4.out.cell 3; have hlt := RH4.out.lt; have OO := Lib.hid ho; have OL := Lib.hid RH3.out.lt; clear b4 hm ho))
    generalize hW : World.setCell _ _ _ = W9
    have FR : IsRow W9 w.heap.size 47 #[.int .i64 n, .slice q m d, .bool true, .bool true] := by rw [← hW]; exact (((RH4.out.set 0 _).set 1 _).set 2 _).set 3 _
    have B9 : Below w.heap.size w W9 := by rw [← hW]; exact (((B4.out.setCell (p := ⟨w.heap.size, 0, none⟩) (Nat.le_refl _) _).setCell (p := ⟨w.heap.size, 1, none⟩) (Nat.le_refl _) _).setCell (p := ⟨w.heap.size, 2, none⟩) (Nat.le_refl _) _).setCell (p := ⟨w.heap.size, 3, none⟩) (Nat.le_refl _) _
    have O9 : OwnStrs w.heap.size W9 (.slice q m d) [t] := by
      rw [← hW]
      exact ((((OO.out.set (p := ⟨w.heap.size, 0, none⟩) OL.out _).set (p := ⟨w.heap.size, 1, none⟩) OL.out _).set (p := ⟨w.heap.size, 2, none⟩) OL.out _).set (p := ⟨w.heap.size, 3, none⟩) OL.out _).mono (Nat.le_of_lt OL.out)
    have y0 : W9.cell? ⟨w.heap.size, 0, none⟩ = some (.int .i64 n) := FR.cell 0
    have y1 : W9.cell? ⟨w.heap.size, 1, none⟩ = some (.slice q m d) := FR.cell 1
    have y2 : W9.cell? ⟨w.heap.size, 2, none⟩ = some (.bool true) := FR.cell 2
    have y3 : W9.cell? ⟨w.heap.size, 3, none⟩ = some (.bool true) := FR.cell 3
    exact bodyPost_ret (v := .tuple #[takenV n (.slice q m d) true true, .int .i64 0]) (by simp [results, Tryd.results32, go_sem, takenV, y0, y1, y2, y3]) rfl ⟨⟨⟨⟨n, [t], true⟩, true, 0⟩, HE.out.symm, _, _, _, rfl, O9⟩, B9⟩
  · have HE := Lib.hid he
    rw [show (decide (100 ≤ codeN s) && decide (codeN s ≤ 599)) = true from by rw [decide_eq_true h, decide_eq_true (codeN_hi s)]; rfl] at HI
    rw [hen] at HC
    have hp : Lib.hasPrefix s (Lib.itoa (codeN s) ++ [45]) = true ∧ Lib.trimPrefix s (Lib.itoa (codeN s) ++ [45]) = r := by
      have h1 : Lib.hasPrefix s (Lib.itoa (codeN s) ++ [45]) = true := by
        unfold Lib.hasPrefix
        rw [List.isPrefixOf_iff_prefix]
        exact ⟨r, by rw [List.append_assoc]; exact hr.symm⟩
      refine ⟨h1, ?_⟩
      unfold Lib.trimPrefix
      rw [h1, if_pos rfl]
      have hl : (Lib.itoa (codeN s) ++ [(45 : UInt8)]).length = (Lib.itoa (codeN s)).length + 1 := by simp
      rw [hl]
      have : s = (Lib.itoa (codeN s) ++ [(45 : UInt8)]) ++ r := by rw [List.append_assoc]; exact hr
      generalize Lib.itoa (codeN s) = d at *
      subst this
      rw [← hl, List.drop_left]
    have hd := code_len h (codeN_hi s)
    have HP := Lib.hid (fun W => cutPrefix_any s (Lib.itoa (codeN s) ++ [45]) W)
    rw [hp.1, hp.2] at HP
    generalize codeN s = n at *
    generalize Lib.itoa n = d' at *
    obtain ⟨q', hq⟩ : ∃ q, q = d' ++ [(45 : UInt8)] := ⟨_, rfl⟩
    rw [← hq] at HP
    have hx1 : ByteArray.mk d'.toArray ++ ByteArray.mk #[45] = ⟨q'.toArray⟩ := by rw [hq]; apply ByteArray.ext; simp [ByteArray.data_append]
    have n0 : ¬ 9223372036854775807 < d'.length + 1 := by omega
    have HW := Lib.hid (fun W Y => with_any n (.slice none 0 0) true [] r (by decide) W Y)
    generalize cutT n s = t at *
    clear he h hen hr hp hq hd
    go_enter Tryd.func32, Tryd.ntmps32
    go_wp2_with (first
      | (go_at_call 36; refine (HF.out _ (E.below b0)).mono ?_; rintro e w1 ⟨rfl, b1⟩; have B2 := Lib.hid ((b0.trans (b1.mono b0.size)).alloc (b0.trans (b1.mono b0.size)).size (.cells #[.int .i64 n, .slice none 0 0, .bool true] 33)); have RH2 := Lib.hid ((R0.call b1).alloc (.cells #[.int .i64 n, .slice none 0 0, .bool true] 33)); have RG2 := Lib.hid (IsRow.made w1 33 #[.int .i64 n, .slice none 0 0, .bool true]); have f0 := RH2.out.free 0; have f1 := RH2.out.free 1; have f2 := RH2.out.free 2; have f3 := RH2.out.free 3; have h0 := RH2.out.cell 0; have h1 := RH2.out.cell 1; have h2 := RH2.out.cell 2; have h3 := RH2.out.cell 3; have hlt := RH2.out.lt; clear b1)
      | (go_at_call 23; refine (HI.out _).mono ?_; rintro e w2 ⟨rfl, rfl⟩)
      | (go_at_call 24; refine (HC.out _ (E.below B2.out)).mono ?_; rintro e w3 ⟨rfl, b3⟩; clear f0 f1 f2 f3 h0 h1 h2 h3 hlt; have B3 := Lib.hid (B2.out.trans (b3.mono B2.out.size)); have RH3 := Lib.hid (RH2.out.call b3); have RG3 := Lib.hid (RG2.out.call b3); have g0 := RG3.out.cell 0; have g1 := RG3.out.cell 1; have g2 := RG3.out.cell 2; have glt := RG3.out.lt; have f0 := RH3.out.free 0; have f1 := RH3.out.free 1; have f2 := RH3.out.free 2; have f3 := RH3.out.free 3; have h0 := RH3.out.cell 0; have h1 := RH3.out.cell 1; have h2 := RH3.out.cell 2; have h3 := RH3.out.cell 3; have hlt := RH3.out.lt; clear b3)
      | (go_at_call 20; refine (HN.out _ (E.below B3.out)).mono ?_; rintro e w4 ⟨rfl, b4⟩; clear f0 f1 f2 f3 h0 h1 h2 h3 hlt; clear g0 g1 g2 glt; have B4 := Lib.hid (B3.out.trans (b4.mono B3.out.size)); have RH4 := Lib.hid (RH3.out.call b4); have RG4 := Lib.hid (RG3.out.call b4); have g0 := RG4.out.cell 0; have g1 := RG4.out.cell 1; have g2 := RG4.out.cell 2; have glt := RG4.out.lt; have f0 := RH4.out.free 0; have f1 := RH4.out.free 1; have f2 := RH4.out.free 2; have f3 := RH4.out.free 3; have h0 := RH4.out.cell 0; have h1 := RH4.out.cell 1; have h2 := RH4.out.cell 2; have h3 := RH4.out.cell 3; have hlt := RH4.out.lt; clear b4)
      | (go_at_call 37; refine (HP.out _).mono ?_; rintro e w9 ⟨rfl, rfl⟩)
      | (go_at_call 35; refine (HW.out _ (TextsIs.nil _)).mono ?_; rintro e w5 ⟨q, m, d, rfl, hm, ho, b5⟩; clear f0 f1 f2 f3 h0 h1 h2 h3 hlt; clear g0 g1 g2 glt; have B5 := Lib.hid (B4.out.trans (b5.mono B4.out.size)); have RH5 := Lib.hid (RH4.out.call b5); have f0 := RH5.out.free 0; have f1 := RH5.out.free 1; have f2 := RH5.out.free 2; have f3 := RH5.out.free 3; have h0 := RH5.out.cell 0; have h1 := RH5.out.cell 1; have h2 := RH5.out.cell 2; have h3 := RH5.out.cell 3; have hlt := RH5.out.lt; have OO := Lib.hid ho; have OL := Lib.hid RH4.out.lt; clear b5 hm ho))
    generalize hW : World.setCell _ _ _ = W9
    have FR : IsRow W9 w.heap.size 47 #[.int .i64 n, .slice q m d, .bool true, .bool false] := by rw [← hW]; exact (((RH5.out.set 0 _).set 1 _).set 2 _).set 3 _
    have B9 : Below w.heap.size w W9 := by rw [← hW]; exact (((B5.out.setCell (p := ⟨w.heap.size, 0, none⟩) (Nat.le_refl _) _).setCell (p := ⟨w.heap.size, 1, none⟩) (Nat.le_refl _) _).setCell (p := ⟨w.heap.size, 2, none⟩) (Nat.le_refl _) _).setCell (p := ⟨w.heap.size, 3, none⟩) (Nat.le_refl _) _
    have O9 : OwnStrs w.heap.size W9 (.slice q m d) [r] := by
      rw [← hW]
      exact ((((OO.out.set (p := ⟨w.heap.size, 0, none⟩) OL.out _).set (p := ⟨w.heap.size, 1, none⟩) OL.out _).set (p := ⟨w.heap.size, 2, none⟩) OL.out _).set (p := ⟨w.heap.size, 3, none⟩) OL.out _).mono (Nat.le_of_lt OL.out)
    have y0 : W9.cell? ⟨w.heap.size, 0, none⟩ = some (.int .i64 n) := FR.cell 0
    have y1 : W9.cell? ⟨w.heap.size, 1, none⟩ = some (.slice q m d) := FR.cell 1
    have y2 : W9.cell? ⟨w.heap.size, 2, none⟩ = some (.bool true) := FR.cell 2
    have y3 : W9.cell? ⟨w.heap.size, 3, none⟩ = some (.bool false) := FR.cell 3
    exact bodyPost_ret (v := .tuple #[takenV n (.slice q m d) true false, .int .i64 0]) (by simp [results, Tryd.results32, go_sem, takenV, y0, y1, y2, y3]) rfl ⟨⟨⟨⟨n, [r], true⟩, false, 0⟩, HE.out.symm, _, _, _, rfl, O9⟩, B9⟩
  · have HE := Lib.hid he
    rw [show (decide (100 ≤ codeN s) && decide (codeN s ≤ 599)) = true from by rw [decide_eq_true h, decide_eq_true (codeN_hi s)]; rfl] at HI
    rw [hen] at HC
    have hd := code_len h (codeN_hi s)
    have HP := Lib.hid (fun W => cutPrefix_any s (Lib.itoa (codeN s) ++ [45]) W)
    rw [hp] at HP
    generalize Lib.trimPrefix s (Lib.itoa (codeN s) ++ [45]) = tp at *
    generalize codeN s = n at *
    generalize Lib.itoa n = d' at *
    obtain ⟨q', hq⟩ : ∃ q, q = d' ++ [(45 : UInt8)] := ⟨_, rfl⟩
    rw [← hq] at HP
    have hx1 : ByteArray.mk d'.toArray ++ ByteArray.mk #[45] = ⟨q'.toArray⟩ := by rw [hq]; apply ByteArray.ext; simp [ByteArray.data_append]
    have n0 : ¬ 9223372036854775807 < d'.length + 1 := by omega
    generalize cutT n s = t at *
    clear he h hen hp hq hd
    go_enter Tryd.func32, Tryd.ntmps32
    go_wp2_with (first
      | (go_at_call 36; refine (HF.out _ (E.below b0)).mono ?_; rintro e w1 ⟨rfl, b1⟩; have B2 := Lib.hid ((b0.trans (b1.mono b0.size)).alloc (b0.trans (b1.mono b0.size)).size (.cells #[.int .i64 n, .slice none 0 0, .bool true] 33)); have RH2 := Lib.hid ((R0.call b1).alloc (.cells #[.int .i64 n, .slice none 0 0, .bool true] 33)); have RG2 := Lib.hid (IsRow.made w1 33 #[.int .i64 n, .slice none 0 0, .bool true]); have f0 := RH2.out.free 0; have f1 := RH2.out.free 1; have f2 := RH2.out.free 2; have f3 := RH2.out.free 3; have h0 := RH2.out.cell 0; have h1 := RH2.out.cell 1; have h2 := RH2.out.cell 2; have h3 := RH2.out.cell 3; have hlt := RH2.out.lt; clear b1)
      | (go_at_call 23; refine (HI.out _).mono ?_; rintro e w2 ⟨rfl, rfl⟩)
      | (go_at_call 24; refine (HC.out _ (E.below B2.out)).mono ?_; rintro e w3 ⟨rfl, b3⟩; clear f0 f1 f2 f3 h0 h1 h2 h3 hlt; have B3 := Lib.hid (B2.out.trans (b3.mono B2.out.size)); have RH3 := Lib.hid (RH2.out.call b3); have RG3 := Lib.hid (RG2.out.call b3); have g0 := RG3.out.cell 0; have g1 := RG3.out.cell 1; have g2 := RG3.out.cell 2; have glt := RG3.out.lt; have f0 := RH3.out.free 0; have f1 := RH3.out.free 1; have f2 := RH3.out.free 2; have f3 := RH3.out.free 3; have h0 := RH3.out.cell 0; have h1 := RH3.out.cell 1; have h2 := RH3.out.cell 2; have h3 := RH3.out.cell 3; have hlt := RH3.out.lt; clear b3)
      | (go_at_call 20; refine (HN.out _ (E.below B3.out)).mono ?_; rintro e w4 ⟨rfl, b4⟩; clear f0 f1 f2 f3 h0 h1 h2 h3 hlt; clear g0 g1 g2 glt; have B4 := Lib.hid (B3.out.trans (b4.mono B3.out.size)); have RH4 := Lib.hid (RH3.out.call b4); have RG4 := Lib.hid (RG3.out.call b4); have g0 := RG4.out.cell 0; have g1 := RG4.out.cell 1; have g2 := RG4.out.cell 2; have glt := RG4.out.lt; have f0 := RH4.out.free 0; have f1 := RH4.out.free 1; have f2 := RH4.out.free 2; have f3 := RH4.out.free 3; have h0 := RH4.out.cell 0; have h1 := RH4.out.cell 1; have h2 := RH4.out.cell 2; have h3 := RH4.out.cell 3; have hlt := RH4.out.lt; clear b4)
      | (go_at_call 37; refine (HP.out _).mono ?_; rintro e w9 ⟨rfl, rfl⟩))
    generalize hW : World.setCell _ _ _ = W9
    have FR : IsRow W9 w.heap.size 47 #[.int .i64 0, .slice none 0 0, .bool false, .bool false] := by rw [← hW]; exact (((RH4.out.set 0 _).set 1 _).set 2 _).set 3 _
    have B9 : Below w.heap.size w W9 := by rw [← hW]; exact (((B4.out.setCell (p := ⟨w.heap.size, 0, none⟩) (Nat.le_refl _) _).setCell (p := ⟨w.heap.size, 1, none⟩) (Nat.le_refl _) _).setCell (p := ⟨w.heap.size, 2, none⟩) (Nat.le_refl _) _).setCell (p := ⟨w.heap.size, 3, none⟩) (Nat.le_refl _) _
    have O9 : OwnStrs w.heap.size W9 (.slice none 0 0) [] := OwnStrs.nil _ _
    have y0 : W9.cell? ⟨w.heap.size, 0, none⟩ = some (.int .i64 0) := FR.cell 0
    have y1 : W9.cell? ⟨w.heap.size, 1, none⟩ = some (.slice none 0 0) := FR.cell 1
    have y2 : W9.cell? ⟨w.heap.size, 2, none⟩ = some (.bool false) := FR.cell 2
    have y3 : W9.cell? ⟨w.heap.size, 3, none⟩ = some (.bool false) := FR.cell 3
    exact bodyPost_ret (v := .tuple #[takenV 0 (.slice none 0 0) false false, .int .i64 2]) (by simp [results, Tryd.results32, go_sem, takenV, y0, y1, y2, y3]) rfl ⟨⟨⟨Ga.none, false, 2⟩, HE.out.symm, _, _, _, rfl, O9⟩, B9⟩

set_option maxHeartbeats 8000000 in
theorem takeNext_any (c : Int) (lo : -9223372036854775808 ≤ c) (hi : c ≤ 9223372036854775807) (u : Value) (l : Ls) (s : List UInt8) (hl : l.length ≤ 1000) (hs : s.length ≤ 100000) (w : World) (E : Env w) (Y : TextsIs w u l) :
    Calls Tryd.prog 31 #[gatherV c u true, .string ⟨s.toArray⟩] w fun e w' => (∃ T : Tn, T.tk = later c l s ∧ TnPost w.heap.size T e w') ∧ Below w.heap.size w w' := by
  obtain ⟨p, n, k, rfl, hn⟩ := Y.form3
  have B0 : Hid (Below w.heap.size w ((w.alloc (.cells #[.int .i64 c, .slice p n k, .bool true] 33)).alloc (.cells #[.int .i64 0, .slice none 0 0, .bool false, .bool false] 47))) := Lib.hid (((Below.refl _ w).alloc (Nat.le_refl _) _).alloc (by simp) _)
  have RG0 : Hid (IsRow ((w.alloc (.cells #[.int .i64 c, .slice p n k, .bool true] 33)).alloc (.cells #[.int .i64 0, .slice none 0 0, .bool false, .bool false] 47)) w.heap.size 33 #[.int .i64 c, .slice p n k, .bool true]) := Lib.hid ((IsRow.made w _ _).alloc _)
  have RH0 : Hid (IsRow ((w.alloc (.cells #[.int .i64 c, .slice p n k, .bool true] 33)).alloc (.cells #[.int .i64 0, .slice none 0 0, .bool false, .bool false] 47)) (w.heap.size + 1) 47 #[.int .i64 0, .slice none 0 0, .bool false, .bool false]) := Lib.hid (by have h := IsRow.made (w.alloc (.cells #[.int .i64 c, .slice p n k, .bool true] 33)) 47 #[.int .i64 0, .slice none 0 0, .bool false, .bool false]; rw [World.size_alloc] at h; exact h)
  have Y0 : Hid (TextsIs ((w.alloc (.cells #[.int .i64 c, .slice p n k, .bool true] 33)).alloc (.cells #[.int .i64 0, .slice none 0 0, .bool false, .bool false] 47)) (.slice p n k) l) := Lib.hid ((Y.alloc _).alloc _)
  have HC := Lib.hid (fun W EW => cutEnd_any c lo hi s (by omega) W EW)
  have HL : later c l s = if ends c s then ⟨Ga.none, c, l ++ [s.drop ((Lib.itoa c).length + 1)], true, 0⟩ else if 19 ≤ l.length then Tk.bad 5 else ⟨⟨c, l ++ [s], true⟩, 0, [], false, 0⟩ := rfl
  cases hen : ends c s with
  | true =>
    rw [hen, if_pos rfl, ends_rest hen] at HL
    rw [hen] at HC
    have hT : cutT c s = rest s := by unfold cutT; rw [hen, if_pos rfl]
    rw [hT] at HC
    have HE := Lib.hid HL
    have HW := Lib.hid (fun W Y => with_any c (.slice p n k) true l (rest s) hl W Y)
    generalize rest s = t at *
    clear HL hen hT Y hn
    go_enter Tryd.func31, Tryd.ntmps31
    go_wp2_with (first
      | (go_at_call 24; refine (HC.out _ (E.below B0.out)).mono ?_; rintro e w1 ⟨rfl, b1⟩; have B1 := Lib.hid (B0.out.trans (b1.mono B0.out.size)); have RH1 := Lib.hid (RH0.out.call b1); have Y1 := Lib.hid (Y0.out.call b1); have RG1 := Lib.hid (RG0.out.call b1); have g0 := RG1.out.cell 0; have g1 := RG1.out.cell 1; have g2 := RG1.out.cell 2; have glt := RG1.out.lt; have f0 := RH1.out.free 0; have f1 := RH1.out.free 1; have f2 := RH1.out.free 2; have f3 := RH1.out.free 3; have h0 := RH1.out.cell 0; have h1 := RH1.out.cell 1; have h2 := RH1.out.cell 2; have h3 := RH1.out.cell 3; have hlt := RH1.out.lt; clear b1)
      | (go_at_call 35; refine (HW.out _ Y1.out).mono ?_; rintro e w2 ⟨q, m, d, rfl, hm, ho, b2⟩; clear f0 f1 f2 f3 h0 h1 h2 h3 hlt; clear g0 g1 g2 glt; have B2 := Lib.hid (B1.out.trans (b2.mono B1.out.size)); have RH2 := Lib.hid (RH1.out.call b2); have f0 := RH2.out.free 0; have f1 := RH2.out.free 1; have f2 := RH2.out.free 2; have f3 := RH2.out.free 3; have h0 := RH2.out.cell 0; have h1 := RH2.out.cell 1; have h2 := RH2.out.cell 2; have h3 := RH2.out.cell 3; have hlt := RH2.out.lt; have OO := Lib.hid ho; have OL := Lib.hid RH1.out.lt; clear b2 hm ho))
    generalize hW : World.setCell _ _ _ = W9
    have FR : IsRow W9 (w.heap.size + 1) 47 #[.int .i64 c, .slice q m d, .bool true, .bool true] := by rw [← hW]; exact (((RH2.out.set 0 _).set 1 _).set 2 _).set 3 _
    have B9 : Below w.heap.size w W9 := by rw [← hW]; exact (((B2.out.setCell (p := ⟨w.heap.size + 1, 0, none⟩) (by show w.heap.size ≤ w.heap.size + 1; omega) _).setCell (p := ⟨w.heap.size + 1, 1, none⟩) (by show w.heap.size ≤ w.heap.size + 1; omega) _).setCell (p := ⟨w.heap.size + 1, 2, none⟩) (by show w.heap.size ≤ w.heap.size + 1; omega) _).setCell (p := ⟨w.heap.size + 1, 3, none⟩) (by show w.heap.size ≤ w.heap.size + 1; omega) _
    have O9 : OwnStrs w.heap.size W9 (.slice q m d) (l ++ [t]) := by
      rw [← hW]
      exact ((((OO.out.set (p := ⟨w.heap.size + 1, 0, none⟩) OL.out _).set (p := ⟨w.heap.size + 1, 1, none⟩) OL.out _).set (p := ⟨w.heap.size + 1, 2, none⟩) OL.out _).set (p := ⟨w.heap.size + 1, 3, none⟩) OL.out _).mono (Nat.le_of_lt (Nat.lt_of_succ_lt OL.out))
    have y0 : W9.cell? ⟨w.heap.size + 1, 0, none⟩ = some (.int .i64 c) := FR.cell 0
    have y1 : W9.cell? ⟨w.heap.size + 1, 1, none⟩ = some (.slice q m d) := FR.cell 1
    have y2 : W9.cell? ⟨w.heap.size + 1, 2, none⟩ = some (.bool true) := FR.cell 2
    have y3 : W9.cell? ⟨w.heap.size + 1, 3, none⟩ = some (.bool true) := FR.cell 3
    exact bodyPost_ret (v := .tuple #[takenV c (.slice q m d) true true, .int .i64 0]) (by simp [results, Tryd.results31, go_sem, takenV, y0, y1, y2, y3]) rfl ⟨⟨⟨⟨c, l ++ [t], true⟩, true, 0⟩, HE.out.symm, _, _, _, rfl, O9⟩, B9⟩
  | false =>
    rw [hen, if_neg (by decide)] at HL
    rw [hen] at HC
    by_cases h19 : 19 ≤ l.length
    · rw [if_pos h19] at HL
      have HE := Lib.hid HL
      have g : (19 : Int) ≤ (n : Int) := by omega
      generalize cutT c s = t at *
      clear HL hen Y hn h19
      go_enter Tryd.func31, Tryd.ntmps31
      go_wp2_with (first
        | (go_at_call 24; refine (HC.out _ (E.below B0.out)).mono ?_; rintro e w1 ⟨rfl, b1⟩; have B1 := Lib.hid (B0.out.trans (b1.mono B0.out.size)); have RH1 := Lib.hid (RH0.out.call b1); have Y1 := Lib.hid (Y0.out.call b1); have RG1 := Lib.hid (RG0.out.call b1); have g0 := RG1.out.cell 0; have g1 := RG1.out.cell 1; have g2 := RG1.out.cell 2; have glt := RG1.out.lt; have f0 := RH1.out.free 0; have f1 := RH1.out.free 1; have f2 := RH1.out.free 2; have f3 := RH1.out.free 3; have h0 := RH1.out.cell 0; have h1 := RH1.out.cell 1; have h2 := RH1.out.cell 2; have h3 := RH1.out.cell 3; have hlt := RH1.out.lt; clear b1))
      generalize hW : World.setCell _ _ _ = W9
      have FR : IsRow W9 (w.heap.size + 1) 47 #[.int .i64 0, .slice none 0 0, .bool false, .bool false] := by rw [← hW]; exact (((RH1.out.set 0 _).set 1 _).set 2 _).set 3 _
      have B9 : Below w.heap.size w W9 := by rw [← hW]; exact (((B1.out.setCell (p := ⟨w.heap.size + 1, 0, none⟩) (by show w.heap.size ≤ w.heap.size + 1; omega) _).setCell (p := ⟨w.heap.size + 1, 1, none⟩) (by show w.heap.size ≤ w.heap.size + 1; omega) _).setCell (p := ⟨w.heap.size + 1, 2, none⟩) (by show w.heap.size ≤ w.heap.size + 1; omega) _).setCell (p := ⟨w.heap.size + 1, 3, none⟩) (by show w.heap.size ≤ w.heap.size + 1; omega) _
      have O9 : OwnStrs w.heap.size W9 (.slice none 0 0) [] := OwnStrs.nil _ _
      have y0 : W9.cell? ⟨w.heap.size + 1, 0, none⟩ = some (.int .i64 0) := FR.cell 0
      have y1 : W9.cell? ⟨w.heap.size + 1, 1, none⟩ = some (.slice none 0 0) := FR.cell 1
      have y2 : W9.cell? ⟨w.heap.size + 1, 2, none⟩ = some (.bool false) := FR.cell 2
      have y3 : W9.cell? ⟨w.heap.size + 1, 3, none⟩ = some (.bool false) := FR.cell 3
      exact bodyPost_ret (v := .tuple #[takenV 0 (.slice none 0 0) false false, .int .i64 5]) (by simp [results, Tryd.results31, go_sem, takenV, y0, y1, y2, y3]) rfl ⟨⟨⟨Ga.none, false, 5⟩, HE.out.symm, _, _, _, rfl, O9⟩, B9⟩
    · rw [if_neg h19] at HL
      have HE := Lib.hid HL
      have g : ¬ (19 : Int) ≤ (n : Int) := by omega
      have HW := Lib.hid (fun W Y => with_any c (.slice p n k) true l s hl W Y)
      generalize cutT c s = t at *
      clear HL hen Y hn h19
      go_enter Tryd.func31, Tryd.ntmps31
      go_wp2_with (first
        | (go_at_call 24; refine (HC.out _ (E.below B0.out)).mono ?_; rintro e w1 ⟨rfl, b1⟩; have B1 := Lib.hid (B0.out.trans (b1.mono B0.out.size)); have RH1 := Lib.hid (RH0.out.call b1); have Y1 := Lib.hid (Y0.out.call b1); have RG1 := Lib.hid (RG0.out.call b1); have g0 := RG1.out.cell 0; have g1 := RG1.out.cell 1; have g2 := RG1.out.cell 2; have glt := RG1.out.lt; have f0 := RH1.out.free 0; have f1 := RH1.out.free 1; have f2 := RH1.out.free 2; have f3 := RH1.out.free 3; have h0 := RH1.out.cell 0; have h1 := RH1.out.cell 1; have h2 := RH1.out.cell 2; have h3 := RH1.out.cell 3; have hlt := RH1.out.lt; clear b1)
        | (go_at_call 35; refine (HW.out _ Y1.out).mono ?_; rintro e w2 ⟨q, m, d, rfl, hm, ho, b2⟩; clear f0 f1 f2 f3 h0 h1 h2 h3 hlt; clear g0 g1 g2 glt; have B2 := Lib.hid (B1.out.trans (b2.mono B1.out.size)); have RH2 := Lib.hid (RH1.out.call b2); have f0 := RH2.out.free 0; have f1 := RH2.out.free 1; have f2 := RH2.out.free 2; have f3 := RH2.out.free 3; have h0 := RH2.out.cell 0; have h1 := RH2.out.cell 1; have h2 := RH2.out.cell 2; have h3 := RH2.out.cell 3; have hlt := RH2.out.lt; have OO := Lib.hid ho; have OL := Lib.hid RH1.out.lt; clear b2 hm ho))
      generalize hW : World.setCell _ _ _ = W9
      have FR : IsRow W9 (w.heap.size + 1) 47 #[.int .i64 c, .slice q m d, .bool true, .bool false] := by rw [← hW]; exact (((RH2.out.set 0 _).set 1 _).set 2 _).set 3 _
      have B9 : Below w.heap.size w W9 := by rw [← hW]; exact (((B2.out.setCell (p := ⟨w.heap.size + 1, 0, none⟩) (by show w.heap.size ≤ w.heap.size + 1; omega) _).setCell (p := ⟨w.heap.size + 1, 1, none⟩) (by show w.heap.size ≤ w.heap.size + 1; omega) _).setCell (p := ⟨w.heap.size + 1, 2, none⟩) (by show w.heap.size ≤ w.heap.size + 1; omega) _).setCell (p := ⟨w.heap.size + 1, 3, none⟩) (by show w.heap.size ≤ w.heap.size + 1; omega) _
      have O9 : OwnStrs w.heap.size W9 (.slice q m d) (l ++ [s]) := by
        rw [← hW]
        exact ((((OO.out.set (p := ⟨w.heap.size + 1, 0, none⟩) OL.out _).set (p := ⟨w.heap.size + 1, 1, none⟩) OL.out _).set (p := ⟨w.heap.size + 1, 2, none⟩) OL.out _).set (p := ⟨w.heap.size + 1, 3, none⟩) OL.out _).mono (Nat.le_of_lt (Nat.lt_of_succ_lt OL.out))
      have y0 : W9.cell? ⟨w.heap.size + 1, 0, none⟩ = some (.int .i64 c) := FR.cell 0
      have y1 : W9.cell? ⟨w.heap.size + 1, 1, none⟩ = some (.slice q m d) := FR.cell 1
      have y2 : W9.cell? ⟨w.heap.size + 1, 2, none⟩ = some (.bool true) := FR.cell 2
      have y3 : W9.cell? ⟨w.heap.size + 1, 3, none⟩ = some (.bool false) := FR.cell 3
      exact bodyPost_ret (v := .tuple #[takenV c (.slice q m d) true false, .int .i64 0]) (by simp [results, Tryd.results31, go_sem, takenV, y0, y1, y2, y3]) rfl ⟨⟨⟨⟨c, l ++ [s], true⟩, false, 0⟩, HE.out.symm, _, _, _, rfl, O9⟩, B9⟩

set_option maxHeartbeats 8000000 in
theorem taken_any (c : Int) (lo : -9223372036854775808 ≤ c) (hi : c ≤ 9223372036854775807) (u : Value) (o : Bool) (l : Ls) (s : List UInt8) (hl : l.length ≤ 1000) (hs : s.length ≤ 100000) (w : World) (E : Env w) (Y : TextsIs w u l) :
    Calls Tryd.prog 27 #[gatherV c u o, .string ⟨s.toArray⟩] w fun e w' => (∃ T : Tn, T.tk = take ⟨c, l, o⟩ s ∧ TnPost w.heap.size T e w') ∧ Below w.heap.size w w' := by
  obtain ⟨p, n, k, rfl, hn⟩ := Y.form3
  have B0 : Hid (Below w.heap.size w ((w.alloc (.cells #[.int .i64 c, .slice p n k, .bool o] 33)).alloc (.cells #[.int .i64 0, .slice none 0 0, .bool false, .bool false] 47))) := Lib.hid (((Below.refl _ w).alloc (Nat.le_refl _) _).alloc (by simp) _)
  have RG0 : Hid (IsRow ((w.alloc (.cells #[.int .i64 c, .slice p n k, .bool o] 33)).alloc (.cells #[.int .i64 0, .slice none 0 0, .bool false, .bool false] 47)) w.heap.size 33 #[.int .i64 c, .slice p n k, .bool o]) := Lib.hid ((IsRow.made w _ _).alloc _)
  have RH0 : Hid (IsRow ((w.alloc (.cells #[.int .i64 c, .slice p n k, .bool o] 33)).alloc (.cells #[.int .i64 0, .slice none 0 0, .bool false, .bool false] 47)) (w.heap.size + 1) 47 #[.int .i64 0, .slice none 0 0, .bool false, .bool false]) := Lib.hid (by have h := IsRow.made (w.alloc (.cells #[.int .i64 c, .slice p n k, .bool o] 33)) 47 #[.int .i64 0, .slice none 0 0, .bool false, .bool false]; rw [World.size_alloc] at h; exact h)
  have Y0 : Hid (TextsIs ((w.alloc (.cells #[.int .i64 c, .slice p n k, .bool o] 33)).alloc (.cells #[.int .i64 0, .slice none 0 0, .bool false, .bool false] 47)) (.slice p n k) l) := Lib.hid ((Y.alloc _).alloc _)
  have HT := Lib.hid (fun W => isText_any s (by omega) 504 W)
  have HL : take ⟨c, l, o⟩ s = if (decide (s.length ≤ 504) && clean s) then (if o then later c l s else first s) else Tk.bad 2 := by rw [Bool.and_comm]; rfl
  cases hx : (decide (s.length ≤ 504) && clean s) with
  | false =>
    rw [hx, if_neg (by decide)] at HL
    rw [hx] at HT
    have HE := Lib.hid HL
    have h0 := RH0.out.cell 0
    have h1 := RH0.out.cell 1
    have h2 := RH0.out.cell 2
    have h3 := RH0.out.cell 3
    clear HL hx Y hn
    go_enter Tryd.func27, Tryd.ntmps27
    go_wp2_with (first
      | (go_at_call 25; refine (HT.out _).mono ?_; rintro e w9 ⟨rfl, rfl⟩))
    exact bodyPost_ret (v := .tuple #[takenV 0 (.slice none 0 0) false false, .int .i64 2]) (by simp [results, Tryd.results27, go_sem, takenV, h0, h1, h2, h3]) rfl ⟨⟨⟨Ga.none, false, 2⟩, HE.out.symm, _, _, _, rfl, OwnStrs.nil _ _⟩, B0.out⟩
  | true =>
    rw [hx, if_pos rfl] at HL
    rw [hx] at HT
    cases o with
    | true =>
      rw [if_pos rfl] at HL
      have HE := Lib.hid HL
      have HN := Lib.hid (takeNext_any c lo hi (.slice p n k) l s hl hs ((w.alloc (.cells #[.int .i64 c, .slice p n k, .bool true] 33)).alloc (.cells #[.int .i64 0, .slice none 0 0, .bool false, .bool false] 47)) (E.below B0.out) Y0.out)
      clear HL hx Y hn
      go_enter Tryd.func27, Tryd.ntmps27
      go_wp2_with (first
        | (go_at_call 25; refine (HT.out _).mono ?_; rintro e w9 ⟨rfl, rfl⟩)
        | (go_at_call 31; refine (HN.out).mono ?_; rintro e w1 ⟨⟨⟨⟨tc, tl, to⟩, tb, te⟩, htk, q, m, d, rfl, ho⟩, b1⟩; have B1 := Lib.hid (B0.out.trans (b1.mono B0.out.size)); have RH1 := Lib.hid (RH0.out.call b1); have f0 := RH1.out.free 0; have f1 := RH1.out.free 1; have f2 := RH1.out.free 2; have f3 := RH1.out.free 3; have h0 := RH1.out.cell 0; have h1 := RH1.out.cell 1; have h2 := RH1.out.cell 2; have h3 := RH1.out.cell 3; have hlt := RH1.out.lt; have OO := Lib.hid ho; have OL := Lib.hid RH0.out.lt; have HK := Lib.hid htk; clear b1 ho htk))
      generalize hW : World.setCell _ _ _ = W9
      have FR : IsRow W9 (w.heap.size + 1) 47 #[.int .i64 tc, .slice q m d, .bool to, .bool tb] := by rw [← hW]; exact (((RH1.out.set 0 _).set 1 _).set 2 _).set 3 _
      have B9 : Below w.heap.size w W9 := by rw [← hW]; exact (((B1.out.setCell (p := ⟨w.heap.size + 1, 0, none⟩) (by show w.heap.size ≤ w.heap.size + 1; omega) _).setCell (p := ⟨w.heap.size + 1, 1, none⟩) (by show w.heap.size ≤ w.heap.size + 1; omega) _).setCell (p := ⟨w.heap.size + 1, 2, none⟩) (by show w.heap.size ≤ w.heap.size + 1; omega) _).setCell (p := ⟨w.heap.size + 1, 3, none⟩) (by show w.heap.size ≤ w.heap.size + 1; omega) _
      have O9 : OwnStrs w.heap.size W9 (.slice q m d) tl := by
        rw [← hW]
        exact ((((OO.out.set (p := ⟨w.heap.size + 1, 0, none⟩) OL.out _).set (p := ⟨w.heap.size + 1, 1, none⟩) OL.out _).set (p := ⟨w.heap.size + 1, 2, none⟩) OL.out _).set (p := ⟨w.heap.size + 1, 3, none⟩) OL.out _).mono (Nat.le_of_lt (Nat.lt_of_succ_lt OL.out))
      have y0 : W9.cell? ⟨w.heap.size + 1, 0, none⟩ = some (.int .i64 tc) := FR.cell 0
      have y1 : W9.cell? ⟨w.heap.size + 1, 1, none⟩ = some (.slice q m d) := FR.cell 1
      have y2 : W9.cell? ⟨w.heap.size + 1, 2, none⟩ = some (.bool to) := FR.cell 2
      have y3 : W9.cell? ⟨w.heap.size + 1, 3, none⟩ = some (.bool tb) := FR.cell 3
      exact bodyPost_ret (v := .tuple #[takenV tc (.slice q m d) to tb, .int .i64 te]) (by simp [results, Tryd.results27, go_sem, takenV, y0, y1, y2, y3]) rfl ⟨⟨⟨⟨tc, tl, to⟩, tb, te⟩, HK.out.trans HE.out.symm, _, _, _, rfl, O9⟩, B9⟩
    | false =>
      rw [if_neg (by decide)] at HL
      have HE := Lib.hid HL
      have HN := Lib.hid (takeFirst_any s hs ((w.alloc (.cells #[.int .i64 c, .slice p n k, .bool false] 33)).alloc (.cells #[.int .i64 0, .slice none 0 0, .bool false, .bool false] 47)) (E.below B0.out))
      clear HL hx Y hn
      go_enter Tryd.func27, Tryd.ntmps27
      go_wp2_with (first
        | (go_at_call 25; refine (HT.out _).mono ?_; rintro e w9 ⟨rfl, rfl⟩)
        | (go_at_call 32; refine (HN.out).mono ?_; rintro e w1 ⟨⟨⟨⟨tc, tl, to⟩, tb, te⟩, htk, q, m, d, rfl, ho⟩, b1⟩; have B1 := Lib.hid (B0.out.trans (b1.mono B0.out.size)); have RH1 := Lib.hid (RH0.out.call b1); have f0 := RH1.out.free 0; have f1 := RH1.out.free 1; have f2 := RH1.out.free 2; have f3 := RH1.out.free 3; have h0 := RH1.out.cell 0; have h1 := RH1.out.cell 1; have h2 := RH1.out.cell 2; have h3 := RH1.out.cell 3; have hlt := RH1.out.lt; have OO := Lib.hid ho; have OL := Lib.hid RH0.out.lt; have HK := Lib.hid htk; clear b1 ho htk))
      generalize hW : World.setCell _ _ _ = W9
      have FR : IsRow W9 (w.heap.size + 1) 47 #[.int .i64 tc, .slice q m d, .bool to, .bool tb] := by rw [← hW]; exact (((RH1.out.set 0 _).set 1 _).set 2 _).set 3 _
      have B9 : Below w.heap.size w W9 := by rw [← hW]; exact (((B1.out.setCell (p := ⟨w.heap.size + 1, 0, none⟩) (by show w.heap.size ≤ w.heap.size + 1; omega) _).setCell (p := ⟨w.heap.size + 1, 1, none⟩) (by show w.heap.size ≤ w.heap.size + 1; omega) _).setCell (p := ⟨w.heap.size + 1, 2, none⟩) (by show w.heap.size ≤ w.heap.size + 1; omega) _).setCell (p := ⟨w.heap.size + 1, 3, none⟩) (by show w.heap.size ≤ w.heap.size + 1; omega) _
      have O9 : OwnStrs w.heap.size W9 (.slice q m d) tl := by
        rw [← hW]
        exact ((((OO.out.set (p := ⟨w.heap.size + 1, 0, none⟩) OL.out _).set (p := ⟨w.heap.size + 1, 1, none⟩) OL.out _).set (p := ⟨w.heap.size + 1, 2, none⟩) OL.out _).set (p := ⟨w.heap.size + 1, 3, none⟩) OL.out _).mono (Nat.le_of_lt (Nat.lt_of_succ_lt OL.out))
      have y0 : W9.cell? ⟨w.heap.size + 1, 0, none⟩ = some (.int .i64 tc) := FR.cell 0
      have y1 : W9.cell? ⟨w.heap.size + 1, 1, none⟩ = some (.slice q m d) := FR.cell 1
      have y2 : W9.cell? ⟨w.heap.size + 1, 2, none⟩ = some (.bool to) := FR.cell 2
      have y3 : W9.cell? ⟨w.heap.size + 1, 3, none⟩ = some (.bool tb) := FR.cell 3
      exact bodyPost_ret (v := .tuple #[takenV tc (.slice q m d) to tb, .int .i64 te]) (by simp [results, Tryd.results27, go_sem, takenV, y0, y1, y2, y3]) rfl ⟨⟨⟨⟨tc, tl, to⟩, tb, te⟩, HK.out.trans HE.out.symm, _, _, _, rfl, O9⟩, B9⟩

#print axioms takeFirst_any
#print axioms takeNext_any
#print axioms taken_any
end Go.Proofs.YtbojjbnmjhblfaaDoor.Rp
