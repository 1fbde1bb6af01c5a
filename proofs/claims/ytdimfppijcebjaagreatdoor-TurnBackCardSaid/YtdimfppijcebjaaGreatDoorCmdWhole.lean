/- VerbNamed, VerbUp, VerbCode, CmdRef, CmdOwn, CmdMay, in one text. -/
import Derived.Test.YtdimfppijcebjaaGreatDoorVerbMap
import Derived.Test.YtdimfppijcebjaaGreatDoorVerbAll
import Derived.Lib.Hide
import Derived.Test.YtdimfppijcebjaaGreatDoorVerbRef
import Derived.Test.YtdimfppijcebjaaGreatDoorFreshSet
import Derived.LoopTactic
import Derived.WalkMore
import Derived.Laws.OwnMore
import Derived.Laws.AppendOwn
import Derived.Test.YtdimfppijcebjaaGreatDoorCmdArg
import Derived.Test.YtdimfppijcebjaaGreatDoorPlains

/- verb.named, verb.Find. -/
namespace Go.Proofs.YtdimfppijcebjaaGreatDoor.Vb
open Go.Proofs.YtdimfppijcebjaaGreatDoor
open Go.ChangeShapes Go.WideShapes Go.ChangeAt Go.RowKit
set_option maxRecDepth 100000
set_option linter.unusedSimpArgs false

set_option maxHeartbeats 2000000 in
theorem named_any (n : List UInt8) (v : Vb) (w : World) : Calls Tryz.prog 65 #[.string ⟨n.toArray⟩, rowV v] w fun e w' => e = .returned (verbV ⟨n, v.kind, v.arg, v.path⟩) ∧ Below w.heap.size w w' := by
  obtain ⟨_, kd, ar, pa⟩ := v
  have R0 : IsRow (w.alloc (.cells #[.string ⟨#[]⟩, .int .i64 kd, .int .i64 ar, .bool pa] 66)) w.heap.size 66 #[.string ⟨#[]⟩, .int .i64 kd, .int .i64 ar, .bool pa] := IsRow.made w _ _
  go_enter Tryz.func65, Tryz.ntmps65
  go_wp2_with fail
  generalize hW : World.alloc (World.alloc _ _) _ = W9
  have FR : IsRow W9 (w.heap.size + 1) 66 #[.string ⟨n.toArray⟩, .int .i64 kd, .int .i64 ar, .bool pa] := by
    rw [← hW]
    have := IsRow.made (w.alloc (.cells #[.string ⟨n.toArray⟩, .int .i64 kd, .int .i64 ar, .bool pa] 66)) 66 #[.string ⟨n.toArray⟩, .int .i64 kd, .int .i64 ar, .bool pa]
    simpa using this
  have B9 : Below w.heap.size w W9 := by rw [← hW]; exact ((Below.refl _ w).alloc (Nat.le_refl _) _).alloc (by simp) _
  have g0 : W9.cell? ⟨w.heap.size + 1, 0, none⟩ = some (.string ⟨n.toArray⟩) := FR.cell 0
  have g1 : W9.cell? ⟨w.heap.size + 1, 1, none⟩ = some (.int .i64 kd) := FR.cell 1
  have g2 : W9.cell? ⟨w.heap.size + 1, 2, none⟩ = some (.int .i64 ar) := FR.cell 2
  have g3 : W9.cell? ⟨w.heap.size + 1, 3, none⟩ = some (.bool pa) := FR.cell 3
  exact bodyPost_ret (v := .agg #[.string ⟨n.toArray⟩, .int .i64 kd, .int .i64 ar, .bool pa]) (by simp [results, Tryz.results65, go_sem, g0, g1, g2, g3]) rfl ⟨rfl, B9⟩

theorem noVb_of {u : List UInt8} (h : (has u).2 = false) : (has u).1 = noVb := by
  unfold has hasIn at h ⊢
  cases hf : verbs.find? (fun v => v.name == u) with
  | none => rfl
  | some v => rw [hf] at h; cases h

set_option maxHeartbeats 4000000 in
set_option maxRecDepth 100000 in
theorem find_by (upper_any : ∀ (s : List UInt8) (_ : s.length ≤ 140737488355328) (w : World), Calls Tryz.prog 63 #[.string ⟨s.toArray⟩] w fun e w' => e = .returned (.string ⟨(upper s).toArray⟩) ∧ Below w.heap.size w w')
    (s : List UInt8) (hl : s.length ≤ 140737488355328) (w : World) : Calls Tryz.prog 36 #[.string ⟨s.toArray⟩] w fun e w' => e = .returned (.tuple #[verbV (found s).1, .bool (found s).2]) ∧ Below w.heap.size w w' := by
  have hul : (upper s).length ≤ maxLen := by rw [upper_length]; unfold maxLen; omega
  have HF : found s = has (upper s) := rfl
  have HF := Lib.hid HF
  have hU := upper_any s hl
  clear upper_any
  generalize upper s = u at *
  have R0 : IsRow (w.alloc (.cells #[.string ⟨#[]⟩, .int .i64 0, .int .i64 0, .bool false] 66)) w.heap.size 66 #[.string ⟨#[]⟩, .int .i64 0, .int .i64 0, .bool false] := IsRow.made w _ _
  have b0 : Below w.heap.size w (w.alloc (.cells #[.string ⟨#[]⟩, .int .i64 0, .int .i64 0, .bool false] 66)) := (Below.refl _ w).alloc (Nat.le_refl _) _
  cases hf : (has u).2 with
  | false =>
    have hn := noVb_of hf
    have HN := Lib.hid hn
    have Hf := Lib.hid hf
    clear hn hf
    go_enter Tryz.func36, Tryz.ntmps36
    go_wp2_with (first
      | (go_at_call 63; refine (hU _).mono ?_; rintro e w1 ⟨rfl, b1⟩)
      | (go_at_call 64; refine (table_any _).mono ?_; rintro e w2 ⟨rfl, T, b2⟩; have hk := (T.look u hul).1; rw [Hf.out, HN.out] at hk; have R2 := (R0.call b1).call b2; have f0 := R2.free 0; have f1 := R2.free 1; have f2 := R2.free 2; have f3 := R2.free 3; have c0 := R2.cell 0; have c1 := R2.cell 1; have c2 := R2.cell 2; have c3 := R2.cell 3; have hlt := R2.lt; have B2 := ((b0.trans (b1.mono b0.size)).trans (b2.mono (Nat.le_trans b0.size b1.size)))))
    generalize hW : World.alloc (World.setCell _ _ _) _ = W9
    have FR : IsRow W9 w.heap.size 66 #[.string ⟨#[]⟩, .int .i64 0, .int .i64 0, .bool false] := by rw [← hW]; exact ((((R2.set 0 _).set 1 _).set 2 _).set 3 _).alloc _
    have B9 : Below w.heap.size w W9 := by rw [← hW]; exact ((((B2.setCell (Nat.le_refl _) _).setCell (Nat.le_refl _) _).setCell (Nat.le_refl _) _).setCell (Nat.le_refl _) _).alloc (by simp; omega) _
    have g0 : W9.cell? ⟨w.heap.size, 0, none⟩ = some (.string ⟨#[]⟩) := FR.cell 0
    have g1 : W9.cell? ⟨w.heap.size, 1, none⟩ = some (.int .i64 0) := FR.cell 1
    have g2 : W9.cell? ⟨w.heap.size, 2, none⟩ = some (.int .i64 0) := FR.cell 2
    have g3 : W9.cell? ⟨w.heap.size, 3, none⟩ = some (.bool false) := FR.cell 3
    exact bodyPost_ret (v := .tuple #[.agg #[.string ⟨#[]⟩, .int .i64 0, .int .i64 0, .bool false], .bool false]) (by simp [results, Tryz.results36, go_sem, g0, g1, g2, g3]) rfl ⟨by rw [HF.out, HN.out, Hf.out]; rfl, B9⟩
  | true =>
    have hn : (⟨u, (has u).1.kind, (has u).1.arg, (has u).1.path⟩ : Vb) = (has u).1 := by
      have := has_name hf
      cases hx : (has u).1 with
      | mk a b c d => rw [hx] at this; simp only at this ⊢; rw [this]
    have HN := Lib.hid hn
    have Hf := Lib.hid hf
    clear hn hf
    go_enter Tryz.func36, Tryz.ntmps36
    go_wp2_with (first
      | (go_at_call 63; refine (hU _).mono ?_; rintro e w1 ⟨rfl, b1⟩)
      | (go_at_call 64; refine (table_any _).mono ?_; rintro e w2 ⟨rfl, T, b2⟩; have hk := (T.look u hul).1; rw [Hf.out] at hk; have R2 := (R0.call b1).call b2; have hlt := R2.lt; have B2 := ((b0.trans (b1.mono b0.size)).trans (b2.mono (Nat.le_trans b0.size b1.size))))
      | (go_at_call 65; refine (named_any u (has u).1 _).mono ?_; rintro e w3 ⟨rfl, b3⟩; have R3 := (R2.alloc (.cells #[.string ⟨#[]⟩, .int .i64 (has u).1.kind, .int .i64 (has u).1.arg, .bool (has u).1.path] 66)).call b3; have f0 := R3.free 0; have f1 := R3.free 1; have f2 := R3.free 2; have f3 := R3.free 3; have c0 := R3.cell 0; have c1 := R3.cell 1; have c2 := R3.cell 2; have c3 := R3.cell 3; have B3 := (B2.alloc B2.size (.cells #[.string ⟨#[]⟩, .int .i64 (has u).1.kind, .int .i64 (has u).1.arg, .bool (has u).1.path] 66)).trans (b3.mono (by have := B2.size; simp; omega))))
    generalize hW : World.setCell _ _ _ = W9
    have FR : IsRow W9 w.heap.size 66 #[.string ⟨u.toArray⟩, .int .i64 (has u).1.kind, .int .i64 (has u).1.arg, .bool (has u).1.path] := by rw [← hW]; exact (((R3.set 0 _).set 1 _).set 2 _).set 3 _
    have B9 : Below w.heap.size w W9 := by rw [← hW]; exact (((B3.setCell (Nat.le_refl _) _).setCell (Nat.le_refl _) _).setCell (Nat.le_refl _) _).setCell (Nat.le_refl _) _
    have g0 : W9.cell? ⟨w.heap.size, 0, none⟩ = some (.string ⟨u.toArray⟩) := FR.cell 0
    have g1 : W9.cell? ⟨w.heap.size, 1, none⟩ = some (.int .i64 (has u).1.kind) := FR.cell 1
    have g2 : W9.cell? ⟨w.heap.size, 2, none⟩ = some (.int .i64 (has u).1.arg) := FR.cell 2
    have g3 : W9.cell? ⟨w.heap.size, 3, none⟩ = some (.bool (has u).1.path) := FR.cell 3
    exact bodyPost_ret (v := .tuple #[.agg #[.string ⟨u.toArray⟩, .int .i64 (has u).1.kind, .int .i64 (has u).1.arg, .bool (has u).1.path], .bool true]) (by simp [results, Tryz.results36, go_sem, g0, g1, g2, g3]) rfl ⟨by rw [HF.out, Hf.out, ← HN.out], B9⟩

#print axioms find_by
end Go.Proofs.YtdimfppijcebjaaGreatDoor.Vb

/- verb.Upper. -/
namespace Go.Proofs.YtdimfppijcebjaaGreatDoor.Vb
open Go.Proofs.YtdimfppijcebjaaGreatDoor
open Go.ChangeShapes Go.WideShapes Go.ChangeAt Go.RowKit
set_option maxRecDepth 100000
set_option linter.unusedSimpArgs false

theorem up_at {s : List UInt8} {k : Nat} (hk : k < s.length) (h : k < (upper (s.take k) ++ s.drop k).length) : (upper (s.take k) ++ s.drop k)[k] = s[k] := by
  have e : (upper (s.take k)).length = k := by rw [upper_length, List.length_take]; omega
  rw [List.getElem_append_right (by omega), List.getElem_drop]
  congr 1
  omega
theorem up_set {s : List UInt8} {k : Nat} (hk : k < s.length) : (upper (s.take k) ++ s.drop k).set k (upB s[k]) = upper (s.take (k + 1)) ++ s.drop (k + 1) := by
  have e : (upper (s.take k)).length = k := by rw [upper_length, List.length_take]; omega
  rw [List.set_append_right _ _ (by omega), e, Nat.sub_self, List.drop_eq_getElem_cons hk, List.set_cons_zero, upper_next hk, List.append_assoc]
  rfl
theorem up_stay {s : List UInt8} {k : Nat} (hk : k < s.length) (h : upB s[k] = s[k]) : upper (s.take k) ++ s.drop k = upper (s.take (k + 1)) ++ s.drop (k + 1) := by
  rw [upper_next hk, h, List.drop_eq_getElem_cons hk, List.append_assoc]
  rfl
theorem up_len {s : List UInt8} {k : Nat} (hk : k ≤ s.length) : (upper (s.take k) ++ s.drop k).length = s.length := by
  rw [List.length_append, upper_length, List.length_take, List.length_drop]; omega

set_option maxHeartbeats 4000000 in
set_option maxRecDepth 100000 in
theorem upper_any (s : List UInt8) (hl : s.length ≤ 140737488355328) (w : World) : Calls Tryz.prog 63 #[.string ⟨s.toArray⟩] w fun e w' => e = .returned (.string ⟨(upper s).toArray⟩) ∧ Below w.heap.size w w' := by
  obtain ⟨v, w1, hcv, F1, B1⟩ := conv_bytes w s (by omega)
  obtain ⟨g, cap, rfl, hg⟩ := F1.forms
  obtain ⟨n, hn⟩ : ∃ n, s.length = n := ⟨_, rfl⟩
  rw [hn] at F1 hcv
  go_enter Tryz.func63, Tryz.ntmps63
  go_wp2_with fail
  go_loopw [10] (fun x10 wr => ∃ (k : Nat), x10 = .int .i64 (k : Int) ∧ k ≤ n ∧ FreshIs wr w.heap.size (.slice (some ⟨g, 0, none⟩) n cap) (upper (s.take k) ++ s.drop k) ∧ Hid (Below w.heap.size w wr)) (fun i _ => n - (intOf i).toNat)
  case atStart => exact ⟨0, rfl, Nat.zero_le _, by simpa [upper] using F1, Lib.hid B1⟩
  case round =>
    obtain ⟨k, rfl, hk, F, HB⟩ := hrel
    by_cases hlt : k < n
    · have hks : k < s.length := by omega
      obtain ⟨c, hc⟩ : ∃ c : UInt8, s[k] = c := ⟨_, rfl⟩
      have hkl : k < (upper (s.take k) ++ s.drop k).length := by rw [up_len (by omega)]; exact hks
      obtain ⟨c0, f0⟩ := F.at k hkl
      rw [up_at hks, hc] at c0
      have FS := F.set k hkl (upB c)
      have e1 : (upper (s.take k) ++ s.drop k).set k (upB c) = upper (s.take (k + 1)) ++ s.drop (k + 1) := by rw [← hc]; exact up_set hks
      rw [e1] at FS
      clear e1
      by_cases h1 : 97 ≤ c.toNat
      · by_cases h2 : c.toNat ≤ 122
        · have e := up_value h1 h2
          have g1 : (97 : Int) ≤ (c.toNat : Int) := by omega
          have g2 : (c.toNat : Int) ≤ 122 := by omega
          have E := Lib.hid e
          clear e
          have HF := Lib.hid FS
          clear FS F
          go_wp2_with fail
          go_roundw
          case rel =>
            refine ⟨k + 1, by go_num, by omega, ?_, Lib.hid (HB.out.setCell (by simpa using hg) _)⟩
            have := HF.out
            unfold byteV at this
            rw [← E.out] at this
            exact this
          case measure => simp [intOf]; omega
        · have g1 : (97 : Int) ≤ (c.toNat : Int) := by omega
          have g2 : ¬ (c.toNat : Int) ≤ 122 := by omega
          have HF : FreshIs wr w.heap.size (.slice (some ⟨g, 0, none⟩) n cap) (upper (s.take (k + 1)) ++ s.drop (k + 1)) := by rw [← up_stay hks (by rw [hc]; exact up_same (fun h => h2 h.2))]; exact F
          have HF := Lib.hid HF
          clear FS F
          go_wp2_with fail
          go_roundw
          case rel => exact ⟨k + 1, by go_num, by omega, HF.out, HB⟩
          case measure => simp [intOf]; omega
      · have g1 : ¬ (97 : Int) ≤ (c.toNat : Int) := by omega
        have HF : FreshIs wr w.heap.size (.slice (some ⟨g, 0, none⟩) n cap) (upper (s.take (k + 1)) ++ s.drop (k + 1)) := by rw [← up_stay hks (by rw [hc]; exact up_same (fun h => h1 h.1))]; exact F
        have HF := Lib.hid HF
        clear FS F
        go_wp2_with fail
        go_roundw
        case rel => exact ⟨k + 1, by go_num, by omega, HF.out, HB⟩
        case measure => simp [intOf]; omega
    · have hkn : k = n := by omega
      subst hkn
      have F' : FreshIs wr w.heap.size (.slice (some ⟨g, 0, none⟩) k cap) (upper s) := by
        have := F
        rw [← hn, List.take_length, List.drop_length, List.append_nil] at this
        rw [← hn]; exact this
      have hs := str_of_bytes F'.bytes
      clear F F'
      go_wp2_with fail
      go_ret
      exact ⟨rfl, HB.out⟩

#print axioms upper_any
end Go.Proofs.YtdimfppijcebjaaGreatDoor.Vb

/- The contracts of package verb: All, Upper, Find. -/
namespace Go.Proofs.YtdimfppijcebjaaGreatDoor.Vb
open Go.Proofs.YtdimfppijcebjaaGreatDoor
open Go.ChangeShapes Go.WideShapes Go.ChangeAt Go.RowKit
set_option maxRecDepth 100000
set_option linter.unusedSimpArgs false

theorem find_any (s : List UInt8) (hl : s.length ≤ 140737488355328) (w : World) : Calls Tryz.prog 36 #[.string ⟨s.toArray⟩] w fun e w' => e = .returned (.tuple #[verbV (found s).1, .bool (found s).2]) ∧ Below w.heap.size w w' := find_by upper_any s hl w

theorem info_verb : (Tryz.prog.info? 66).map (fun i => (i.zero, i.size, i.bytes)) = some (some (.agg #[.string ByteArray.empty, .int .i64 0, .int .i64 0, .bool false]), 4, 40) := by kernel_rfl
abbrev nameV (v : Vb) : Value := .string ⟨v.name.toArray⟩
theorem own_call {w w' : World} {base : Nat} {t : TypeId} {size : Nat} {v : Value} {n : Nat} {xs : List Value} (h : w.ownsRow base t size v n xs) (hb : Below w.heap.size w w') : w'.ownsRow base t size v n xs := by
  obtain ⟨h0, h | ⟨g, cap, cur, h1, h2, h3, hr⟩⟩ := h
  · exact ⟨h0, Or.inl h⟩
  · exact ⟨h0, Or.inr ⟨g, cap, cur, h1, h2, by rw [hb.block g (lt_of_block h3)]; exact h3, hr⟩⟩
/-- the names of the table, sorted, in a block -/
def NamesAt (w : World) (g : Nat) : Prop := g < w.heap.size ∧ ∀ k (h : k < verbs.length), w.cell? ⟨g, k, none⟩ = some (nameV verbs[k])
theorem NamesAt.call {w w' : World} {g : Nat} (h : NamesAt w g) (hb : Below w.heap.size w w') : NamesAt w' g := by
  refine ⟨Nat.lt_of_lt_of_le h.1 hb.size, fun k hk => ?_⟩
  rw [hb.cell (p := ⟨g, k, none⟩) h.1]
  exact h.2 k hk
theorem look_each (k : Nat) (hk : k < verbs.length) : (has verbs[k].name).1 = verbs[k] := by rw [has_each _ (List.getElem_mem hk)]
theorem take_next (k : Nat) (hk : k < verbs.length) : (verbs.take (k + 1)).flatMap verbCs = (verbs.take k).flatMap verbCs ++ verbCs verbs[k] := by
  rw [List.take_succ_eq_append_getElem hk, List.flatMap_append]
  simp
theorem own_verbs {w : World} {base : Nat} {v : Value} (h : w.ownsRow base 66 4 v 36 (verbs.flatMap verbCs)) : ∃ p c, v = .slice p 36 c ∧ VerbsIs w (.slice p 36 c) verbs := by
  have h0 := h.2
  rcases h0 with ⟨rfl, h'⟩ | ⟨g, cap, cur, rfl, hg, hh, _⟩
  · cases h'
  · refine ⟨_, _, rfl, g, 0, cap, rfl, lt_of_block hh, fun i hi => ?_⟩
    obtain ⟨q0, q1, q2, q3⟩ := flat4 verbs i hi
    have hi' : i < 36 := by rw [verbs_len] at hi; exact hi
    simp only [Nat.zero_add]
    exact ⟨by rw [h.cellAt _ (by omega)]; exact q0, by rw [h.cellAt _ (by omega)]; exact q1, by rw [h.cellAt _ (by omega)]; exact q2, by rw [h.cellAt _ (by omega)]; exact q3⟩


end Go.Proofs.YtdimfppijcebjaaGreatDoor.Vb

/- The contracts of the document's answer of layer 8: wharfingerref08.Clean, May, Print, Read. -/
namespace Go.Proofs.YtdimfppijcebjaaGreatDoor.Cm
open Go.Proofs.YtdimfppijcebjaaGreatDoor Go.Proofs.YtdimfppijcebjaaGreatDoor.Vb
open Go.ChangeShapes Go.WideShapes Go.ChangeAt Go.RowKit
set_option linter.unusedSimpArgs false

theorem clean_next {s : List UInt8} {k : Nat} (hk : k < s.length) : clean (s.take (k + 1)) = (clean (s.take k) && cleanB s[k]) := by
  rw [List.take_succ_eq_append_getElem hk, clean_append]
  simp [clean]
theorem clean_no {s : List UInt8} {k : Nat} (hk : k < s.length) (h : cleanB s[k] = false) : clean s = false := by
  cases hc : clean s with
  | false => rfl
  | true =>
    have := List.all_eq_true.1 hc s[k] (List.getElem_mem hk)
    rw [h] at this
    cases this


/-- the answer's own order of asking -/
theorem may_eq (v a : List UInt8) (x : Vb) (is : Bool) (h : found v = (x, is)) : may v a = (is && (x.name == v) && clean a && !((x.arg == 0) && (a != [])) && !((x.arg == 2) && (a == []))) := by
  unfold may
  rw [h]
  rfl



end Go.Proofs.YtdimfppijcebjaaGreatDoor.Cm

/- The contracts of package cmd, first half: Clean, takes, May, Print, isLetter, isName. -/
namespace Go.Proofs.YtdimfppijcebjaaGreatDoor.Cm
open Go.Proofs.YtdimfppijcebjaaGreatDoor Go.Proofs.YtdimfppijcebjaaGreatDoor.Vb
open Go.ChangeShapes Go.WideShapes Go.ChangeAt Go.RowKit
set_option maxRecDepth 100000
set_option linter.unusedSimpArgs false

set_option maxHeartbeats 4000000 in
theorem clean_same (s : List UInt8) (hl : s.length ≤ 140737488355328) (w : World) : Calls Tryz.prog 37 #[.string ⟨s.toArray⟩] w fun e w' => e = .returned (.bool (clean s)) ∧ w' = w := by
  go_enter Tryz.func37, Tryz.ntmps37
  go_wp2_with fail
  go_loopw [6] (fun x6 wr => ∃ (k : Nat), x6 = .int .i64 (k : Int) ∧ k ≤ s.length ∧ Hid (clean (s.take k) = true) ∧ Hid (wr = w)) (fun i _ => s.length - (intOf i).toNat)
  case atStart => exact ⟨0, rfl, Nat.zero_le _, Lib.hid (by simp [clean]), by first | exact Lib.hid rfl | exact Lib.hid trivial⟩
  case round =>
    obtain ⟨k, rfl, hk, HC, HW⟩ := hrel
    obtain rfl := HW.out
    by_cases hlt : k < s.length
    · have hsz : k < (ByteArray.mk s.toArray).size := by simpa [ByteArray.size] using hlt
      have hji : (k : Int) < (s.length : Int) := by omega
      obtain ⟨c, hc⟩ : ∃ c : UInt8, (ByteArray.mk s.toArray)[k]'hsz = c := ⟨_, rfl⟩
      have hc' : s[k] = c := hc
      have HN : Hid (clean (s.take (k + 1)) = cleanB c) := Lib.hid (by rw [clean_next hlt, HC.out, hc']; rfl)
      have HX : Hid (cleanB c = false → clean s = false) := Lib.hid (fun h => clean_no hlt (by rw [hc']; exact h))
      clear hc'
      by_cases h1 : (c.toNat : Int) < 32
      · have HV := Lib.hid (HX.out (decide_eq_false (by omega)))
        clear HN HX
        go_wp2_with fail
        go_ret
        exact ⟨by rw [HV.out] <;> rfl, by first | rfl | trivial⟩
      · by_cases h2 : 126 < (c.toNat : Int)
        · have HV := Lib.hid (HX.out (decide_eq_false (by omega)))
          clear HN HX
          go_wp2_with fail
          go_ret
          exact ⟨by rw [HV.out] <;> rfl, by first | rfl | trivial⟩
        · have HV := Lib.hid (HN.out.trans (decide_eq_true (by omega)))
          clear HN HX
          go_wp2_with fail
          go_roundw
          case rel => exact ⟨k + 1, by go_num, by omega, HV.out, by first | exact Lib.hid rfl | exact Lib.hid trivial⟩
          case measure => simp [intOf]; omega
    · have hk2 : k = s.length := by omega
      have hji : ¬ (k : Int) < (s.length : Int) := by omega
      have HV : Hid (clean s = true) := Lib.hid (by have := HC.out; rw [hk2, List.take_length] at this; exact this)
      go_wp2_with fail
      go_ret
      exact ⟨by rw [HV.out] <;> rfl, by first | rfl | trivial⟩
theorem clean_any (s : List UInt8) (hl : s.length ≤ 140737488355328) (w : World) : Calls Tryz.prog 37 #[.string ⟨s.toArray⟩] w fun e w' => e = .returned (.bool (clean s)) ∧ Below w.heap.size w w' :=
  (clean_same s hl w).mono fun _ _ h => ⟨h.1, h.2 ▸ Below.refl _ _⟩

/-! whether a verb may have such an argument -/
def takesB (n : Int) (a : List UInt8) : Bool := !((n == 0) && (a != [])) && !((n == 2) && (a == []))
set_option maxHeartbeats 4000000 in
theorem takes_any (x : Vb) (a : List UInt8) (w : World) : Calls Tryz.prog 38 #[verbV x, .string ⟨a.toArray⟩] w fun e w' => e = .returned (.bool (takesB x.arg a)) ∧ Below w.heap.size w w' := by
  obtain ⟨vn, vk, va, vp⟩ := x
  have HT : Hid (takesB va a = (!((va == 0) && (a != [])) && !((va == 2) && (a == [])))) := Lib.hid rfl
  have B := Lib.hid ((Below.refl _ w).alloc (Nat.le_refl _) (.cells #[.string ⟨vn.toArray⟩, .int .i64 vk, .int .i64 va, .bool vp] 66))
  cases he : (a == []) with
  | true =>
    have he' : (a != []) = false := by rw [bne, he]; rfl
    rw [he, he'] at HT
    cases h0 : (va == 0) with
    | true =>
      have h2 : (va == 2) = false := by have := beq_iff_eq.1 h0; exact beq_eq_false_iff_ne.2 (by omega)
      rw [h0, h2] at HT
      go_enter Tryz.func38, Tryz.ntmps38
      go_wp2_with fail
      go_ret
      exact ⟨by rw [HT.out] <;> rfl, B.out⟩
    | false =>
      cases h2 : (va == 2) with
      | true =>
        rw [h0, h2] at HT
        go_enter Tryz.func38, Tryz.ntmps38
        go_wp2_with fail
        go_ret
        exact ⟨by rw [HT.out] <;> rfl, B.out⟩
      | false =>
        rw [h0, h2] at HT
        go_enter Tryz.func38, Tryz.ntmps38
        go_wp2_with fail
        go_ret
        exact ⟨by rw [HT.out] <;> rfl, B.out⟩
  | false =>
    have he' : (a != []) = true := by rw [bne, he]; rfl
    rw [he, he'] at HT
    cases h0 : (va == 0) with
    | true =>
      have h2 : (va == 2) = false := by have := beq_iff_eq.1 h0; exact beq_eq_false_iff_ne.2 (by omega)
      rw [h0, h2] at HT
      go_enter Tryz.func38, Tryz.ntmps38
      go_wp2_with fail
      go_ret
      exact ⟨by rw [HT.out] <;> rfl, B.out⟩
    | false =>
      cases h2 : (va == 2) with
      | true =>
        rw [h0, h2] at HT
        go_enter Tryz.func38, Tryz.ntmps38
        go_wp2_with fail
        go_ret
        exact ⟨by rw [HT.out] <;> rfl, B.out⟩
      | false =>
        rw [h0, h2] at HT
        go_enter Tryz.func38, Tryz.ntmps38
        go_wp2_with fail
        go_ret
        exact ⟨by rw [HT.out] <;> rfl, B.out⟩

#print axioms clean_any
#print axioms takes_any
end Go.Proofs.YtdimfppijcebjaaGreatDoor.Cm

/- The contracts of package cmd, second half: May, Print, isLetter, isName. -/
namespace Go.Proofs.YtdimfppijcebjaaGreatDoor.Cm
open Go.Proofs.YtdimfppijcebjaaGreatDoor Go.Proofs.YtdimfppijcebjaaGreatDoor.Vb
open Go.ChangeShapes Go.WideShapes Go.ChangeAt Go.RowKit
set_option maxRecDepth 100000
set_option linter.unusedSimpArgs false

theorem may_own (v a : List UInt8) (x : Vb) (is : Bool) (h : found v = (x, is)) : may v a = (is && (x.name == v) && clean a && takesB x.arg a) := by
  rw [may_eq v a x is h]
  unfold takesB
  cases is <;> cases (x.name == v) <;> cases clean a <;> simp

set_option maxHeartbeats 4000000 in
theorem may_any (v a : List UInt8) (hv : v.length ≤ 140737488355328) (ha : a.length ≤ 140737488355328) (w : World) : Calls Tryz.prog 18 #[cmdV v a] w fun e w' => e = .returned (.bool (may v a)) ∧ Below w.heap.size w w' := by
  obtain ⟨x, is, hx⟩ : ∃ x is, found v = (x, is) := ⟨_, _, rfl⟩
  have HM := Lib.hid (may_own v a x is hx)
  have HF : Hid (∀ W, Calls Tryz.prog 36 #[.string ⟨v.toArray⟩] W fun e w' => e = .returned (.tuple #[verbV x, .bool is]) ∧ Below W.heap.size W w') := Lib.hid (fun W => by
    have h := find_any v hv W
    rw [hx] at h
    exact h)
  have HC := Lib.hid (fun W => clean_same a ha W)
  have HT := Lib.hid (fun W => takes_any x a W)
  clear hx
  generalize clean a = cl at HM HC
  obtain ⟨vn, vk, va, vp⟩ := x
  simp only at HM HT
  generalize takesB va a = tk at HM HT
  have R0 : IsRow (w.alloc (.cells #[.string ⟨v.toArray⟩, .string ⟨a.toArray⟩] 23)) w.heap.size 23 #[.string ⟨v.toArray⟩, .string ⟨a.toArray⟩] := IsRow.made w _ _
  have b0 : Below w.heap.size w (w.alloc (.cells #[.string ⟨v.toArray⟩, .string ⟨a.toArray⟩] 23)) := (Below.refl _ w).alloc (Nat.le_refl _) _
  cases is with
  | false =>
    go_enter Tryz.func18, Tryz.ntmps18
    go_wp2_with (first
      | (go_at_call 36; refine (HF.out _).mono ?_; rintro e w1 ⟨rfl, b1⟩; have R1 := R0.call b1; have c0 := R1.cell 0; have c1 := R1.cell 1; have hlt := R1.lt; have B1 := Lib.hid (b0.trans (b1.mono b0.size))))
    go_ret
    exact ⟨by rw [HM.out] <;> rfl, B1.out.alloc B1.out.size (.cells #[.string ⟨vn.toArray⟩, .int .i64 vk, .int .i64 va, .bool vp] 66)⟩
  | true =>
    cases hn : (vn == v) with
    | false =>
      rw [hn] at HM
      go_enter Tryz.func18, Tryz.ntmps18
      go_wp2_with (first
        | (go_at_call 36; refine (HF.out _).mono ?_; rintro e w1 ⟨rfl, b1⟩; have R1 := R0.call b1; have c0 := R1.cell 0; have c1 := R1.cell 1; have hlt := R1.lt; have B1 := Lib.hid (b0.trans (b1.mono b0.size))))
      go_ret
      exact ⟨by rw [HM.out] <;> rfl, B1.out.alloc B1.out.size (.cells #[.string ⟨vn.toArray⟩, .int .i64 vk, .int .i64 va, .bool vp] 66)⟩
    | true =>
      rw [hn] at HM
      cases cl with
      | false =>
        go_enter Tryz.func18, Tryz.ntmps18
        go_wp2_with (first
          | (go_at_call 36; refine (HF.out _).mono ?_; rintro e w1 ⟨rfl, b1⟩; have R1 := R0.call b1; have c0 := R1.cell 0; have c1 := R1.cell 1; have hlt := R1.lt; have B1 := Lib.hid (b0.trans (b1.mono b0.size)))
          | (go_at_call 37; refine (HC.out _).mono ?_; rintro e w2 ⟨rfl, rfl⟩))
        go_ret
        exact ⟨by rw [HM.out] <;> rfl, B1.out.alloc B1.out.size (.cells #[.string ⟨vn.toArray⟩, .int .i64 vk, .int .i64 va, .bool vp] 66)⟩
      | true =>
        go_enter Tryz.func18, Tryz.ntmps18
        go_wp2_with (first
          | (go_at_call 36; refine (HF.out _).mono ?_; rintro e w1 ⟨rfl, b1⟩; have R1 := R0.call b1; have c0 := R1.cell 0; have c1 := R1.cell 1; have hlt := R1.lt; have B1 := Lib.hid (b0.trans (b1.mono b0.size)))
          | (go_at_call 37; refine (HC.out _).mono ?_; rintro e w2 ⟨rfl, rfl⟩)
          | (go_at_call 38; refine (HT.out _).mono ?_; rintro e w3 ⟨rfl, b3⟩; have B3 := Lib.hid ((B1.out.alloc B1.out.size (.cells #[.string ⟨vn.toArray⟩, .int .i64 vk, .int .i64 va, .bool vp] 66)).trans (b3.mono (by have := B1.out.size; simp; omega)))))
        go_ret
        exact ⟨by rw [HM.out] <;> rfl, B3.out⟩



theorem fine_no {s : List UInt8} {k : Nat} (hk : k < s.length) (h : letterB s[k] = false) : fine s = false := by
  have hu : k < (upper s).length := by rw [upper_length]; exact hk
  have e : (upper s)[k] = upB s[k] := by simp [upper]
  have := letters_no hu (by rw [e]; exact of_decide_eq_false h)
  unfold fine
  rw [this, Bool.and_false]


#print axioms may_any
end Go.Proofs.YtdimfppijcebjaaGreatDoor.Cm
