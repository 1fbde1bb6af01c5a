/- The contracts of ext.split, readEnd, Read. -/
import Derived.Test.YtdimfppijcebjaaGreatDoorExtCode
import Derived.Test.YtdimfppijcebjaaGreatDoorQuadRead
namespace Go.Proofs.YtdimfppijcebjaaGreatDoor.Ext
open Go.Proofs.YtdimfppijcebjaaGreatDoor.Quad Go.Proofs.YtdimfppijcebjaaGreatDoor.Six Go.Proofs.YtdimfppijcebjaaGreatDoor
open Go.ChangeShapes Go.WideShapes Go.ChangeAt Go.RowKit Go.Sort

abbrev endV (a b c d p : Int) : Value := .agg #[.int .u8 a, .int .u8 b, .int .u8 c, .int .u8 d, .int .i64 p]
theorem hread_none {l : List UInt8} (h : readB l = false) : Quad.readV l = .tuple #[hostV 0 0 0 0, .bool false] := by
  unfold Quad.readV; rw [readH_no h, readH_no h, readH_no h, readH_no h, h]
theorem results_tmp4 {fn : Func} {t u v x : Tmp} (h : fn.results = #[.tmp t, .tmp u, .tmp v, .tmp x]) (tmps : Array Value) (P : Program) (w : World) :
    (results fn tmps).run P w = .ok (.tuple #[tmps.getD t undef, tmps.getD u undef, tmps.getD v undef, tmps.getD x undef]) w := by
  simp [results, h]

def Split5Post (c : UInt8) (l : List UInt8) (w : World) (e : Ending) (w' : World) : Prop :=
  ∃ cp, e = .returned (.slice (some ⟨w.heap.size, 0, none⟩) (parts5 c l).length cp) ∧ (∀ (j : Nat) x, (parts5 c l)[j]? = some x → w'.cell? ⟨w.heap.size, j, none⟩ = some (str x)) ∧ Below w.heap.size w w'

theorem split5_any (c : UInt8) (l : List UInt8) (hl : l.length ≤ 1000000) (w : World) (E : Env w) :
    Calls Tryz.prog 67 #[str l, str [c], .int .i64 5] w (Split5Post c l w) := by
  obtain ⟨m, hm⟩ := E.most
  have c5 := Tryz.strings_SplitN ⟨l.toArray⟩ ⟨#[c]⟩ 5 m w (by rw [size_mk]; omega) hm (by simp [ByteArray.size]) (by omega) (by omega)
  have hd := Lib.splitB_data ⟨#[c]⟩ 0 (min 5 (l.length + 1) - 1) ⟨l.toArray⟩
  rw [size_mk] at c5
  generalize Lib.splitB ⟨#[c]⟩ 0 (min 5 (l.length + 1) - 1) ⟨l.toArray⟩ = ps at c5 hd
  have hp : ps.map (·.data.toList) = parts5 c l := by rw [hd]; unfold parts5; simp
  refine c5.mono fun e w' ⟨he, hw⟩ => ⟨min 5 (l.length + 1), ?_, ?_, ?_⟩
  · rw [he, ← hp]; simp
  · intro j x hx
    rw [← hp, List.getElem?_map] at hx
    cases hj : ps[j]? with
    | none => rw [hj] at hx; cases hx
    | some y =>
      rw [hj] at hx
      simp only [Option.map_some, Option.some.injEq] at hx
      subst hx
      have hlt : j < ps.length := by
        rcases Nat.lt_or_ge j ps.length with h | h
        · exact h
        · rw [List.getElem?_eq_none h] at hj; cases hj
      have := (IsRow.made w 9 (Lib.cellsOf ps (min 5 (l.length + 1)))).cell j
      rw [hw, this]
      unfold Lib.cellsOf
      rw [List.getElem?_toArray, List.getElem?_append_left (by simpa using hlt), List.getElem?_map, hj]
      rfl
  · rw [hw]; exact (Below.refl _ _).alloc (Nat.le_refl _) _

theorem split5_five (c : UInt8) (l : List UInt8) (hl : l.length ≤ 1000000) {x k h q z : List UInt8} (hp : parts5 c l = [x, k, h, q, z]) (w : World) (E : Env w) :
    Calls Tryz.prog 67 #[str l, str [c], .int .i64 5] w fun e w' => ∃ cp, e = .returned (.slice (some ⟨w.heap.size, 0, none⟩) 5 cp) ∧ w'.cell? ⟨w.heap.size, 1, none⟩ = some (str k) ∧ w'.cell? ⟨w.heap.size, 2, none⟩ = some (str h) ∧ w'.cell? ⟨w.heap.size, 3, none⟩ = some (str q) ∧ w'.cell? ⟨w.heap.size, 4, none⟩ = some (str z) ∧ Below w.heap.size w w' := by
  refine (split5_any c l hl w E).mono ?_
  rintro e w' ⟨cp, rfl, hc, hb⟩
  rw [hp] at hc ⊢
  exact ⟨cp, rfl, hc 1 _ rfl, hc 2 _ rfl, hc 3 _ rfl, hc 4 _ rfl, hb⟩
theorem split5_few (c : UInt8) (l : List UInt8) (hl : l.length ≤ 1000000) (hp : (parts5 c l).length ≠ 5) (w : World) (E : Env w) :
    Calls Tryz.prog 67 #[str l, str [c], .int .i64 5] w fun e w' => ∃ (n cp : Nat) (p : Addr), e = .returned (.slice (some p) n cp) ∧ ((n : Int) != 5) = true ∧ Below w.heap.size w w' := by
  refine (split5_any c l hl w E).mono ?_
  rintro e w' ⟨cp, rfl, hc, hb⟩
  exact ⟨_, cp, _, rfl, by rw [bne_iff_ne]; omega, hb⟩

set_option maxHeartbeats 1000000 in
theorem take_yes (l : List UInt8) (c : UInt8) (r : List UInt8) (hl : l = c :: r) (hm : markB c = true) (ll : l.length ≤ 1000000) {x k h q : List UInt8} (hp : parts5 c l = [x, k, h, q, []]) (w : World) (E : Env w) :
    Calls Tryz.prog 104 #[str l] w fun e w' => e = .returned (.tuple #[str k, str h, str q, .nilIface]) ∧ Below w.heap.size w w' := by
  have C := Lib.hid (firstMark_yes l c r hl hm w)
  have CS := Lib.hid (split5_five c l ll hp w E)
  clear hl hp hm ll
  go_enter Tryz.func104, Tryz.ntmps104
  go_wp2_with (first | (go_at_call 91; refine C.out.mono ?_; rintro e w1 ⟨rfl, rfl⟩) | (go_at_call 67; refine CS.out.mono ?_; rintro e w2 ⟨cp, rfl, x1, x2, x3, x4, b2⟩))
  go_region
  all_goals (go_wp2_with fail; refine bodyPost_ret (results_tmp4 rfl _ _ _) rfl ?_; exact ⟨rfl, b2.drew⟩)

set_option maxHeartbeats 1000000 in
theorem take_markless (l : List UInt8) (h : l = [] ∨ ∃ c r, l = c :: r ∧ markB c = false) (aF aK : Addr) (w : World) (R : Errs aF aK w) :
    Calls Tryz.prog 104 #[str l] w fun e w' => e = .returned (.tuple #[str [], str [], str [], faultV tMark aF]) ∧ Below w.heap.size w w' := by
  have C := Lib.hid (firstMark_no l h aF aK w R)
  clear h
  go_enter Tryz.func104, Tryz.ntmps104
  go_wp2_with (go_at_call 91; refine C.out.mono ?_; rintro e w1 ⟨rfl, b1⟩)
  refine bodyPost_ret (results_tmp4 rfl _ _ _) rfl ?_
  exact ⟨rfl, b1⟩

set_option maxHeartbeats 1000000 in
theorem take_no (l : List UInt8) (c : UInt8) (r : List UInt8) (hl : l = c :: r) (hm : markB c = true) (ll : l.length ≤ 1000000) (hf : five c l = false) (aF aK : Addr) (w : World) (E : Env w) (R : Errs aF aK w) :
    Calls Tryz.prog 104 #[str l] w fun e w' => e = .returned (.tuple #[str [], str [], str [], faultV tText aF]) ∧ Below w.heap.size w w' := by
  have C := Lib.hid (firstMark_yes l c r hl hm w)
  rcases five_no hm hf with hp | ⟨x, k, h, q, z, hp, hz⟩
  · have CS := Lib.hid (split5_few c l ll hp w E)
    clear hl hp hm ll hf
    go_enter Tryz.func104, Tryz.ntmps104
    go_wp2_with (first | (go_at_call 91; refine C.out.mono ?_; rintro e w1 ⟨rfl, rfl⟩) | (go_at_call 67; refine CS.out.mono ?_; rintro e w2 ⟨n, cp, p, rfl, hn, b2⟩))
    have k := (R.below b2).form
    go_region
    all_goals (go_wp2_with fail; refine bodyPost_ret (results_tmp4 rfl _ _ _) rfl ?_; exact ⟨rfl, b2.drew⟩)
  · have CS := Lib.hid (split5_five c l ll hp w E)
    have hz1 : (z == ([] : List UInt8)) = false := by rw [beq_eq_false_iff_ne]; exact hz
    clear hl hp hm ll hf hz
    go_enter Tryz.func104, Tryz.ntmps104
    go_wp2_with (first | (go_at_call 91; refine C.out.mono ?_; rintro e w1 ⟨rfl, rfl⟩) | (go_at_call 67; refine CS.out.mono ?_; rintro e w2 ⟨cp, rfl, x1, x2, x3, x4, b2⟩))
    have k := (R.below b2).form
    go_region
    all_goals (go_wp2_with fail; refine bodyPost_ret (results_tmp4 rfl _ _ _) rfl ?_; exact ⟨rfl, b2.drew⟩)

/-- split, whatever the text -/
theorem take_any_no (l : List UInt8) (ll : l.length ≤ 1000000) (hf : fiveL l = false) (aF aK : Addr) :
    ∃ p, Hid (∀ w, Env w → Errs aF aK w → Calls Tryz.prog 104 #[str l] w fun e w' => e = .returned (.tuple #[str [], str [], str [], faultV p aF]) ∧ Below w.heap.size w w') := by
  cases l with
  | nil => exact ⟨_, Lib.hid fun w E R => take_markless [] (Or.inl rfl) aF aK w R⟩
  | cons c r =>
    cases hm : markB c with
    | false => exact ⟨_, Lib.hid fun w E R => take_markless (c :: r) (Or.inr ⟨c, r, rfl, hm⟩) aF aK w R⟩
    | true => exact ⟨_, Lib.hid fun w E R => take_no (c :: r) c r rfl hm ll hf aF aK w E R⟩

/-- what readEnd answers -/
def EndPost (aF aK : Addr) (l : List UInt8) (e : Ending) : Prop :=
  (extC l = 0 ∧ e = .returned (.tuple #[endV (extH l 0) (extH l 1) (extH l 2) (extH l 3) (extP l), .nilIface])) ∨
  (extC l = 2 ∧ ∃ p, e = .returned (.tuple #[endV 0 0 0 0 0, faultV p aF])) ∨ (extC l = 8 ∧ ∃ p, e = .returned (.tuple #[endV 0 0 0 0 0, faultV p aK]))

set_option maxHeartbeats 2000000 in
set_option maxRecDepth 100000 in
theorem readEnd_any (l : List UInt8) (ll : l.length ≤ 1000000) (aF aK : Addr) (w : World) (E : Env w) (R : Errs aF aK w) :
    Calls Tryz.prog 84 #[str l] w fun e w' => EndPost aF aK l e ∧ Below w.heap.size w w' := by
  cases hf : fiveL l with
  | false =>
    obtain ⟨p, C⟩ := take_any_no l ll hf aF aK
    have hC := Lib.hid (fiveL_no hf)
    clear hf
    go_enter Tryz.func84, Tryz.ntmps84
    go_wp2_with (go_at_call 104; refine (C.out _ ?_ ?_).mono ?_)
    · exact E.alloc _
    · exact R.alloc _
    rintro e w1 ⟨rfl, b1⟩
    have B1 : Below w.heap.size w w1 := ((Below.refl _ _).alloc (Nat.le_refl _) _).trans (b1.mono (by simp))
    have Q1 : IsRow w1 w.heap.size 30 #[.int .u8 0, .int .u8 0, .int .u8 0, .int .u8 0, .int .i64 0] := (IsRow.made w _ _).call b1
    have hN1 := Q1.lt
    clear b1
    have z0 : w1.cell? ⟨w.heap.size, 0, none⟩ = some (.int .u8 0) := Q1.cell 0
    have zf0 : w1.frozen? ⟨w.heap.size, 0, none⟩ = false := Q1.free 0
    have z1 : w1.cell? ⟨w.heap.size, 1, none⟩ = some (.int .u8 0) := Q1.cell 1
    have zf1 : w1.frozen? ⟨w.heap.size, 1, none⟩ = false := Q1.free 1
    have z2 : w1.cell? ⟨w.heap.size, 2, none⟩ = some (.int .u8 0) := Q1.cell 2
    have zf2 : w1.frozen? ⟨w.heap.size, 2, none⟩ = false := Q1.free 2
    have z3 : w1.cell? ⟨w.heap.size, 3, none⟩ = some (.int .u8 0) := Q1.cell 3
    have zf3 : w1.frozen? ⟨w.heap.size, 3, none⟩ = false := Q1.free 3
    have z4 : w1.cell? ⟨w.heap.size, 4, none⟩ = some (.int .i64 0) := Q1.cell 4
    have zf4 : w1.frozen? ⟨w.heap.size, 4, none⟩ = false := Q1.free 4
    go_wp2_with fail
    generalize hW : World.setCell _ _ _ = W9
    have FR : IsRow W9 w.heap.size 30 #[.int .u8 0, .int .u8 0, .int .u8 0, .int .u8 0, .int .i64 0] := by rw [← hW]; exact (((((Q1.set 0 _).set 1 _).set 2 _).set 3 _).set 4 _)
    have B9 : Below w.heap.size w W9 := by rw [← hW]; exact (((((B1.setCell (Nat.le_refl _) _).setCell (Nat.le_refl _) _).setCell (Nat.le_refl _) _).setCell (Nat.le_refl _) _).setCell (Nat.le_refl _) _)
    have g0 : W9.cell? ⟨w.heap.size, 0, none⟩ = some (.int .u8 0) := FR.cell 0
    have g1 : W9.cell? ⟨w.heap.size, 1, none⟩ = some (.int .u8 0) := FR.cell 1
    have g2 : W9.cell? ⟨w.heap.size, 2, none⟩ = some (.int .u8 0) := FR.cell 2
    have g3 : W9.cell? ⟨w.heap.size, 3, none⟩ = some (.int .u8 0) := FR.cell 3
    have g4 : W9.cell? ⟨w.heap.size, 4, none⟩ = some (.int .i64 0) := FR.cell 4
    exact bodyPost_ret (v := .tuple #[endV 0 0 0 0 0, faultV p aF]) (by simp [results, Tryz.results84, go_sem, g0, g1, g2, g3, g4]) rfl ⟨Or.inr (Or.inl ⟨hC.out, _, rfl⟩), B9⟩
  | true =>
    obtain ⟨c, r, hl⟩ : ∃ c r, l = c :: r := by
      cases l with
      | nil => cases hf
      | cons c r => exact ⟨c, r, rfl⟩
    have hf' : five c l = true := by rw [hl] at hf ⊢; exact hf
    obtain ⟨hm, x, k, h, q, hc, hp⟩ := five_yes hf'
    obtain ⟨hC, h2, h3⟩ := extC_parts (c := c) (r := r) (by rw [← hl]; exact hf') (by rw [← hl]; exact hc)
    rw [← hl] at hC h2 h3
    have lh : h.length ≤ 1000000 := by have := cutL_le c l h (by rw [hc]; simp); omega
    have C := Lib.hid (fun W (EW : Env W) (RW : Errs aF aK W) => take_yes l c r hl hm ll hp W EW)
    clear hf hl hf' hm hc hp ll
    cases hk : kindB k with
    | false =>
      rw [hk] at hC
      have hD := Lib.hid (show extC l = 2 by rw [hC]; rfl)
      have CK := Lib.hid (fun W EW RW => checkKind_no k hk aF aK W EW RW)
      clear hC hk
      go_enter Tryz.func84, Tryz.ntmps84
      go_wp2_with (go_at_call 104; refine (C.out _ ?_ ?_).mono ?_)
      · exact E.alloc _
      · exact R.alloc _
      rintro e w1 ⟨rfl, b1⟩
      have B1 : Below w.heap.size w w1 := ((Below.refl _ _).alloc (Nat.le_refl _) _).trans (b1.mono (by simp))
      have Q1 : IsRow w1 w.heap.size 30 #[.int .u8 0, .int .u8 0, .int .u8 0, .int .u8 0, .int .i64 0] := (IsRow.made w _ _).call b1
      have hN1 := Q1.lt
      clear b1
      go_wp2_with (go_at_call 105; refine ((CK.out _ (E.below B1) (R.below B1))).mono ?_)
      rintro e w2 ⟨rfl, b2⟩
      have B2 := below_trans B1 b2
      have Q2 := Q1.call b2
      have hN2 := Q2.lt
      clear b2 Q1
      have z0 : w2.cell? ⟨w.heap.size, 0, none⟩ = some (.int .u8 0) := Q2.cell 0
      have zf0 : w2.frozen? ⟨w.heap.size, 0, none⟩ = false := Q2.free 0
      have z1 : w2.cell? ⟨w.heap.size, 1, none⟩ = some (.int .u8 0) := Q2.cell 1
      have zf1 : w2.frozen? ⟨w.heap.size, 1, none⟩ = false := Q2.free 1
      have z2 : w2.cell? ⟨w.heap.size, 2, none⟩ = some (.int .u8 0) := Q2.cell 2
      have zf2 : w2.frozen? ⟨w.heap.size, 2, none⟩ = false := Q2.free 2
      have z3 : w2.cell? ⟨w.heap.size, 3, none⟩ = some (.int .u8 0) := Q2.cell 3
      have zf3 : w2.frozen? ⟨w.heap.size, 3, none⟩ = false := Q2.free 3
      have z4 : w2.cell? ⟨w.heap.size, 4, none⟩ = some (.int .i64 0) := Q2.cell 4
      have zf4 : w2.frozen? ⟨w.heap.size, 4, none⟩ = false := Q2.free 4
      go_wp2_with fail
      generalize hW : World.setCell _ _ _ = W9
      have FR : IsRow W9 w.heap.size 30 #[.int .u8 0, .int .u8 0, .int .u8 0, .int .u8 0, .int .i64 0] := by rw [← hW]; exact (((((Q2.set 0 _).set 1 _).set 2 _).set 3 _).set 4 _)
      have B9 : Below w.heap.size w W9 := by rw [← hW]; exact (((((B2.setCell (Nat.le_refl _) _).setCell (Nat.le_refl _) _).setCell (Nat.le_refl _) _).setCell (Nat.le_refl _) _).setCell (Nat.le_refl _) _)
      have g0 : W9.cell? ⟨w.heap.size, 0, none⟩ = some (.int .u8 0) := FR.cell 0
      have g1 : W9.cell? ⟨w.heap.size, 1, none⟩ = some (.int .u8 0) := FR.cell 1
      have g2 : W9.cell? ⟨w.heap.size, 2, none⟩ = some (.int .u8 0) := FR.cell 2
      have g3 : W9.cell? ⟨w.heap.size, 3, none⟩ = some (.int .u8 0) := FR.cell 3
      have g4 : W9.cell? ⟨w.heap.size, 4, none⟩ = some (.int .i64 0) := FR.cell 4
      exact bodyPost_ret (v := .tuple #[endV 0 0 0 0 0, faultV tKind aF]) (by simp [results, Tryz.results84, go_sem, g0, g1, g2, g3, g4]) rfl ⟨Or.inr (Or.inl ⟨hD.out, _, rfl⟩), B9⟩
    | true =>
      rw [hk, if_pos rfl] at hC
      by_cases h1 : getV k 9 = 1
      · rw [if_pos h1] at hC
        have CK := Lib.hid (fun W EW => checkKind_one k h1 W EW)
        have CH := Lib.hid (fun W (EW : Env W) => Quad.read_any h (by omega) W EW)
        clear hk h1
        cases hh : readB h with
        | false =>
          rw [hh] at hC
          have hD := Lib.hid (show extC l = 2 by rw [hC]; rfl)
          rw [hread_none hh] at CH
          clear hC hh
          go_enter Tryz.func84, Tryz.ntmps84
          go_wp2_with (go_at_call 104; refine (C.out _ ?_ ?_).mono ?_)
          · exact E.alloc _
          · exact R.alloc _
          rintro e w1 ⟨rfl, b1⟩
          have B1 : Below w.heap.size w w1 := ((Below.refl _ _).alloc (Nat.le_refl _) _).trans (b1.mono (by simp))
          have Q1 : IsRow w1 w.heap.size 30 #[.int .u8 0, .int .u8 0, .int .u8 0, .int .u8 0, .int .i64 0] := (IsRow.made w _ _).call b1
          have hN1 := Q1.lt
          clear b1
          go_wp2_with (go_at_call 105; refine ((CK.out _ (E.below B1))).mono ?_)
          rintro e w2 ⟨rfl, b2⟩
          have B2 := below_trans B1 b2
          have Q2 := Q1.call b2
          have hN2 := Q2.lt
          clear b2 Q1
          go_wp2_with (go_at_call 106; refine ((CH.out _ (E.below B2))).mono ?_)
          rintro e w3 ⟨rfl, b3⟩
          have B3 := below_trans B2 b3
          have Q3 := Q2.call b3
          have hN3 := Q3.lt
          clear b3 Q2
          have z0 : w3.cell? ⟨w.heap.size, 0, none⟩ = some (.int .u8 0) := Q3.cell 0
          have zf0 : w3.frozen? ⟨w.heap.size, 0, none⟩ = false := Q3.free 0
          have z1 : w3.cell? ⟨w.heap.size, 1, none⟩ = some (.int .u8 0) := Q3.cell 1
          have zf1 : w3.frozen? ⟨w.heap.size, 1, none⟩ = false := Q3.free 1
          have z2 : w3.cell? ⟨w.heap.size, 2, none⟩ = some (.int .u8 0) := Q3.cell 2
          have zf2 : w3.frozen? ⟨w.heap.size, 2, none⟩ = false := Q3.free 2
          have z3 : w3.cell? ⟨w.heap.size, 3, none⟩ = some (.int .u8 0) := Q3.cell 3
          have zf3 : w3.frozen? ⟨w.heap.size, 3, none⟩ = false := Q3.free 3
          have z4 : w3.cell? ⟨w.heap.size, 4, none⟩ = some (.int .i64 0) := Q3.cell 4
          have zf4 : w3.frozen? ⟨w.heap.size, 4, none⟩ = false := Q3.free 4
          go_wp2_with fail
          obtain ⟨w4, e4, B4, Q4⟩ : ∃ w4, w3.alloc (.cells #[.int .u8 0, .int .u8 0, .int .u8 0, .int .u8 0] 28) = w4 ∧ Below w.heap.size w w4 ∧ IsRow w4 w.heap.size 30 #[.int .u8 0, .int .u8 0, .int .u8 0, .int .u8 0, .int .i64 0] := ⟨_, rfl, B3.alloc B3.size _, Q3.alloc _⟩
          rw [e4]
          clear e4 z0 zf0 z1 zf1 z2 zf2 z3 zf3 z4 zf4
          have z0 : w4.cell? ⟨w.heap.size, 0, none⟩ = some (.int .u8 0) := Q4.cell 0
          have zf0 : w4.frozen? ⟨w.heap.size, 0, none⟩ = false := Q4.free 0
          have z1 : w4.cell? ⟨w.heap.size, 1, none⟩ = some (.int .u8 0) := Q4.cell 1
          have zf1 : w4.frozen? ⟨w.heap.size, 1, none⟩ = false := Q4.free 1
          have z2 : w4.cell? ⟨w.heap.size, 2, none⟩ = some (.int .u8 0) := Q4.cell 2
          have zf2 : w4.frozen? ⟨w.heap.size, 2, none⟩ = false := Q4.free 2
          have z3 : w4.cell? ⟨w.heap.size, 3, none⟩ = some (.int .u8 0) := Q4.cell 3
          have zf3 : w4.frozen? ⟨w.heap.size, 3, none⟩ = false := Q4.free 3
          have z4 : w4.cell? ⟨w.heap.size, 4, none⟩ = some (.int .i64 0) := Q4.cell 4
          have zf4 : w4.frozen? ⟨w.heap.size, 4, none⟩ = false := Q4.free 4
          have kf := (R.below B4).form
          have kg : ((((((w4.setCell ⟨w.heap.size, 0, none⟩ (.int .u8 0)).setCell ⟨w.heap.size, 1, none⟩ (.int .u8 0)).setCell ⟨w.heap.size, 2, none⟩ (.int .u8 0)).setCell ⟨w.heap.size, 3, none⟩ (.int .u8 0)).setCell ⟨w.heap.size, 4, none⟩ (.int .i64 0))).cell? ⟨5, 0, none⟩ = some (newV aF) := (R.below (((((B4.setCell (Nat.le_refl _) _).setCell (Nat.le_refl _) _).setCell (Nat.le_refl _) _).setCell (Nat.le_refl _) _).setCell (Nat.le_refl _) _)).form
          clear B3 Q3
          go_region
          go_wp2_with fail
          generalize hW : World.drew (World.setCell _ _ _) = W9
          have FR : IsRow W9 w.heap.size 30 #[.int .u8 0, .int .u8 0, .int .u8 0, .int .u8 0, .int .i64 0] := by rw [← hW]; exact (((((Q4.set 0 _).set 1 _).set 2 _).set 3 _).set 4 _)
          have B9 : Below w.heap.size w W9 := by rw [← hW]; exact (((((B4.setCell (Nat.le_refl _) _).setCell (Nat.le_refl _) _).setCell (Nat.le_refl _) _).setCell (Nat.le_refl _) _).setCell (Nat.le_refl _) _).drew
          have g0 : W9.cell? ⟨w.heap.size, 0, none⟩ = some (.int .u8 0) := FR.cell 0
          have g1 : W9.cell? ⟨w.heap.size, 1, none⟩ = some (.int .u8 0) := FR.cell 1
          have g2 : W9.cell? ⟨w.heap.size, 2, none⟩ = some (.int .u8 0) := FR.cell 2
          have g3 : W9.cell? ⟨w.heap.size, 3, none⟩ = some (.int .u8 0) := FR.cell 3
          have g4 : W9.cell? ⟨w.heap.size, 4, none⟩ = some (.int .i64 0) := FR.cell 4
          exact bodyPost_ret (v := .tuple #[endV 0 0 0 0 0, faultV tHost aF]) (by simp [results, Tryz.results84, go_sem, g0, g1, g2, g3, g4]) rfl ⟨Or.inr (Or.inl ⟨hD.out, _, rfl⟩), B9⟩
        | true =>
          rw [hh] at hC
          unfold Quad.readV at CH
          rw [hh] at CH
          cases hq : portB q with
          | false =>
            rw [hq] at hC
            have hD := Lib.hid (show extC l = 2 by rw [hC]; rfl)
            have CP := Lib.hid (fun W EW RW => readPort_no q hq aF aK W EW RW)
            clear hC hh hq
            generalize readH h 0 = r0 at CH
            generalize readH h 1 = r1 at CH
            generalize readH h 2 = r2 at CH
            generalize readH h 3 = r3 at CH
            go_enter Tryz.func84, Tryz.ntmps84
            go_wp2_with (go_at_call 104; refine (C.out _ ?_ ?_).mono ?_)
            · exact E.alloc _
            · exact R.alloc _
            rintro e w1 ⟨rfl, b1⟩
            have B1 : Below w.heap.size w w1 := ((Below.refl _ _).alloc (Nat.le_refl _) _).trans (b1.mono (by simp))
            have Q1 : IsRow w1 w.heap.size 30 #[.int .u8 0, .int .u8 0, .int .u8 0, .int .u8 0, .int .i64 0] := (IsRow.made w _ _).call b1
            have hN1 := Q1.lt
            clear b1
            go_wp2_with (go_at_call 105; refine ((CK.out _ (E.below B1))).mono ?_)
            rintro e w2 ⟨rfl, b2⟩
            have B2 := below_trans B1 b2
            have Q2 := Q1.call b2
            have hN2 := Q2.lt
            clear b2 Q1
            go_wp2_with (go_at_call 106; refine ((CH.out _ (E.below B2))).mono ?_)
            rintro e w3 ⟨rfl, b3⟩
            have B3 := below_trans B2 b3
            have Q3 := Q2.call b3
            have hN3 := Q3.lt
            clear b3 Q2
            go_wp2_with fail
            obtain ⟨w4, e4, B4, Q4, H4⟩ : ∃ w4, w3.alloc (.cells #[.int .u8 r0, .int .u8 r1, .int .u8 r2, .int .u8 r3] 28) = w4 ∧ Below w.heap.size w w4 ∧ IsRow w4 w.heap.size 30 #[.int .u8 0, .int .u8 0, .int .u8 0, .int .u8 0, .int .i64 0] ∧ IsRow w4 w3.heap.size 28 #[.int .u8 r0, .int .u8 r1, .int .u8 r2, .int .u8 r3] := ⟨_, rfl, B3.alloc B3.size _, Q3.alloc _, IsRow.made _ _ _⟩
            rw [e4]
            clear e4 B3 Q3
            go_wp2_with (go_at_call 94; refine ((CP.out _ (E.below B4) (R.below B4))).mono ?_)
            rintro e w5 ⟨rfl, b5⟩
            have B5 := below_trans B4 b5
            have Q5 := Q4.call b5
            have H5 := H4.call b5
            have hN5 := Q5.lt
            have hM5 := H5.lt
            clear b5 Q4 H4
            have z0 : w5.cell? ⟨w.heap.size, 0, none⟩ = some (.int .u8 0) := Q5.cell 0
            have zf0 : w5.frozen? ⟨w.heap.size, 0, none⟩ = false := Q5.free 0
            have z1 : w5.cell? ⟨w.heap.size, 1, none⟩ = some (.int .u8 0) := Q5.cell 1
            have zf1 : w5.frozen? ⟨w.heap.size, 1, none⟩ = false := Q5.free 1
            have z2 : w5.cell? ⟨w.heap.size, 2, none⟩ = some (.int .u8 0) := Q5.cell 2
            have zf2 : w5.frozen? ⟨w.heap.size, 2, none⟩ = false := Q5.free 2
            have z3 : w5.cell? ⟨w.heap.size, 3, none⟩ = some (.int .u8 0) := Q5.cell 3
            have zf3 : w5.frozen? ⟨w.heap.size, 3, none⟩ = false := Q5.free 3
            have z4 : w5.cell? ⟨w.heap.size, 4, none⟩ = some (.int .i64 0) := Q5.cell 4
            have zf4 : w5.frozen? ⟨w.heap.size, 4, none⟩ = false := Q5.free 4
            have h0 : w5.cell? ⟨w3.heap.size, 0, none⟩ = some (.int .u8 r0) := H5.cell 0
            have h1 : w5.cell? ⟨w3.heap.size, 1, none⟩ = some (.int .u8 r1) := H5.cell 1
            have h2 : w5.cell? ⟨w3.heap.size, 2, none⟩ = some (.int .u8 r2) := H5.cell 2
            have h3 : w5.cell? ⟨w3.heap.size, 3, none⟩ = some (.int .u8 r3) := H5.cell 3
            go_wp2_with fail
            generalize hW : World.setCell _ _ _ = W9
            have FR : IsRow W9 w.heap.size 30 #[.int .u8 0, .int .u8 0, .int .u8 0, .int .u8 0, .int .i64 0] := by rw [← hW]; exact (((((Q5.set 0 _).set 1 _).set 2 _).set 3 _).set 4 _)
            have B9 : Below w.heap.size w W9 := by rw [← hW]; exact (((((B5.setCell (Nat.le_refl _) _).setCell (Nat.le_refl _) _).setCell (Nat.le_refl _) _).setCell (Nat.le_refl _) _).setCell (Nat.le_refl _) _)
            have g0 : W9.cell? ⟨w.heap.size, 0, none⟩ = some (.int .u8 0) := FR.cell 0
            have g1 : W9.cell? ⟨w.heap.size, 1, none⟩ = some (.int .u8 0) := FR.cell 1
            have g2 : W9.cell? ⟨w.heap.size, 2, none⟩ = some (.int .u8 0) := FR.cell 2
            have g3 : W9.cell? ⟨w.heap.size, 3, none⟩ = some (.int .u8 0) := FR.cell 3
            have g4 : W9.cell? ⟨w.heap.size, 4, none⟩ = some (.int .i64 0) := FR.cell 4
            exact bodyPost_ret (v := .tuple #[endV 0 0 0 0 0, faultV tPort aF]) (by simp [results, Tryz.results84, go_sem, g0, g1, g2, g3, g4]) rfl ⟨Or.inr (Or.inl ⟨hD.out, _, rfl⟩), B9⟩
          | true =>
            rw [hq] at hC
            have h0 : extC l = 0 := by rw [hC]; rfl
            have hD := Lib.hid h0
            have hE := Lib.hid (show extH l 0 = readH h 0 ∧ extH l 1 = readH h 1 ∧ extH l 2 = readH h 2 ∧ extH l 3 = readH h 3 ∧ extP l = getV q 65535 by unfold extH extP; simp only [if_pos h0, h2, h3]; exact ⟨trivial, trivial, trivial, trivial, trivial⟩)
            have CP := Lib.hid (fun W EW (_ : Errs aF aK W) => readPort_yes q hq W EW)
            clear hC hh hq h0
            generalize readH h 0 = r0 at CH hE
            generalize readH h 1 = r1 at CH hE
            generalize readH h 2 = r2 at CH hE
            generalize readH h 3 = r3 at CH hE
            generalize getV q 65535 = r4 at CP hE
            go_enter Tryz.func84, Tryz.ntmps84
            go_wp2_with (go_at_call 104; refine (C.out _ ?_ ?_).mono ?_)
            · exact E.alloc _
            · exact R.alloc _
            rintro e w1 ⟨rfl, b1⟩
            have B1 : Below w.heap.size w w1 := ((Below.refl _ _).alloc (Nat.le_refl _) _).trans (b1.mono (by simp))
            have Q1 : IsRow w1 w.heap.size 30 #[.int .u8 0, .int .u8 0, .int .u8 0, .int .u8 0, .int .i64 0] := (IsRow.made w _ _).call b1
            have hN1 := Q1.lt
            clear b1
            go_wp2_with (go_at_call 105; refine ((CK.out _ (E.below B1))).mono ?_)
            rintro e w2 ⟨rfl, b2⟩
            have B2 := below_trans B1 b2
            have Q2 := Q1.call b2
            have hN2 := Q2.lt
            clear b2 Q1
            go_wp2_with (go_at_call 106; refine ((CH.out _ (E.below B2))).mono ?_)
            rintro e w3 ⟨rfl, b3⟩
            have B3 := below_trans B2 b3
            have Q3 := Q2.call b3
            have hN3 := Q3.lt
            clear b3 Q2
            go_wp2_with fail
            obtain ⟨w4, e4, B4, Q4, H4⟩ : ∃ w4, w3.alloc (.cells #[.int .u8 r0, .int .u8 r1, .int .u8 r2, .int .u8 r3] 28) = w4 ∧ Below w.heap.size w w4 ∧ IsRow w4 w.heap.size 30 #[.int .u8 0, .int .u8 0, .int .u8 0, .int .u8 0, .int .i64 0] ∧ IsRow w4 w3.heap.size 28 #[.int .u8 r0, .int .u8 r1, .int .u8 r2, .int .u8 r3] := ⟨_, rfl, B3.alloc B3.size _, Q3.alloc _, IsRow.made _ _ _⟩
            rw [e4]
            clear e4 B3 Q3
            go_wp2_with (go_at_call 94; refine ((CP.out _ (E.below B4) (R.below B4))).mono ?_)
            rintro e w5 ⟨rfl, b5⟩
            have B5 := below_trans B4 b5
            have Q5 := Q4.call b5
            have H5 := H4.call b5
            have hN5 := Q5.lt
            have hM5 := H5.lt
            clear b5 Q4 H4
            have z0 : w5.cell? ⟨w.heap.size, 0, none⟩ = some (.int .u8 0) := Q5.cell 0
            have zf0 : w5.frozen? ⟨w.heap.size, 0, none⟩ = false := Q5.free 0
            have z1 : w5.cell? ⟨w.heap.size, 1, none⟩ = some (.int .u8 0) := Q5.cell 1
            have zf1 : w5.frozen? ⟨w.heap.size, 1, none⟩ = false := Q5.free 1
            have z2 : w5.cell? ⟨w.heap.size, 2, none⟩ = some (.int .u8 0) := Q5.cell 2
            have zf2 : w5.frozen? ⟨w.heap.size, 2, none⟩ = false := Q5.free 2
            have z3 : w5.cell? ⟨w.heap.size, 3, none⟩ = some (.int .u8 0) := Q5.cell 3
            have zf3 : w5.frozen? ⟨w.heap.size, 3, none⟩ = false := Q5.free 3
            have z4 : w5.cell? ⟨w.heap.size, 4, none⟩ = some (.int .i64 0) := Q5.cell 4
            have zf4 : w5.frozen? ⟨w.heap.size, 4, none⟩ = false := Q5.free 4
            have h0 : w5.cell? ⟨w3.heap.size, 0, none⟩ = some (.int .u8 r0) := H5.cell 0
            have h1 : w5.cell? ⟨w3.heap.size, 1, none⟩ = some (.int .u8 r1) := H5.cell 1
            have h2 : w5.cell? ⟨w3.heap.size, 2, none⟩ = some (.int .u8 r2) := H5.cell 2
            have h3 : w5.cell? ⟨w3.heap.size, 3, none⟩ = some (.int .u8 r3) := H5.cell 3
            go_wp2_with fail
            generalize hW : World.setCell _ _ _ = W9
            have FR : IsRow W9 w.heap.size 30 #[.int .u8 r0, .int .u8 r1, .int .u8 r2, .int .u8 r3, .int .i64 r4] := by rw [← hW]; exact (((((Q5.set 0 _).set 1 _).set 2 _).set 3 _).set 4 _)
            have B9 : Below w.heap.size w W9 := by rw [← hW]; exact (((((B5.setCell (Nat.le_refl _) _).setCell (Nat.le_refl _) _).setCell (Nat.le_refl _) _).setCell (Nat.le_refl _) _).setCell (Nat.le_refl _) _)
            have g0 : W9.cell? ⟨w.heap.size, 0, none⟩ = some (.int .u8 r0) := FR.cell 0
            have g1 : W9.cell? ⟨w.heap.size, 1, none⟩ = some (.int .u8 r1) := FR.cell 1
            have g2 : W9.cell? ⟨w.heap.size, 2, none⟩ = some (.int .u8 r2) := FR.cell 2
            have g3 : W9.cell? ⟨w.heap.size, 3, none⟩ = some (.int .u8 r3) := FR.cell 3
            have g4 : W9.cell? ⟨w.heap.size, 4, none⟩ = some (.int .i64 r4) := FR.cell 4
            exact bodyPost_ret (v := .tuple #[endV r0 r1 r2 r3 r4, .nilIface]) (by simp [results, Tryz.results84, go_sem, g0, g1, g2, g3, g4]) rfl ⟨Or.inl ⟨hD.out, by obtain ⟨e0, e1, e2, e3, e4⟩ := hE.out; rw [e0, e1, e2, e3, e4]⟩, B9⟩
      · rw [if_neg h1] at hC
        have hD := Lib.hid hC
        have CK := Lib.hid (fun W EW RW => checkKind_other k hk h1 aF aK W EW RW)
        clear hC hk h1
        go_enter Tryz.func84, Tryz.ntmps84
        go_wp2_with (go_at_call 104; refine (C.out _ ?_ ?_).mono ?_)
        · exact E.alloc _
        · exact R.alloc _
        rintro e w1 ⟨rfl, b1⟩
        have B1 : Below w.heap.size w w1 := ((Below.refl _ _).alloc (Nat.le_refl _) _).trans (b1.mono (by simp))
        have Q1 : IsRow w1 w.heap.size 30 #[.int .u8 0, .int .u8 0, .int .u8 0, .int .u8 0, .int .i64 0] := (IsRow.made w _ _).call b1
        have hN1 := Q1.lt
        clear b1
        go_wp2_with (go_at_call 105; refine ((CK.out _ (E.below B1) (R.below B1))).mono ?_)
        rintro e w2 ⟨rfl, b2⟩
        have B2 := below_trans B1 b2
        have Q2 := Q1.call b2
        have hN2 := Q2.lt
        clear b2 Q1
        have z0 : w2.cell? ⟨w.heap.size, 0, none⟩ = some (.int .u8 0) := Q2.cell 0
        have zf0 : w2.frozen? ⟨w.heap.size, 0, none⟩ = false := Q2.free 0
        have z1 : w2.cell? ⟨w.heap.size, 1, none⟩ = some (.int .u8 0) := Q2.cell 1
        have zf1 : w2.frozen? ⟨w.heap.size, 1, none⟩ = false := Q2.free 1
        have z2 : w2.cell? ⟨w.heap.size, 2, none⟩ = some (.int .u8 0) := Q2.cell 2
        have zf2 : w2.frozen? ⟨w.heap.size, 2, none⟩ = false := Q2.free 2
        have z3 : w2.cell? ⟨w.heap.size, 3, none⟩ = some (.int .u8 0) := Q2.cell 3
        have zf3 : w2.frozen? ⟨w.heap.size, 3, none⟩ = false := Q2.free 3
        have z4 : w2.cell? ⟨w.heap.size, 4, none⟩ = some (.int .i64 0) := Q2.cell 4
        have zf4 : w2.frozen? ⟨w.heap.size, 4, none⟩ = false := Q2.free 4
        go_wp2_with fail
        generalize hW : World.setCell _ _ _ = W9
        have FR : IsRow W9 w.heap.size 30 #[.int .u8 0, .int .u8 0, .int .u8 0, .int .u8 0, .int .i64 0] := by rw [← hW]; exact (((((Q2.set 0 _).set 1 _).set 2 _).set 3 _).set 4 _)
        have B9 : Below w.heap.size w W9 := by rw [← hW]; exact (((((B2.setCell (Nat.le_refl _) _).setCell (Nat.le_refl _) _).setCell (Nat.le_refl _) _).setCell (Nat.le_refl _) _).setCell (Nat.le_refl _) _)
        have g0 : W9.cell? ⟨w.heap.size, 0, none⟩ = some (.int .u8 0) := FR.cell 0
        have g1 : W9.cell? ⟨w.heap.size, 1, none⟩ = some (.int .u8 0) := FR.cell 1
        have g2 : W9.cell? ⟨w.heap.size, 2, none⟩ = some (.int .u8 0) := FR.cell 2
        have g3 : W9.cell? ⟨w.heap.size, 3, none⟩ = some (.int .u8 0) := FR.cell 3
        have g4 : W9.cell? ⟨w.heap.size, 4, none⟩ = some (.int .i64 0) := FR.cell 4
        exact bodyPost_ret (v := .tuple #[endV 0 0 0 0 0, faultV tKind aK]) (by simp [results, Tryz.results84, go_sem, g0, g1, g2, g3, g4]) rfl ⟨Or.inr (Or.inr ⟨hD.out, _, rfl⟩), B9⟩

end Go.Proofs.YtdimfppijcebjaaGreatDoor.Ext
