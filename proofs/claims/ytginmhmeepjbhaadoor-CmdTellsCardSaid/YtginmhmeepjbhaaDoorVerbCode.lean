/- The contracts of package verb: All, Upper, Find. -/
import Derived.Test.YtginmhmeepjbhaaDoorVerbNamed
import Derived.Test.YtginmhmeepjbhaaDoorVerbUp
import Derived.Laws.OwnMore
import Derived.Laws.AppendOwn
namespace Go.Proofs.YtginmhmeepjbhaaDoor.Vb
open Go.Proofs.YtginmhmeepjbhaaDoor
open Go.ChangeShapes Go.WideShapes Go.ChangeAt Go.RowKit
set_option maxRecDepth 100000
set_option linter.unusedSimpArgs false

theorem find_any (s : List UInt8) (hl : s.length ≤ 100000) (w : World) : Calls Tryd.prog 20 #[.string ⟨s.toArray⟩] w fun e w' => e = .returned (.tuple #[verbV (found s).1, .bool (found s).2]) ∧ Below w.heap.size w w' := find_by upper_any s hl w

theorem info_verb : (Tryd.prog.info? 37).map (fun i => (i.zero, i.size, i.bytes)) = some (some (.agg #[.string ByteArray.empty, .int .i64 0, .int .i64 0, .bool false]), 4, 40) := by kernel_rfl
abbrev nameV (v : Vb) : Value := .string ⟨v.name.toArray⟩
theorem own_call {w w' : World} {base : Nat} {t : TypeId} {size : Nat} {v : Value} {n : Nat} {xs : List Value} (h : w.ownsRow base t size v n xs) (hb : Below w.heap.size w w') : w'.ownsRow base t size v n xs := by
  obtain ⟨h0, h | ⟨g, cap, cur, h1, h2, h3, hr⟩⟩ := h
  · exact ⟨h0, Or.inl h⟩
  · exact ⟨h0, Or.inr ⟨g, cap, cur, h1, h2, by rw [hb.block g (lt_of_block h3)]; exact h3, hr⟩⟩
/-- the names of the table, sorted, in a block -/
def NamesAt (w : World) (g : Nat) : Prop := g < w.heap.size ∧ ∀ k (h : k < verbs.length), w.cell? ⟨g, k, none⟩ = some (nameV verbs[k])
theorem NamesAt.call {w w' : World} {g : Nat} (h : NamesAt w g) (hb : Below w.heap.size w w') : NamesAt w' g := by
  refine ⟨Nat.lt_of_lt_of_le h.1 hb.size, fun k hk => ?_⟩
  rw [hb.cell (p := ⟨g, k, none⟩) h.1]
  exact h.2 k hk
theorem names_any (b : Nat) (w : World) (T : Tab w b) : Calls Tryd.prog 27 #[.func (.func 39) #[] #[.pointer (some ⟨w.heap.size, 0, none⟩)]] (w.alloc (.cells #[.map (some b)] 54)) fun e w' =>
    ∃ g cap, e = .returned (.slice (some ⟨g, 0, none⟩) 36 cap) ∧ NamesAt w' g ∧ Below w.heap.size w w' := by
  refine (sorted_any b 36 (tabOf verbs) asIs w T (by rw [tab_size]; decide) (by rw [tab_size]; decide)).mono ?_
  rintro e w' ⟨v, ss, rfl, hS, hrow, hnil, hb⟩
  have hlen : ss.length = 36 := by
    have := hS.length_eq
    rw [tab_keys, List.length_map, verbs_len] at this
    exact this
  rw [sorted_names hS, hlen] at hrow
  have h0 := hrow.2
  rcases h0 with ⟨rfl, h⟩ | ⟨g, cap, cur, rfl, hg, hh, _⟩
  · cases h
  · refine ⟨g, cap, rfl, ⟨lt_of_block hh, fun k hk => ?_⟩, ((Below.refl _ w).alloc (Nat.le_refl _) _).trans (hb.mono (by simp))⟩
    have hk' : k < 36 := by rw [verbs_len] at hk; exact hk
    have := hrow.cellAt k (by omega)
    rw [this, List.getElem?_map, List.getElem?_map, List.getElem?_eq_getElem hk]
    rfl
theorem look_each (k : Nat) (hk : k < verbs.length) : (has verbs[k].name).1 = verbs[k] := by rw [has_each _ (List.getElem_mem hk)]
theorem take_next (k : Nat) (hk : k < verbs.length) : (verbs.take (k + 1)).flatMap verbCs = (verbs.take k).flatMap verbCs ++ verbCs verbs[k] := by
  rw [List.take_succ_eq_append_getElem hk, List.flatMap_append]
  simp
theorem own_verbs {w : World} {base : Nat} {v : Value} (h : w.ownsRow base 37 4 v 36 (verbs.flatMap verbCs)) : ∃ p c, v = .slice p 36 c ∧ VerbsIs w (.slice p 36 c) verbs := by
  have h0 := h.2
  rcases h0 with ⟨rfl, h'⟩ | ⟨g, cap, cur, rfl, hg, hh, _⟩
  · cases h'
  · refine ⟨_, _, rfl, g, 0, cap, rfl, lt_of_block hh, fun i hi => ?_⟩
    obtain ⟨q0, q1, q2, q3⟩ := flat4 verbs i hi
    have hi' : i < 36 := by rw [verbs_len] at hi; exact hi
    simp only [Nat.zero_add]
    exact ⟨by rw [h.cellAt _ (by omega)]; exact q0, by rw [h.cellAt _ (by omega)]; exact q1, by rw [h.cellAt _ (by omega)]; exact q2, by rw [h.cellAt _ (by omega)]; exact q3⟩

set_option maxHeartbeats 4000000 in
set_option maxRecDepth 100000 in
theorem all_any (w : World) : Calls Tryd.prog 19 #[] w (AllPost w) := by
  obtain ⟨i0, hi, hz0, hz1, hz2⟩ := info_parts info_verb
  go_enter Tryd.func19, Tryd.ntmps19
  go_wp2_with (first
    | (go_at_call 26; refine (table_any _).mono ?_; rintro e w1 ⟨rfl, T, b1⟩)
    | (go_at_call 28; refine (keys_any _ _).mono ?_; rintro e w' ⟨rfl, rfl⟩)
    | (go_at_call 27; refine (names_any _ w1 T).mono ?_; rintro e w2 ⟨g, cap, rfl, NA, b2⟩))
  have N2 := Lib.hid NA
  have T2 := Lib.hid (T.call b2)
  have B2 := Lib.hid (b1.trans (b2.mono b1.size))
  clear NA T b1 b2
  go_loopw [2, 10] (fun x2 x10 wr => ∃ (k : Nat) (x : Value), x2 = x ∧ x10 = .int .i64 (k : Int) ∧ k ≤ 36 ∧ wr.ownsRow w2.heap.size 37 4 x k ((verbs.take k).flatMap verbCs) ∧ Hid (Below w2.heap.size w2 wr)) (fun _ i _ => 36 - (intOf i).toNat)
  case atStart => exact ⟨0, _, rfl, rfl, Nat.zero_le _, World.ownsRow_nil _ _ _ _, Lib.hid (Below.refl _ _)⟩
  case round =>
    obtain ⟨k, x, rfl, rfl, hk, hown, HB⟩ := hrel
    by_cases hlt : k < 36
    · have hkv : k < verbs.length := by rw [verbs_len]; exact hlt
      have c0 := (N2.out.call HB.out).2 k hkv
      have hlk := ((T2.out.call HB.out).look verbs[k].name (by rcases len_each _ (List.getElem_mem hkv) with h | h <;> rw [h] <;> decide)).2
      rw [look_each k hkv] at hlk
      have HN := Lib.hid (take_next k hkv)
      generalize verbs[k] = y at *
      go_wp2_with (first
        | (go_at_call 29; refine (named_any y.name y _).mono ?_; rintro e w3 ⟨rfl, b3⟩)
        | (at_builtin; refine wpList_append_own _ rfl _ _ 34 rfl w2.heap.size 37 i0 (.agg #[.string ByteArray.empty, .int .i64 0, .int .i64 0, .bool false]) 4 40 Tryd.underlying34 hi hz0 hz1 hz2 rfl (by decide) _ _ _ rfl ((own_call hown b3).alloc _) ⟨_, 0, none⟩ 1 1 (verbCs y) rfl rfl ?c1 ?c2 ?c3 ?c4 ?c5 ?_))
      case c1 =>
        intro j u hj
        have e : ∀ n : Nat, (⟨n, 0, none⟩ : Addr).add j = ⟨n, j, none⟩ := by intro n; unfold Addr.add; split <;> simp_all
        rw [e, (IsRow.made _ 37 _).cell j]
        simpa using hj
      case c2 =>
        intro u hu
        simp only [verbCs, List.mem_cons, List.not_mem_nil, or_false] at hu
        rcases hu with rfl | rfl | rfl | rfl <;> rfl
      case c3 => unfold maxLen; omega
      case c4 => omega
      case c5 => have h1 := HB.out.size; have h2 := b3.size; simp; omega
      intro v' w4 hown' hg _
      have B4 : Below w2.heap.size w2 w4 := ((HB.out.trans (b3.mono HB.out.size)).alloc (Nat.le_trans HB.out.size b3.size) (.cells (verbCs y).toArray 37)).grown hg (by have h1 := HB.out.size; have h2 := b3.size; simp; omega) (fun k' hk' => (hown.lt k' hk').1)
      have B4 := Lib.hid B4
      rw [← HN.out] at hown'
      have HO := Lib.hid hown'
      clear hown' hg hown b3 c0 hlk
      go_wp2_with fail
      go_roundw
      case rel => exact ⟨k + 1, _, rfl, by go_num, by omega, HO.out, B4⟩
      case measure => simp [intOf]; omega
    · have hk36 : k = 36 := by omega
      subst hk36
      have ho := hown
      rw [show verbs.take 36 = verbs from List.take_of_length_le (by rw [verbs_len]; exact Nat.le_refl _)] at ho
      obtain ⟨p, c, rfl, hv⟩ := own_verbs ho
      have HV := Lib.hid hv
      have HW := Lib.hid (B2.out.trans (HB.out.mono B2.out.size))
      clear ho hv hown
      go_wp2_with fail
      go_ret
      exact ⟨_, _, rfl, HV.out, HW.out⟩

#print axioms all_any
end Go.Proofs.YtginmhmeepjbhaaDoor.Vb
