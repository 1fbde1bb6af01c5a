/- The contracts of package path: partsOf, May, Under. -/
import Derived.Test.YtmodmfkcigibpaaDoorPathRow
import Derived.Test.YtmodmfkcigibpaaDoorCutRef
import Derived.Test.YtmodmfkcigibpaaDoorClean
import Derived.Test.YtmodmfkcigibpaaDoorReplySlices
import Derived.Test.YtmodmfkcigibpaaDoorPathRef
import Derived.Test.YtmodmfkcigibpaaDoorShelf
import Derived.Test.YtmodmfkcigibpaaDoorEnvBare
import Derived.BigQuiet
import Derived.Deep.QuietTactic
namespace Go.Proofs.YtmodmfkcigibpaaDoor.Pt
open Go.Proofs.YtmodmfkcigibpaaDoor Go.Proofs.YtmodmfkcigibpaaDoor.Cm Go.Proofs.YtmodmfkcigibpaaDoor.Quad
open Go Go.ChangeShapes Go.WideShapes Go.ChangeAt Go.RowKit
set_option maxRecDepth 100000
set_option linter.unusedSimpArgs false
set_option linter.unusedVariables false

theorem data_mk (l : List UInt8) : (ByteArray.mk l.toArray).data.toList = l := by simp
/-- a text cut at its strokes -/
theorem split_made (l : List UInt8) (hl : l.length ≤ 100000) (w : World) (E : Env w) :
    Calls Tryd.prog 68 #[.string ⟨l.toArray⟩, .string ⟨#[47]⟩] w fun e w' => ∃ p n k, e = .returned (.slice p n k) ∧ n = (cutL 47 l).length ∧ Made w.heap.size w' (.slice p n k) (cutL 47 l) ∧ Below w.heap.size w w' := by
  obtain ⟨m, hm⟩ := E.most
  have c := Tryd.strings_Split ⟨l.toArray⟩ ⟨#[47]⟩ m w (by rw [size_mk]; omega) hm (by decide)
  have hd := Lib.splitB_data ⟨#[47]⟩ 0 (Lib.countB ⟨l.toArray⟩ ⟨#[47]⟩) ⟨l.toArray⟩
  have hcb : Lib.countB ⟨l.toArray⟩ ⟨#[47]⟩ = Lib.count l [47] := by unfold Lib.countB; rw [data_mk]
  rw [hcb] at c hd
  rw [data_mk l, split_cut] at hd
  have hlen : (cutL 47 l).length = Lib.count l [47] + 1 := by rw [cut_count, Lib.count_one]
  have hle : (cutL 47 l).length ≤ 100001 := by rw [cut_count]; have := List.count_le_length (a := (47 : UInt8)) (l := l); omega
  generalize Lib.count l [47] = k at *
  generalize Lib.splitB ⟨#[47]⟩ 0 k ⟨l.toArray⟩ = ps at c hd
  refine c.mono fun e w' ⟨he, hw⟩ => ⟨some ⟨w.heap.size, 0, none⟩, k + 1, k + 1, he, hlen.symm, ?_, ?_⟩
  · refine Or.inr ⟨w.heap.size, by rw [hlen], by unfold maxLen; omega, Nat.le_refl _, by rw [hw]; simp, fun i hi => ?_⟩
    rw [hw]
    have := (IsRow.made w 9 (ps.map Value.string).toArray).cell i
    rw [this, List.getElem?_toArray, List.getElem?_map]
    have hx : (ps.map (·.data.toList))[i]? = some ((cutL 47 l)[i]) := by rw [hd, List.getElem?_eq_getElem hi]
    rw [List.getElem?_map] at hx
    cases hp : ps[i]? with
    | none => rw [hp] at hx; cases hx
    | some y =>
      rw [hp] at hx
      simp only [Option.map_some, Option.some.injEq] at hx
      rw [← hx]
      simp
  · rw [hw]; exact (Below.refl _ _).alloc (Nat.le_refl _) _

theorem slash_has (s : List UInt8) : Lib.hasPrefix s [47] = slash s := by
  unfold Lib.hasPrefix slash
  cases s with
  | nil => rfl
  | cons b r =>
    show (47 == b && ([] : List UInt8).isPrefixOf r) = (some b == some 47)
    rw [show (some b == some (47 : UInt8)) = (b == 47) from rfl, List.isPrefixOf, Bool.and_true, Bool.beq_comm]
theorem cutp_any (s : List UInt8) (w : World) :
    Calls Tryd.prog 67 #[.string ⟨s.toArray⟩, .string ⟨#[47]⟩] w fun e w' => e = .returned (.tuple #[.string ⟨(if slash s then s.drop 1 else s).toArray⟩, .bool (slash s)]) ∧ w' = w := by
  have h := Tryd.strings_CutPrefix ⟨s.toArray⟩ ⟨#[47]⟩ w
  rw [data_mk, show (ByteArray.mk #[(47 : UInt8)]).data.toList = [47] from rfl, slash_has] at h
  unfold Lib.trimPrefix at h
  rw [slash_has] at h
  exact h

/-- the parts of a path, if it may be -/
def got (s : List UInt8) : Ps := if mayP s then parts s else []
def GotPost (s : List UInt8) (w : World) (e : Ending) (w' : World) : Prop :=
  ∃ p n k, e = .returned (.tuple #[.slice p n k, .bool (mayP s)]) ∧ n = (got s).length ∧ Made w.heap.size w' (.slice p n k) (got s) ∧ Below w.heap.size w w'
theorem got_no {s : List UInt8} (h : mayP s = false) {w w' : World} (hb : Below w.heap.size w w') : GotPost s w (.returned (.tuple #[.slice none 0 0, .bool false])) w' := by
  have hg : got s = [] := by unfold got; rw [h]; rfl
  exact ⟨none, 0, 0, by rw [h], by rw [hg]; rfl, Or.inl ⟨rfl, hg⟩, hb⟩

set_option maxHeartbeats 8000000 in
theorem partsOf_any (s : List UInt8) (hl : s.length ≤ 100000) (w : World) (E : Env w) :
    Calls Tryd.prog 61 #[.string ⟨s.toArray⟩] w (GotPost s w) := by
  have HP := Lib.hid (fun W => cutp_any s W)
  have HC := Lib.hid (fun W => clean_same s (by omega) W)
  have HM := may_eq s
  cases hs : slash s with
  | false =>
    rw [hs, if_neg (by decide)] at HP
    have hm : mayP s = false := by rw [HM, hs, Bool.false_and, Bool.and_false, Bool.and_false]
    have HV := Lib.hid (fun W' hb => got_no hm (w := w) (w' := W') hb)
    clear HM hm
    go_enter Tryd.func61, Tryd.ntmps61
    go_wp2_with (first
      | (go_at_call 67; refine (HP.out _).mono ?_; rintro e w1 ⟨rfl, h1⟩; obtain rfl := h1.symm)
      | (go_at_call 50; refine (HC.out _).mono ?_; rintro e w2 ⟨rfl, h2⟩; obtain rfl := h2.symm))
    go_ret2
    exact HV.out _ (Below.refl _ _)
  | true =>
    rw [hs, if_pos rfl] at HP
    rw [hs, Bool.true_and] at HM
    by_cases h2 : 200 < s.length
    · have g2 : (200 : Int) < (s.length : Int) := by omega
      have hm : mayP s = false := by rw [HM, decide_eq_false (by omega), Bool.false_and, Bool.and_false]
      have HV := Lib.hid (fun W' hb => got_no hm (w := w) (w' := W') hb)
      clear HM hm h2
      go_enter Tryd.func61, Tryd.ntmps61
      go_wp2_with (first
        | (go_at_call 67; refine (HP.out _).mono ?_; rintro e w1 ⟨rfl, h1⟩; obtain rfl := h1.symm)
        | (go_at_call 50; refine (HC.out _).mono ?_; rintro e w2 ⟨rfl, h2⟩; obtain rfl := h2.symm))
      go_ret2
      exact HV.out _ (Below.refl _ _)
    · have g2 : ¬ (200 : Int) < (s.length : Int) := by omega
      rw [decide_eq_true (by omega), Bool.true_and] at HM
      clear h2
      cases hc : clean s with
      | false =>
        rw [hc] at HC
        have hm : mayP s = false := by rw [HM, hc, Bool.false_and]
        have HV := Lib.hid (fun W' hb => got_no hm (w := w) (w' := W') hb)
        clear HM hm hc
        go_enter Tryd.func61, Tryd.ntmps61
        go_wp2_with (first
          | (go_at_call 67; refine (HP.out _).mono ?_; rintro e w1 ⟨rfl, h1⟩; obtain rfl := h1.symm)
          | (go_at_call 50; refine (HC.out _).mono ?_; rintro e w2 ⟨rfl, h2⟩; obtain rfl := h2.symm))
        go_ret2
        exact HV.out _ (Below.refl _ _)
      | true =>
        rw [hc] at HC
        rw [hc, Bool.true_and] at HM
        clear hc
        have hG : got s = if mayP s then parts s else [] := rfl
        obtain ⟨r, hr⟩ := slash_form hs
        have hp : parts s = if r = [] then [] else cutL 47 r := by rw [hr]; exact parts_slash r
        rw [show s.drop 1 = r by rw [hr]; rfl] at HP
        have hrl : r.length ≤ 100000 := by rw [hr] at hl; simp at hl; omega
        have HGP := Lib.hid (show ∀ p n k W', n = (got s).length → Made w.heap.size W' (.slice p n k) (got s) → Below w.heap.size w W' → GotPost s w (.returned (.tuple #[.slice p n k, .bool (mayP s)])) W' from fun p n k W' h1 h2 h3 => ⟨p, n, k, rfl, h1, h2, h3⟩)
        have HNO := Lib.hid (fun hm W' hb => got_no (s := s) hm (w := w) (w' := W') hb)
        generalize got s = gs at *
        clear hr
        cases hre : (r == []) with
        | true =>
          rw [beq_iff_eq] at hre
          subst hre
          rw [if_pos rfl] at hp
          rw [hp] at HM hG
          have hm : mayP s = true := HM
          rw [hm] at HGP
          have hg0 : gs = [] := by rw [hG]; split <;> rfl
          have HV : Hid (GotPost s w (.returned (.tuple #[.slice none 0 0, .bool true])) w) := Lib.hid (HGP.out none 0 0 w (by rw [hg0]; rfl) (Or.inl ⟨rfl, hg0⟩) (Below.refl _ _))
          clear HM hm hG hp hg0 HGP HNO
          go_enter Tryd.func61, Tryd.ntmps61
          go_wp2_with (first
            | (go_at_call 67; refine (HP.out _).mono ?_; rintro e w1 ⟨rfl, h1⟩; obtain rfl := h1.symm)
            | (go_at_call 50; refine (HC.out _).mono ?_; rintro e w2 ⟨rfl, h2⟩; obtain rfl := h2.symm))
          go_ret2
          exact HV.out
        | false =>
          rw [if_neg (by rw [beq_eq_false_iff_ne] at hre; exact hre)] at hp
          rw [hp] at HM hG
          have HSP := Lib.hid (split_made r hrl w E)
          generalize cutL 47 r = l at *
          have HA := Lib.hid HM
          have HG2 := Lib.hid hG
          clear hp HM hG
          generalize mayP s = m at *
          go_enter Tryd.func61, Tryd.ntmps61
          go_wp2_with (first
            | (go_at_call 67; refine (HP.out _).mono ?_; rintro e w1 ⟨rfl, h1⟩; obtain rfl := h1.symm)
            | (go_at_call 50; refine (HC.out _).mono ?_; rintro e w2 ⟨rfl, h2⟩; obtain rfl := h2.symm)
            | (go_at_call 68; refine HSP.out.mono ?_; rintro e w3 ⟨p, n, k, rfl, hn, ho, b1⟩; have HN := Lib.hid hn; have HO := Lib.hid ho; have B1 := Lib.hid b1; clear hn ho b1))
          go_loopw [34] (fun x5 wr => ∃ (i : Nat), x5 = .int .i64 (i : Int) ∧ i ≤ n ∧ Hid ((l.take i).all okP = true) ∧ Hid (wr = w3)) (fun i _ => n - (intOf i).toNat)
          case atStart => exact ⟨0, rfl, Nat.zero_le _, Lib.hid (by simp), by first | exact Lib.hid rfl | exact Lib.hid trivial⟩
          case round =>
            obtain ⟨i, rfl, hi, HO2, HW⟩ := hrel
            obtain rfl := HW.out
            by_cases hlt : i < n
            · have hil : i < l.length := by rw [← HN.out]; exact hlt
              have hji : (i : Int) < (n : Int) := by omega
              have HKN : Hid (i + 1 ≤ n) := Lib.hid hlt
              have hkm : i < 9223372036854775807 := by have := HO.out.own.texts.max; omega
              obtain ⟨g, rfl, _, _, hcell⟩ := HO.out.own.some (by omega)
              have hce := hcell i hil
              have HX : Hid (okP l[i] = false → m = false) := Lib.hid (fun h => by rw [HA.out]; exact all_no hil h)
              have HN2 : Hid (okP l[i] = true → (l.take (i + 1)).all okP = true) := Lib.hid (fun h => by rw [all_next hil, HO2.out, h]; rfl)
              have HK : Hid (∀ t : List UInt8, okP t = ((t != []) && ((t != [46]) && (t != [46, 46])))) := Lib.hid (fun t => rfl)
              clear hcell
              generalize l[i] = t at *
              cases h1 : (t == []) with
              | true =>
                have HV := Lib.hid (HX.out (by rw [HK.out, bne, h1]; rfl))
                clear HX HN2 HK
                go_wp2_with fail
                go_ret2
                exact HNO.out HV.out _ B1.out
              | false =>
                cases h2 : (t == [46]) with
                | true =>
                  have HV := Lib.hid (HX.out (by rw [HK.out, bne, bne, h1, h2]; rfl))
                  clear HX HN2 HK
                  go_wp2_with fail
                  go_ret2
                  exact HNO.out HV.out _ B1.out
                | false =>
                  cases h3 : (t == [46, 46]) with
                  | true =>
                    have HV := Lib.hid (HX.out (by rw [HK.out, bne, bne, bne, h1, h2, h3]; rfl))
                    clear HX HN2 HK
                    go_wp2_with fail
                    go_ret2
                    exact HNO.out HV.out _ B1.out
                  | false =>
                    have HV := Lib.hid (HN2.out (by rw [HK.out, bne, bne, bne, h1, h2, h3]; rfl))
                    clear HX HN2 HK
                    go_wp2_with fail
                    go_roundw
                    case rel => exact ⟨i + 1, by go_num, HKN.out, HV, by first | exact Lib.hid rfl | exact Lib.hid trivial⟩
                    case measure => have := HKN.out; simp [intOf]; omega
            · have hji : ¬ (i : Int) < (n : Int) := by omega
              have hm : m = true := by have h := HO2.out; rw [List.take_of_length_le (by rw [← HN.out]; omega)] at h; rw [HA.out]; exact h
              have hg : gs = l := by rw [HG2.out, hm]; rfl
              have HV : Hid (GotPost s w (.returned (.tuple #[.slice p n k, .bool true])) wr) := Lib.hid (by
                have h := HGP.out p n k wr (by rw [hg]; exact HN.out) (by rw [hg]; exact HO.out) B1.out
                rw [hm] at h; exact h)
              clear hm hg
              go_wp2_with fail
              go_ret2
              exact HV.out

set_option maxHeartbeats 1000000 in
theorem may_any (s : List UInt8) (hs : s.length ≤ 100000) (w : World) (E : Env w) :
    Calls Tryd.prog 55 #[.string ⟨s.toArray⟩] w fun e w' => e = .returned (.bool (mayP s)) ∧ Below w.heap.size w w' := by
  have HX := Lib.hid (partsOf_any s hs w E)
  go_enter Tryd.func55, Tryd.ntmps55
  go_wp2_with (go_at_call 61; refine HX.out.mono ?_; rintro e w1 ⟨p, n, k, rfl, hn, ho, b1⟩)
  go_ret
  exact ⟨rfl, b1⟩

theorem none_first (n c k : Nat) (hk : k ≤ c) (hc : c = 0) : ∀ W, (Instr.slice 98 (.slice none n c) none (some (.int .i64 (k : Int))) none).run Tryd.prog W = .ok (.slice none k c) W := fun W => by
  rw [run_slice_h W 98 none n c under_strs .i64 _ (by omega) (by omega), elem_strs, size_str]
  simp [Result.andThen, sliced]
theorem some_first (g n c k : Nat) (hk : k ≤ c) : ∀ W, (Instr.slice 98 (.slice (some ⟨g, 0, none⟩) n c) none (some (.int .i64 (k : Int))) none).run Tryd.prog W = .ok (.slice (some ⟨g, 0, none⟩) k c) W := fun W => by
  rw [run_slice_h W 98 (some ⟨g, 0, none⟩) n c under_strs .i64 _ (by omega) (by omega), elem_strs, size_str]
  have e : (⟨g, 0, none⟩ : Addr).add 0 = ⟨g, 0, none⟩ := rfl
  simp [Result.andThen, sliced, e]
/-- the first texts of a list that was made whole -/
theorem Made.first {base : Nat} {w : World} {p : Option Addr} {n c : Nat} {y : Ps} (h : Made base w (.slice p n c) y) (k : Nat) (hk : k ≤ n) :
    (∀ W, (Instr.slice 98 (.slice p n c) none (some (.int .i64 (k : Int))) none).run Tryd.prog W = .ok (.slice p k c) W) ∧ TextsIs w (.slice p k c) (y.take k) := by
  rcases h with ⟨h, rfl⟩ | ⟨g, h, h2, h3, h4, h5⟩
  · injection h with e1 e2 e3
    subst e1; subst e2; subst e3
    obtain rfl : k = 0 := by omega
    exact ⟨none_first 0 0 0 (Nat.le_refl _) rfl, Or.inl ⟨rfl, rfl⟩⟩
  · injection h with e1 e2 e3
    subst e1; subst e2; subst e3
    have hl : (y.take k).length = k := by rw [List.length_take]; omega
    refine ⟨some_first g _ _ k hk, Or.inr ⟨_, _, ⟨by rw [hl], by omega⟩, fun i hi => ?_⟩⟩
    rw [add_off, List.getElem_take]
    exact h5 i (by omega)
theorem pre_first {x y : Ps} (h : x.length ≤ y.length) : decide (x = y.take x.length) = x.isPrefixOf y := by
  rw [Bool.eq_iff_iff, decide_eq_true_iff, List.isPrefixOf_iff_prefix, List.prefix_iff_eq_take]

theorem under_got (a s : List UInt8) : under a s = (mayP a && (mayP s && (got a).isPrefixOf (got s))) := by
  unfold under got
  cases mayP a <;> cases mayP s <;> rfl


#print axioms may_any
end Go.Proofs.YtmodmfkcigibpaaDoor.Pt
