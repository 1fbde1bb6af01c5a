/- The contract of the document's answer of layer 2: wharfingerref02.Cut. -/
import Derived.Test.YtdimfppijcebjaaGreatDoorQuadRefGet
import Derived.Laws.AppendOwn
import Derived.OwnWalk
namespace Go.Proofs.YtdimfppijcebjaaGreatDoor.Quad
open Go.ChangeShapes Go.WideShapes Go.ChangeAt Go.RowKit Go.Sort

theorem piece (l : List UInt8) (a b : Nat) : (ByteArray.mk l.toArray).extract a b = ⟨((l.drop a).take (b - a)).toArray⟩ := by
  apply ByteArray.ext
  simp
theorem drop_at {l : List UInt8} {fr k : Nat} (hf : fr ≤ k) (hk : k < l.length) : l.drop fr = (l.drop fr).take (k - fr) ++ l[k] :: l.drop (k + 1) := by
  have e : (l.drop fr).drop (k - fr) = l[k] :: l.drop (k + 1) := by
    rw [List.drop_drop, show fr + (k - fr) = k from by omega, List.drop_eq_getElem_cons hk]
  rw [← e, List.take_append_drop]
theorem cut_step {c : UInt8} {l : List UInt8} {done : List (List UInt8)} {fr k : Nat} (h : cutL c l = done ++ cutL c (l.drop fr)) (hn : c ∉ (l.drop fr).take (k - fr)) (hf : fr ≤ k) (hk : k < l.length) (hc : l[k] = c) :
    cutL c l = (done ++ [(l.drop fr).take (k - fr)]) ++ cutL c (l.drop (k + 1)) := by
  have e := drop_at hf hk
  rw [hc] at e
  have e2 : cutL c (l.drop fr) = (l.drop fr).take (k - fr) :: cutL c (l.drop (k + 1)) := by
    have := cutL_at (c := c) (p := (l.drop fr).take (k - fr)) (l.drop (k + 1)) hn
    rw [← e] at this; exact this
  rw [h, e2]
  simp
theorem cut_keep {c : UInt8} {l : List UInt8} {fr k : Nat} (hn : c ∉ (l.drop fr).take (k - fr)) (hf : fr ≤ k) (hk : k < l.length) (hc : l[k] ≠ c) : c ∉ (l.drop fr).take (k + 1 - fr) := by
  rw [show k + 1 - fr = (k - fr) + 1 from by omega, List.take_succ_eq_append_getElem (by simp; omega)]
  simp only [List.mem_append, List.mem_singleton, not_or]
  refine ⟨hn, fun e => hc ?_⟩
  rw [e, List.getElem_drop]
  congr 1; omega
theorem cut_end {c : UInt8} {l : List UInt8} {done : List (List UInt8)} {fr : Nat} (h : cutL c l = done ++ cutL c (l.drop fr)) (hn : c ∉ (l.drop fr).take (l.length - fr)) : cutL c l = done ++ [l.drop fr] := by
  rw [List.take_of_length_le (by simp)] at hn
  rw [h, cutL_whole hn]

theorem one_new (wr : World) (x : Value) (t : TypeId) : ∀ j u, ([x] : List Value)[j]? = some u → (wr.alloc (.cells #[x] t)).cell? (Addr.add ⟨wr.heap.size, 0, none⟩ j) = some u := by
  intro j u h
  match j, h with
  | 0, h =>
    simp only [List.getElem?_cons_zero, Option.some.injEq] at h
    subst h
    exact (IsRow.made wr t #[x]).cell 0
  | j + 1, h => simp at h
theorem own_ge {w : World} {base : Nat} {e : TypeId} {v : Value} {n : Nat} {xs : List Value} (h : w.ownsRow base e 1 v n xs) : ∀ k, v.ownBlock = some k → base ≤ k := by
  intro k hk
  rcases h.2 with ⟨rfl, _⟩ | ⟨g, cap, cur, rfl, hg, _⟩
  · cases hk
  · simp only [Value.ownBlock, Option.some.injEq] at hk
    omega
theorem own_str {w : World} {base : Nat} {e : TypeId} {v : Value} {done : List (List UInt8)} {l : List UInt8} {a b : Nat} (h : w.ownsRow base e 1 v (done.length + 1) (done.map str ++ [.string ((ByteArray.mk l.toArray).extract a b)])) :
    w.ownsRow base e 1 v (done ++ [(l.drop a).take (b - a)]).length ((done ++ [(l.drop a).take (b - a)]).map str) := by
  rw [piece] at h
  simpa using h

def CutPost (c : UInt8) (l : List UInt8) (w : World) (e : Ending) (w' : World) : Prop :=
  ∃ v, e = .returned v ∧ w'.ownsRow w.heap.size 9 1 v (cutL c l).length ((cutL c l).map str) ∧ Below w.heap.size w w'

theorem info_string : (Tryz.prog.info? 9).map (fun i => (i.zero, i.size, i.bytes)) = some (some (.string ByteArray.empty), 1, 16) := by kernel_rfl

set_option maxHeartbeats 2000000 in
set_option maxRecDepth 100000 in
theorem rcut_any (c : UInt8) (cb : Int) (hcb : (c.toNat : Int) = cb) (l : List UInt8) (hl : l.length ≤ 1000000) (w : World) :
    Calls Tryz.prog 47 #[str l, .int .u8 cb] w (CutPost c l w) := by
  obtain ⟨i0, hi, hz0, hz1, hz2⟩ := info_parts info_string
  have HC := Lib.hid hcb
  clear hcb
  go_enter Tryz.func47, Tryz.ntmps47
  go_wp2_with fail
  go_loopw [5, 6, 7] (fun v f i wr => ∃ (k fr : Nat) (done : List (List UInt8)), i = .int .i64 k ∧ f = .int .i64 fr ∧ k ≤ l.length ∧ fr ≤ k ∧ done.length ≤ k ∧ wr.ownsRow w.heap.size 9 1 v done.length (done.map str) ∧ Below w.heap.size w wr ∧ Hid (cutL c l = done ++ cutL c (l.drop fr)) ∧ Hid (c ∉ (l.drop fr).take (k - fr))) (fun _ _ i _ => l.length - (intOf i).toNat)
  case atStart => exact ⟨0, 0, [], rfl, rfl, Nat.zero_le _, Nat.le_refl _, Nat.le_refl _, ⟨rfl, Or.inl ⟨rfl, rfl⟩⟩, Below.refl _ _, Lib.hid (by simp), Lib.hid (by simp)⟩
  case round =>
    obtain ⟨k, fr, done, rfl, rfl, hk, hf, hdl, hown, hb, hcut, hno⟩ := hrel
    have hsb := hb.size
    by_cases hlt : k < l.length
    · have hsz : k < (ByteArray.mk l.toArray).size := by rw [size_mk]; exact hlt
      have hx : (ByteArray.mk l.toArray)[k]'hsz = l[k] := rfl
      by_cases hc : l[k] = c
      · have hq : ((((ByteArray.mk l.toArray)[k]'hsz).toNat : Int) == cb) = true := by rw [hx, hc, HC.out]; exact beq_iff_eq.2 rfl
        have hs := Lib.hid (cut_step hcut.out hno.out hf hlt hc)
        clear hx hc
        go_wp2_with (at_builtin; refine wpList_append_own _ rfl _ _ 24 rfl w.heap.size 9 i0 (.string ByteArray.empty) 1 16 Tryz.underlying24 hi hz0 hz1 hz2 rfl (by decide) _ _ _ rfl (hown.alloc _) ⟨_, 0, none⟩ 1 1 [.string ((ByteArray.mk l.toArray).extract fr k)] rfl rfl ?c1 ?c2 ?c3 ?c4 ?c5 ?_)
        case c1 => exact one_new _ _ _
        case c2 => intro u hu; simp only [List.mem_singleton] at hu; subst hu; rfl
        case c3 => unfold maxLen; omega
        case c4 => omega
        case c5 => simp; omega
        intro v' w1 hown' hgrow _
        have hb' : Below w.heap.size w w1 := (hb.alloc hsb _).grown hgrow (by simp; omega) (own_ge hown)
        have hown2 := own_str hown'
        clear hown' hgrow hown hb
        go_wp2_with fail
        go_roundw
        case rel => exact ⟨k + 1, k + 1, done ++ [(l.drop fr).take (k - fr)], by go_num, by go_num, by omega, Nat.le_refl _, by simp; omega, hown2, hb', hs, Lib.hid (by simp)⟩
        case measure => simp [intOf]; omega
      · have hq : ((((ByteArray.mk l.toArray)[k]'hsz).toNat : Int) == cb) = false := by
          rw [hx, beq_eq_false_iff_ne, ← HC.out]
          intro e; exact hc (UInt8.toNat.inj (by omega))
        have hs := Lib.hid (cut_keep hno.out hf hlt hc)
        clear hx hc
        go_wp2_with fail
        go_roundw
        case rel => exact ⟨k + 1, fr, done, by go_num, rfl, by omega, by omega, by omega, hown, hb, hcut, hs⟩
        case measure => simp [intOf]; omega
    · obtain rfl : k = l.length := by omega
      have he := Lib.hid (cut_end hcut.out hno.out)
      go_wp2_with (at_builtin; refine wpList_append_own _ rfl _ _ 24 rfl w.heap.size 9 i0 (.string ByteArray.empty) 1 16 Tryz.underlying24 hi hz0 hz1 hz2 rfl (by decide) _ _ _ rfl (hown.alloc _) ⟨_, 0, none⟩ 1 1 [.string ((ByteArray.mk l.toArray).extract fr l.length)] rfl rfl ?d1 ?d2 ?d3 ?d4 ?d5 ?_)
      case d1 => exact one_new _ _ _
      case d2 => intro u hu; simp only [List.mem_singleton] at hu; subst hu; rfl
      case d3 => unfold maxLen; omega
      case d4 => omega
      case d5 => simp; omega
      intro v' w1 hown' hgrow _
      have hb' : Below w.heap.size w w1 := (hb.alloc hsb _).grown hgrow (by simp; omega) (own_ge hown)
      have hown2 := own_str hown'
      clear hown' hgrow hown hb
      go_wp2_with fail
      go_ret
      refine ⟨_, rfl, ?_, hb'⟩
      rw [he.out]
      rw [List.take_of_length_le (by simp)] at hown2
      exact hown2

end Go.Proofs.YtdimfppijcebjaaGreatDoor.Quad
