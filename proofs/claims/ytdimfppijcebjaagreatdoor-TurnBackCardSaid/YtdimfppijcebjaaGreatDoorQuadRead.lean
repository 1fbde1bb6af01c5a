/- The contract of quad.Read. -/
import Derived.Test.YtdimfppijcebjaaGreatDoorQuadText
import Derived.Test.YtdimfppijcebjaaGreatDoorArrEqTexts
import Derived.Deep.RegionLaw
namespace Go.Proofs.YtdimfppijcebjaaGreatDoor.Quad
open Go.ChangeShapes Go.WideShapes Go.ChangeAt Go.RowKit Go.Sort

/-- the parts that SplitN hands back -/
def parts (l : List UInt8) : List (List UInt8) := Lib.splitK [46] 0 (min 4 (l.length + 1) - 1) l

def SplitPost (l : List UInt8) (w : World) (e : Ending) (w' : World) : Prop :=
  ∃ c, e = .returned (.slice (some ⟨w.heap.size, 0, none⟩) (parts l).length c) ∧ (∀ (j : Nat) x, (parts l)[j]? = some x → w'.cell? ⟨w.heap.size, j, none⟩ = some (str x)) ∧ Below w.heap.size w w'

theorem split_any (l : List UInt8) (hl : l.length < 4294967281) (w : World) (E : Env w) :
    Calls Tryz.prog 67 #[str l, .string ⟨#[46]⟩, .int .i64 4] w (SplitPost l w) := by
  obtain ⟨m, hm⟩ := E.most
  have c := Tryz.strings_SplitN ⟨l.toArray⟩ ⟨#[46]⟩ 4 m w (by rw [size_mk]; exact hl) hm (by decide) (by omega) (by omega)
  have hd := Lib.splitB_data ⟨#[46]⟩ 0 (min 4 (l.length + 1) - 1) ⟨l.toArray⟩
  rw [size_mk] at c
  generalize Lib.splitB ⟨#[46]⟩ 0 (min 4 (l.length + 1) - 1) ⟨l.toArray⟩ = ps at c hd
  have hp : ps.map (·.data.toList) = parts l := by rw [hd]; unfold parts; simp
  refine c.mono fun e w' ⟨he, hw⟩ => ⟨min 4 (l.length + 1), ?_, ?_, ?_⟩
  · rw [he, ← hp]; simp
  · intro j x hx
    rw [← hp, List.getElem?_map] at hx
    cases hj : ps[j]? with
    | none => rw [hj] at hx; cases hx
    | some y =>
      rw [hj] at hx
      simp only [Option.map_some, Option.some.injEq] at hx
      subst hx
      have hlt : j < ps.length := by
        rcases Nat.lt_or_ge j ps.length with h | h
        · exact h
        · rw [List.getElem?_eq_none h] at hj; cases hj
      have := (IsRow.made w 9 (Lib.cellsOf ps (min 4 (l.length + 1)))).cell j
      rw [hw, this]
      unfold Lib.cellsOf
      rw [List.getElem?_toArray, List.getElem?_append_left (by simpa using hlt), List.getElem?_map, hj]
      rfl
  · rw [hw]; exact (Below.refl _ _).alloc (Nat.le_refl _) _

/-- what Read answers -/
abbrev readV (l : List UInt8) : Value := .tuple #[hostV (readH l 0) (readH l 1) (readH l 2) (readH l 3), .bool (readB l)]

theorem read_is {l p q r s : List UInt8} (hf : four l = [p, q, r, s]) :
    ((Lib.itoa (getV p 255) == p && Lib.itoa (getV q 255) == q && Lib.itoa (getV r 255) == r && Lib.itoa (getV s 255) == s) = true ∧ readV l = .tuple #[hostV (getV p 255) (getV q 255) (getV r 255) (getV s 255), .bool true]) ∨
    ((Lib.itoa (getV p 255) == p && Lib.itoa (getV q 255) == q && Lib.itoa (getV r 255) == r && Lib.itoa (getV s 255) == s) = false ∧ readV l = .tuple #[hostV 0 0 0 0, .bool false]) := by
  cases hB : (Lib.itoa (getV p 255) == p && Lib.itoa (getV q 255) == q && Lib.itoa (getV r 255) == r && Lib.itoa (getV s 255) == s) with
  | true =>
    left
    simp only [Bool.and_eq_true, beq_iff_eq] at hB
    obtain ⟨⟨⟨h1, h2⟩, h3⟩, h4⟩ := hB
    obtain ⟨hy, hc⟩ := four_yes (l := l) (by
      rw [hf]; intro x hx
      simp only [List.mem_cons, List.mem_nil_iff, or_false] at hx
      rcases hx with rfl | rfl | rfl | rfl
      · exact h1
      · exact h2
      · exact h3
      · exact h4)
    refine ⟨rfl, ?_⟩
    unfold readV readH
    rw [hy, hc, hf]
    rfl
  | false =>
    right
    have hn := four_no (l := l) (by
      rw [hf]; intro h
      have h1 : Lib.itoa (getV p 255) = p := h p (by simp)
      have h2 : Lib.itoa (getV q 255) = q := h q (by simp)
      have h3 : Lib.itoa (getV r 255) = r := h r (by simp)
      have h4 : Lib.itoa (getV s 255) = s := h s (by simp)
      simp [h1, h2, h3, h4] at hB)
    refine ⟨rfl, ?_⟩
    unfold readV
    rw [readH_no hn, readH_no hn, readH_no hn, readH_no hn, hn]

theorem src_of {l : List UInt8} {w1 : World} {b : Nat} (h : ∀ (j : Nat) x, (parts l)[j]? = some x → w1.cell? ⟨b, j, none⟩ = some (str x)) : ∀ j v, ((parts l).map str)[j]? = some v → w1.cell? (Addr.add ⟨b, 0, none⟩ j) = some v := by
  intro j v hv
  rw [List.getElem?_map] at hv
  cases hj : (parts l)[j]? with
  | none => rw [hj] at hv; cases hv
  | some x =>
    rw [hj] at hv
    simp only [Option.map_some, Option.some.injEq] at hv
    subst hv
    rw [show Addr.add ⟨b, 0, none⟩ j = ⟨b, j, none⟩ from by unfold Addr.add; simp; exact fun h => h.symm]
    exact h j x hj

theorem splice_four {l p q r s : List UInt8} (h : parts l ++ List.replicate (4 - (parts l).length) [] = [p, q, r, s]) :
    splice [str [], str [], str [], str []] 0 ((parts l).map str) = [str p, str q, str r, str s] := by
  have e : ([str [], str [], str [], str []] : List Value) = List.replicate 4 (str []) := rfl
  unfold splice
  rw [e, List.take_zero, List.nil_append, Nat.zero_add, List.drop_replicate, List.length_map]
  have := congrArg (List.map str) h
  simpa using this

set_option maxHeartbeats 1000000 in
set_option maxRecDepth 100000 in
theorem read_any (l : List UInt8) (hl : l.length < 4294967281) (w : World) (E : Env w) :
    Calls Tryz.prog 106 #[str l] w fun e w' => e = .returned (readV l) ∧ Below w.heap.size w w' := by
  obtain ⟨p, q, r, s, hf, hf'⟩ := four_parts l
  have hP : (parts l).length ≤ 4 := by
    have := splitK_length 46 (min 4 (l.length + 1) - 1) l
    unfold parts; omega
  have hS := Lib.hid (splice_four (l := l) hf')
  have hF := Lib.hid hf
  clear hf hf'
  go_enter Tryz.func106, Tryz.ntmps106
  go_wp2_with fail
  obtain ⟨w0, e0, R0, Q0, B0, Z0⟩ : ∃ w0, (w.alloc (.cells #[.int .u8 0, .int .u8 0, .int .u8 0, .int .u8 0] 28)).alloc (.cells #[str [], str [], str [], str []] 114) = w0 ∧ IsRow w0 (w.heap.size + 1) 114 #[str [], str [], str [], str []] ∧ IsRow w0 w.heap.size 28 #[.int .u8 0, .int .u8 0, .int .u8 0, .int .u8 0] ∧ Below w.heap.size w w0 ∧ w0.heap.size = w.heap.size + 2 := by
    refine ⟨_, rfl, ?_, ?_, ?_, ?_⟩
    · have := IsRow.made (w.alloc (.cells #[.int .u8 0, .int .u8 0, .int .u8 0, .int .u8 0] 28)) 114 #[str [], str [], str [], str []]
      simpa using this
    · exact (IsRow.made w _ _).alloc _
    · exact ((Below.refl _ _).alloc (Nat.le_refl _) _).alloc (by simp) _
    · simp
  rw [show ((w.alloc (.cells #[.int .u8 0, .int .u8 0, .int .u8 0, .int .u8 0] 28)).alloc (.cells #[.string ⟨#[]⟩, .string ⟨#[]⟩, .string ⟨#[]⟩, .string ⟨#[]⟩] 114)) = w0 from e0]
  clear e0
  have hZ : w.heap.size + 1 ≤ w0.heap.size := by omega
  clear Z0
  have E0 := E.below B0.drew
  have H1 : Hid (0 + ((parts l).map str).length ≤ ([str [], str [], str [], str []] : List Value).length) := by
    show 0 + ((parts l).map str).length ≤ ([str [], str [], str [], str []] : List Value).length
    simp; exact hP
  have H2 : Hid (∀ v ∈ (parts l).map str, v.oneCell' = true) := by
    intro v hv
    obtain ⟨x, _, rfl⟩ := List.mem_map.1 hv
    rfl
  have H3 : Hid (((parts l).map str).length = Nat.min (parts l).length 4) := by
    show ((parts l).map str).length = Nat.min (parts l).length 4
    rw [List.length_map]; exact (Nat.min_eq_left hP).symm
  have HA := Lib.hid (split_any l hl w0.drew E0)
  go_region_law (first
    | (refine step_copy_splice (by rfl) (.tmp 6) (.tmp 8) 24 24 (by rfl) 9 Tryz.underlying24 (by kernel_rfl) (some ⟨w.heap.size + 1, 0, none⟩) (some ⟨w0.heap.size, 0, none⟩) 4 4 (parts l).length c (by rfl) (by rfl) (w.heap.size + 1) 0 [str [], str [], str [], str []] 114 H5.out ((parts l).map str) H3.out (fun _ => ⟨rfl, _, rfl, src_of hcells.out⟩) H1.out H2.out (w.heap.size + 1) w0 D1 (Nat.le_refl _) ?_; intro w2 hg b2)
    | (go_simp; go_at_call 67; refine HA.out.mono ?_; rintro e w1 ⟨c, rfl, hcells0, b1⟩; have hcells := Lib.hid hcells0; have D1 : Below (w.heap.size + 1) w0 w1 := ⟨b1.os, b1.tape, b1.output, b1.size, fun k hk => b1.block k (Nat.lt_of_lt_of_le hk hZ)⟩; have H5 : Hid (w1.heap[w.heap.size + 1]? = some (.cells ([str [], str [], str [], str []] : List Value).toArray 114 (0, 0))) := R0.call (w := w0) ⟨b1.os, b1.tape, b1.output, b1.size, b1.block⟩; clear hcells0 b1))
  have R2 : IsRow w2 (w.heap.size + 1) 114 #[str p, str q, str r, str s] := by
    have := hg.out; rw [hS.out] at this; exact this
  have Q2 : IsRow w2 w.heap.size 28 #[.int .u8 0, .int .u8 0, .int .u8 0, .int .u8 0] := Q0.below b2 (by omega)
  have B2 : Below w.heap.size w w2 := B0.trans (b2.mono (by omega))
  clear hg b2 D1 H1 H2 H3 H5 hS R0 Q0 B0 HA hcells E0
  have c0 : w2.cell? ⟨w.heap.size + 1, 0, none⟩ = some (str p) := R2.cell 0
  have c1 : w2.cell? ⟨w.heap.size + 1, 1, none⟩ = some (str q) := R2.cell 1
  have c2 : w2.cell? ⟨w.heap.size + 1, 2, none⟩ = some (str r) := R2.cell 2
  have c3 : w2.cell? ⟨w.heap.size + 1, 3, none⟩ = some (str s) := R2.cell 3
  go_wp2_with (go_at_call 127; refine (loose_any p q r s _ ?_).mono ?_)
  · exact E.below B2
  rintro e w3 ⟨rfl, b3⟩
  have R3 := R2.call b3
  have Q3 := Q2.call b3
  have B3 := below_trans B2 b3
  clear b3 c0 c1 c2 c3 R2 Q2 B2
  go_wp2_with fail
  obtain ⟨w4, e4, H4, R4, Q4, B4, Z4⟩ : ∃ w4, w3.alloc (.cells #[.int .u8 (getV p 255), .int .u8 (getV q 255), .int .u8 (getV r 255), .int .u8 (getV s 255)] 28) = w4 ∧ IsRow w4 w3.heap.size 28 #[.int .u8 (getV p 255), .int .u8 (getV q 255), .int .u8 (getV r 255), .int .u8 (getV s 255)] ∧
      IsRow w4 (w.heap.size + 1) 114 #[str p, str q, str r, str s] ∧ IsRow w4 w.heap.size 28 #[.int .u8 0, .int .u8 0, .int .u8 0, .int .u8 0] ∧ Below w.heap.size w w4 ∧ w.heap.size < w4.heap.size :=
    ⟨_, rfl, IsRow.made _ _ _, R3.alloc _, Q3.alloc _, B3.alloc B3.size _, by have := B3.size; simp; omega⟩
  rw [e4]
  clear e4 R3 Q3 B3
  have E4 := E.below B4
  have k0 := cell_regrown (show w4.cell? ⟨w3.heap.size, 0, none⟩ = some (.int .u8 (getV p 255)) from H4.cell 0)
  have k1 := cell_regrown (show w4.cell? ⟨w3.heap.size, 1, none⟩ = some (.int .u8 (getV q 255)) from H4.cell 1)
  have k2 := cell_regrown (show w4.cell? ⟨w3.heap.size, 2, none⟩ = some (.int .u8 (getV r 255)) from H4.cell 2)
  have k3 := cell_regrown (show w4.cell? ⟨w3.heap.size, 3, none⟩ = some (.int .u8 (getV s 255)) from H4.cell 3)
  have m0 := cell_regrown (show w4.cell? ⟨w.heap.size + 1, 0, none⟩ = some (str p) from R4.cell 0)
  have m1 := cell_regrown (show w4.cell? ⟨w.heap.size + 1, 1, none⟩ = some (str q) from R4.cell 1)
  have m2 := cell_regrown (show w4.cell? ⟨w.heap.size + 1, 2, none⟩ = some (str r) from R4.cell 2)
  have m3 := cell_regrown (show w4.cell? ⟨w.heap.size + 1, 3, none⟩ = some (str s) from R4.cell 3)
  have cW : ∀ d os, Calls Tryz.prog 80 #[hostV (getV p 255) (getV q 255) (getV r 255) (getV s 255)] (grow (redrawn w4 d) os) fun e w'' => e = .returned (fourV (Lib.itoa (getV p 255)) (Lib.itoa (getV q 255)) (Lib.itoa (getV r 255)) (Lib.itoa (getV s 255))) ∧ ∃ p : Regrown, w'' = grow (redrawn w4 p.d) p.os :=
    fun d os => Calls.regrown_of (write_any _ _ _ _ (getV_lo _ _) (getV_hi (by omega)) (getV_lo _ _) (getV_hi (by omega)) (getV_lo _ _) (getV_hi (by omega)) (getV_lo _ _) (getV_hi (by omega)) _ (E4.below (below_regrown w4 d os)))
  have CW := Lib.hid cW
  clear cW
  rcases read_is hF.out with ⟨hB, hV⟩ | ⟨hB, hV⟩
  · have hq : ∀ W, (Op.equalIn 10000 114 (.agg #[str (Lib.itoa (getV p 255)), str (Lib.itoa (getV q 255)), str (Lib.itoa (getV r 255)), str (Lib.itoa (getV s 255))]) (.agg #[str p, str q, str r, str s])).run Tryz.prog W = .ok true W := fun W => by rw [equal_texts, hB]
    have hD := Lib.hid hV
    clear hV hB
    refine wp_region_quiet_below (by kernel_rfl) (by kernel_rfl) ?_
    repeat (quiet_step (exact CW.out _ _))
    refine wpQuiet_nil ?_
    intro _ hw'
    obtain ⟨⟨dq, osq⟩, hw''⟩ := hw'
    subst hw''
    clear k0 k1 k2 k3 m0 m1 m2 m3 hq CW
    have b5 := below_regrown w4 dq osq
    generalize grow (redrawn w4 dq) osq = w5 at b5 ⊢
    have H5 := H4.call b5
    have Q5 := Q4.call b5
    have B5 := below_trans B4 b5
    clear b5 H4 Q4 B4 R4 E4
    have h0 : w5.cell? ⟨w3.heap.size, 0, none⟩ = some (.int .u8 (getV p 255)) := H5.cell 0
    have z0 : w5.cell? ⟨w.heap.size, 0, none⟩ = some (.int .u8 0) := Q5.cell 0
    have f0 : w5.frozen? ⟨w.heap.size, 0, none⟩ = false := Q5.free 0
    have h1 : w5.cell? ⟨w3.heap.size, 1, none⟩ = some (.int .u8 (getV q 255)) := H5.cell 1
    have z1 : w5.cell? ⟨w.heap.size, 1, none⟩ = some (.int .u8 0) := Q5.cell 1
    have f1 : w5.frozen? ⟨w.heap.size, 1, none⟩ = false := Q5.free 1
    have h2 : w5.cell? ⟨w3.heap.size, 2, none⟩ = some (.int .u8 (getV r 255)) := H5.cell 2
    have z2 : w5.cell? ⟨w.heap.size, 2, none⟩ = some (.int .u8 0) := Q5.cell 2
    have f2 : w5.frozen? ⟨w.heap.size, 2, none⟩ = false := Q5.free 2
    have h3 : w5.cell? ⟨w3.heap.size, 3, none⟩ = some (.int .u8 (getV s 255)) := H5.cell 3
    have z3 : w5.cell? ⟨w.heap.size, 3, none⟩ = some (.int .u8 0) := Q5.cell 3
    have f3 : w5.frozen? ⟨w.heap.size, 3, none⟩ = false := Q5.free 3
    go_wp2_with fail
    refine bodyPost_ret (v := .tuple #[hostV (getV p 255) (getV q 255) (getV r 255) (getV s 255), .bool true]) (by simp [results, Tryz.results106, go_sem, z0, z1, z2, z3]) rfl ⟨by rw [hD.out], ?_⟩
    exact (((B5.setCell (by simp) _).setCell (by simp) _).setCell (by simp) _).setCell (by simp) _
  · have hq : ∀ W, (Op.equalIn 10000 114 (.agg #[str (Lib.itoa (getV p 255)), str (Lib.itoa (getV q 255)), str (Lib.itoa (getV r 255)), str (Lib.itoa (getV s 255))]) (.agg #[str p, str q, str r, str s])).run Tryz.prog W = .ok false W := fun W => by rw [equal_texts, hB]
    have hD := Lib.hid hV
    clear hV hB
    refine wp_region_quiet_below (by kernel_rfl) (by kernel_rfl) ?_
    repeat (quiet_step (exact CW.out _ _))
    refine wpQuiet_nil ?_
    intro _ hw'
    obtain ⟨⟨dq, osq⟩, hw''⟩ := hw'
    subst hw''
    clear k0 k1 k2 k3 m0 m1 m2 m3 hq CW
    have b5 := below_regrown w4 dq osq
    generalize grow (redrawn w4 dq) osq = w5 at b5 ⊢
    have H5 := H4.call b5
    have Q5 := Q4.call b5
    have B5 := below_trans B4 b5
    clear b5 H4 Q4 B4 R4 E4
    have z0 : w5.cell? ⟨w.heap.size, 0, none⟩ = some (.int .u8 0) := Q5.cell 0
    have f0 : w5.frozen? ⟨w.heap.size, 0, none⟩ = false := Q5.free 0
    have z1 : w5.cell? ⟨w.heap.size, 1, none⟩ = some (.int .u8 0) := Q5.cell 1
    have f1 : w5.frozen? ⟨w.heap.size, 1, none⟩ = false := Q5.free 1
    have z2 : w5.cell? ⟨w.heap.size, 2, none⟩ = some (.int .u8 0) := Q5.cell 2
    have f2 : w5.frozen? ⟨w.heap.size, 2, none⟩ = false := Q5.free 2
    have z3 : w5.cell? ⟨w.heap.size, 3, none⟩ = some (.int .u8 0) := Q5.cell 3
    have f3 : w5.frozen? ⟨w.heap.size, 3, none⟩ = false := Q5.free 3
    go_wp2_with fail
    refine bodyPost_ret (v := .tuple #[hostV 0 0 0 0, .bool false]) (by simp [results, Tryz.results106, go_sem, z0, z1, z2, z3]) rfl ⟨by rw [hD.out], ?_⟩
    exact (((B5.setCell (by simp) _).setCell (by simp) _).setCell (by simp) _).setCell (by simp) _

end Go.Proofs.YtdimfppijcebjaaGreatDoor.Quad
