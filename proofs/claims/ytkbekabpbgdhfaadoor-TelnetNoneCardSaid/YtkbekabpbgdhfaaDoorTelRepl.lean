/- The contract of bytes.ReplaceAll at one byte that is told twice, and of package telnet's Escape. The library's own text is walked; its callees bytes.Count and bytes.Index by the shelf's contracts. -/
import Derived.Test.YtkbekabpbgdhfaaDoorTelStrip
import Derived.Test.YtkbekabpbgdhfaaDoorTelEsc
import Derived.Test.YtkbekabpbgdhfaaDoorShelf
import Derived.Lib.SlBuf
import Derived.Lib.SlFresh
import Derived.Deep.RegionLaw
import Derived.Laws.MakeOwn
namespace Go.Proofs.YtkbekabpbgdhfaaDoor.Tel
open Go.Proofs.YtkbekabpbgdhfaaDoor
open Go.ChangeShapes Go.WideShapes Go.ChangeAt Go.RowKit Go.Sort
set_option linter.unusedSimpArgs false

theorem numsL_at (l : List UInt8) (i : Nat) (h : i < l.length) : (Lib.numsL l).getD i 0 = (l[i].toNat : Int) := by
  simp [Lib.numsL, List.getD, List.getElem?_map, List.getElem?_eq_getElem h]

theorem count_bytes {w : World} {v : Value} {l : List UInt8} (h : BytesIs w v l) (X d : Nat) (hX : w.cell? ⟨X, 0, none⟩ = some (.int .u8 255)) :
    Calls Tryd.prog 18 #[v, .slice (some ⟨X, 0, none⟩) 1 d] w fun e w' => e = .returned (.int .i64 (l.count 255 : Nat)) ∧ w' = w := by
  rcases h with ⟨rfl, rfl⟩ | ⟨a, c, rfl, h1, h2, h3⟩
  · exact Tryd.bytes_Count_one_nil X 0 d 255 w hX
  · have := Tryd.bytes_Count_one_at a l.length c X 0 d (Lib.numsL l) 255 w (Lib.numsL_length l) (fun i hi => by rw [h3 i hi, numsL_at l i hi]) hX
    rw [Lib.bytesOf_numsL] at this
    exact this

theorem plain_cell {w : World} {a : Addr} {v : Value} (h : w.cell? a = some v) : a = ⟨a.block, a.off, none⟩ := by
  have := World.cell?_spot h
  cases a
  simp_all

theorem index_bytes {w : World} {v : Value} {l : List UInt8} (h : BytesIs w v l) (hne : l ≠ []) (X d : Nat) (hX : w.cell? ⟨X, 0, none⟩ = some (.int .u8 255)) :
    Calls Tryd.prog 19 #[v, .slice (some ⟨X, 0, none⟩) 1 d] w fun e w' => e = .returned (.int .i64 (Lib.indexByte l 255)) ∧ w' = w := by
  rcases h with ⟨rfl, h⟩ | ⟨a, c, rfl, h1, h2, h3⟩
  · exact absurd h hne
  · have hp : 0 < l.length := List.length_pos_iff.2 hne
    have ha := plain_cell (h3 0 hp)
    rw [add_zero'] at ha
    obtain ⟨b, o, rfl⟩ : ∃ b o, a = ⟨b, o, none⟩ := ⟨_, _, ha⟩
    have := Tryd.bytes_Index_one b o l.length c X 0 d (Lib.numsL l) 255 w (Lib.numsL_length l) (fun i hi => by
      have e : (⟨b, o, none⟩ : Addr).add i = ⟨b, o + i, none⟩ := by unfold Addr.add; split <;> simp_all
      rw [← e, h3 i hi, numsL_at l i hi]) hX
    rw [Lib.bytesOf_numsL] at this
    exact this

theorem holds_of {w : World} {v : Value} {l : List UInt8} (h : BytesIs w v l) : Lib.HoldsBytes w v l := by
  rcases h with ⟨rfl, rfl⟩ | ⟨a, c, rfl, h1, h2, h3⟩
  · exact ⟨none, 0, rfl, (fun _ => rfl), (fun a h => by cases h)⟩
  · refine ⟨some a, c, rfl, (fun h => by cases h), (fun b hb i x hx => ?_)⟩
    obtain rfl := Option.some.inj hb
    obtain ⟨hi, rfl⟩ := List.getElem?_eq_some_iff.1 hx
    exact h3 i hi

theorem buf_drew {w0 wr : World} {h N : Nat} {acc : List UInt8} (hb : Lib.Buf w0 wr h N acc) : Lib.Buf w0 wr.drew h N acc := ⟨hb.below.drew, hb.there, hb.free, hb.holds, hb.fits⟩
theorem buf_bytes {w0 wr : World} {h N : Nat} {acc : List UInt8} (hb : Lib.Buf w0 wr h N acc) (hN : acc.length = N) (hm : N ≤ maxLen) : BytesIs wr (.slice (some ⟨h, 0, none⟩) N N) acc := by
  subst hN
  refine Or.inr ⟨_, _, rfl, Nat.le_refl _, hm, fun i hi => ?_⟩
  have e : (⟨h, 0, none⟩ : Addr).add i = ⟨h, i, none⟩ := by unfold Addr.add; split <;> simp_all
  rw [e]
  exact hb.holds i _ (List.getElem?_eq_getElem hi)

theorem step_copy_eq {ops : Array Oper} {o : Oper} {a : Act} {w : World} {K : Act → World → Prop} {Q : Exit → Act → World → Prop} {E : Prop}
    (hg : o.guard = none) (d x : Operand) (dT sT : TypeId) (hop : o.op = Op.call { callee := Callee.builtin Builtin.copy, args := #[d, x], argTypes := #[dT, sT] })
    (v u : Value) (hd : a.eval d = v) (hx : a.eval x = u) {v' : Value} {w' : World} (hr : (Builtin.copy_ #[dT, sT] o.type #[v, u]).run Tryd.prog w = .ok v' w') (hK : K (a.put o.dst v') w') :
    if Region.wanted o (yielded ops a.tmps) = true then Oper.wp Tryd.prog o a w K Q else E := by
  have hw : Region.wanted o (yielded ops a.tmps) = true := by simp [Region.wanted, hg]
  rw [if_pos hw]
  unfold Oper.wp
  simp [execOp, hop, resolve, invoke, builtin, hd, hx, hr, Result.andThen]
  exact hK

def EscPost (l : List UInt8) (w : World) (e : Ending) (w' : World) : Prop :=
  ∃ x, e = .returned x ∧ BytesIs w' x (esc l) ∧ Below w.heap.size w w'

set_option maxHeartbeats 2000000 in
set_option maxRecDepth 100000 in
/-- none is there: a copy -/
theorem replace_none (v : Value) (l : List UInt8) (hl : l.length ≤ 1000000) (h0 : (255 : UInt8) ∉ l) (X Y d d' : Nat) (w : World) (hv : BytesIs w v l) (hX : w.cell? ⟨X, 0, none⟩ = some (.int .u8 255)) :
    Calls Tryd.prog 17 #[v, .slice (some ⟨X, 0, none⟩) 1 d, .slice (some ⟨Y, 0, none⟩) 2 d', .int .i64 (-1)] w (EscPost l w) := by
  have C := Lib.hid (count_bytes hv X d hX)
  rw [List.count_eq_zero.2 h0] at C
  obtain ⟨p, c, rfl⟩ := hv.form
  have HV := Lib.hid hv
  have HN := Lib.hid h0
  clear hv h0
  go_enter Tryd.func17, Tryd.ntmps17
  go_wp2_with (first | (go_at_call 18; refine C.out.mono ?_; rintro e w' ⟨rfl, rfl⟩) | (at_builtin; refine wpList_append_bytes rfl _ _ rfl w'.heap.size (.slice none 0 0) [] rfl (World.ownsRow_nil _ _ _ _) _ l rfl HV.out ?c1 ?c2 ?_))
  case c1 => simp; omega
  case c2 => exact Nat.le_refl _
  intro v' w1 hown hg
  obtain ⟨p', c', rfl⟩ := own_form hown
  have R := Lib.hid (bytes_of_own hown)
  have B := Lib.hid ((Below.refl w'.heap.size w').grown hg (Nat.le_refl _) (fun k hk => by cases hk))
  clear hown hg
  go_wp2_with fail
  go_ret
  exact ⟨_, rfl, by rw [esc_none HN.out]; exact R.out, B.out⟩

theorem make_bytes (w : World) (T : Nat) (hT : T ≤ 10000000) :
    ∃ w1, (Instr.makeSlice 22 (.int .i64 (T : Int)) (.int .i64 (T : Int))).run Tryd.prog w = .ok (.slice (some ⟨w.heap.size, 0, none⟩) T T) w1 ∧ Lib.Buf w w1 w.heap.size T [] := by
  obtain ⟨i0, hi, hz0, hz1, hz2⟩ := info_parts info_u8
  have h := run_makeSlice (P := Tryd.prog) w 22 5 i0 (.int .u8 0) Tryd.underlying22 hi hz0 .i64 .i64 (T : Int) (T : Int) (by omega) (by omega) (by rw [hz1]; omega) (by rw [hz2]; omega) (by omega)
  refine ⟨_, h, ?_⟩
  exact Lib.Buf.start w _ 5 T 0 (by rw [hz1]; simp [madeCells])

set_option maxHeartbeats 4000000 in
set_option maxRecDepth 100000 in
/-- some are there -/
theorem replace_some (v : Value) (l : List UInt8) (hl : l.length ≤ 1000000) (m : Nat) (hm : l.count 255 = m) (h0 : 0 < m) (X Y d d' : Nat) (w : World) (hv : BytesIs w v l) (hX : w.cell? ⟨X, 0, none⟩ = some (.int .u8 255)) (hY : BytesIs w (.slice (some ⟨Y, 0, none⟩) 2 d') [255, 255]) :
    Calls Tryd.prog 17 #[v, .slice (some ⟨X, 0, none⟩) 1 d, .slice (some ⟨Y, 0, none⟩) 2 d', .int .i64 (-1)] w (EscPost l w) := by
  have C := Lib.hid (count_bytes hv X d hX)
  rw [hm] at C
  have hml : m ≤ l.length := by rw [← hm]; exact List.count_le_length
  obtain ⟨p, c, rfl⟩ := hv.form
  have HV := Lib.hid hv
  have HX := Lib.hid hX
  have HY := Lib.hid hY
  have HM := Lib.hid hm
  clear hv hX hY hm
  have q0 : ((m : Int) == 0) = false := beq_eq_false_iff_ne.2 (by omega)
  obtain ⟨T, hT⟩ : ∃ T, l.length + m = T := ⟨_, rfl⟩
  obtain ⟨w1, hMk, B0⟩ := make_bytes w T (by omega)
  rw [← hT, Int.natCast_add, hT] at hMk
  have HB0 := Lib.hid B0
  clear B0
  go_enter Tryd.func17, Tryd.ntmps17
  go_wp2_with (go_at_call 18; refine C.out.mono ?_; rintro e w' ⟨rfl, rfl⟩)
  clear C hMk
  go_loopw [11, 12, 49] (fun a11 s12 k49 wr => ∃ (k st : Nat) (acc : List UInt8), a11 = .int .i64 acc.length ∧ s12 = .int .i64 st ∧ k49 = .int .i64 k ∧ k ≤ m ∧ st ≤ l.length ∧ Hid (acc = esc (l.take st)) ∧ Hid ((l.drop st).count 255 + k = m) ∧ Hid (Lib.Buf w' wr w'.heap.size T acc)) (fun _ _ i _ => m - (intOf i).toNat)
  case atStart => exact ⟨0, 0, [], rfl, rfl, rfl, Nat.zero_le _, Nat.zero_le _, Lib.hid rfl, Lib.hid (by simpa using HM.out), HB0⟩
  case round =>
    obtain ⟨k, st, acc, rfl, rfl, rfl, hk, hst, HA, HC, HB⟩ := hrel
    have hX' : wr.cell? ⟨X, 0, none⟩ = some (.int .u8 255) := by rw [HB.out.below.cell (p := ⟨X, 0, none⟩) (World.block_lt_of_cell? w' _ HX.out)]; exact HX.out
    by_cases hlt : k < m
    · obtain ⟨i, hi, hil, he, hc⟩ := next_some (l := l) (st := st) (by have := HC.out; omega)
      obtain ⟨u1, hs1, hu1⟩ := slice_l HV.out st hst
      obtain ⟨u2, hs2, hu2⟩ := slice_lh HV.out st (st + i) (by omega) (by omega)
      rw [show st + i - st = i from by omega] at hu2
      rw [Int.natCast_add] at hs2
      have IX := Lib.hid (index_bytes (hu1.call HB.out.below) (by intro e; rw [List.drop_eq_nil_iff] at e; omega) X d hX')
      rw [hi] at IX
      have hpl : ((l.drop st).take i).length = i := by rw [List.length_take, List.length_drop]; omega
      have hcnt := List.count_le_length (a := (255 : UInt8)) (l := l.take (st + i + 1))
      have hee := esc_count (l.take (st + i + 1))
      have hcc : (l.take (st + i + 1)).count 255 + (l.drop (st + i + 1)).count 255 = m := by rw [← List.count_append, List.take_append_drop]; exact HM.out
      have htl : (l.take (st + i + 1)).length = st + i + 1 := by rw [List.length_take]; omega
      rw [he, ← HA.out] at hee
      simp only [List.length_append, hpl, List.length_cons, List.length_nil, htl] at hee
      have HE : Hid (acc ++ (l.drop st).take i ++ [255, 255] = esc (l.take (st + i + 1))) := Lib.hid (by rw [HA.out]; exact he.symm)
      have HC' : Hid ((l.drop (st + i + 1)).count 255 + (k + 1) = m) := Lib.hid (by have := HC.out; omega)
      have hfit : acc.length + i + 2 ≤ T := by omega
      clear hcnt hee hcc htl he hc hu1 hi
      generalize (l.drop st).take i = pre at *
      have hsl1 : ∀ W, (Instr.slice 22 (.slice (some ⟨w'.heap.size, 0, none⟩) T T) (some (.int .i64 (acc.length : Int))) none none).run Tryd.prog W = .ok (Lib.tailV w'.heap.size T acc.length) W := fun W => Lib.run_slice_tailV W 22 5 Tryd.underlying22 size_u8 _ T acc.length (by omega)
      have hsl2 : ∀ W, (Instr.slice 22 (.slice (some ⟨w'.heap.size, 0, none⟩) T T) (some (.int .i64 ((acc.length : Int) + (i : Int)))) none none).run Tryd.prog W = .ok (Lib.tailV w'.heap.size T (acc.length + i)) W := fun W => by
        have := Lib.run_slice_tailV (P := Tryd.prog) W 22 5 Tryd.underlying22 size_u8 w'.heap.size T (acc.length + i) (by omega)
        rwa [Int.natCast_add] at this
      obtain ⟨w2, hr1, B1⟩ := Lib.copy_part (P := Tryd.prog) w' wr.drew w'.heap.size T acc pre u2 22 3 5 Tryd.underlying22 (by kernel_rfl) (Nat.le_refl _) (buf_drew HB.out) (holds_of hu2) (by omega)
      obtain ⟨w3, hr2, B2⟩ := Lib.copy_part (P := Tryd.prog) w' w2 w'.heap.size T (acc ++ pre) [255, 255] (.slice (some ⟨Y, 0, none⟩) 2 d') 22 3 5 Tryd.underlying22 (by kernel_rfl) (Nat.le_refl _) B1 (holds_of HY.out) (by rw [List.length_append]; simp; omega)
      rw [hpl] at hr1
      rw [List.length_append, hpl] at hr2
      have HB2 := Lib.hid B2
      have hlen : (acc ++ pre ++ [255, 255]).length = acc.length + i + 2 := by simp [hpl]; omega
      clear B1 B2 hu2
      go_wp2_with (go_at_call 19; refine IX.out.mono ?_; rintro e wr ⟨rfl, rfl⟩)
      go_region_law (refine step_copy_eq rfl (.tmp 61) (.tmp 65) 22 22 rfl (Lib.tailV w'.heap.size T acc.length) u2 (by simp [Act.eval, Act.put]) (by simp [Act.eval, Act.put]) hr1 ?_)
      go_wp2_with (at_builtin; refine Lib.wpList_copy_run _ rfl _ _ 22 22 rfl _ _ rfl rfl hr2 ?_)
      go_roundw
      case rel => exact ⟨k + 1, st + i + 1, acc ++ pre ++ [255, 255], by rw [hlen]; go_num, by go_num, by go_num, by omega, by omega, HE, HC', HB2⟩
      case measure => simp [intOf]; omega
    · obtain rfl : k = m := by omega
      have h0c : (l.drop st).count 255 = 0 := by have := HC.out; omega
      have he := next_none h0c
      have htt : (esc l).length = T := by rw [esc_count, HM.out]; exact hT
      rw [← HA.out] at he
      have hdl : (l.drop st).length = l.length - st := by rw [List.length_drop]
      have hat : acc.length + (l.drop st).length = T := by rw [← List.length_append, he, htt]
      obtain ⟨u1, hs1, hu1⟩ := slice_l HV.out st hst
      have hsl1 : ∀ W, (Instr.slice 22 (.slice (some ⟨w'.heap.size, 0, none⟩) T T) (some (.int .i64 (acc.length : Int))) none none).run Tryd.prog W = .ok (Lib.tailV w'.heap.size T acc.length) W := fun W => Lib.run_slice_tailV W 22 5 Tryd.underlying22 size_u8 _ T acc.length (by omega)
      obtain ⟨w2, hr1, B1⟩ := Lib.copy_part (P := Tryd.prog) w' wr.drew w'.heap.size T acc (l.drop st) u1 22 3 5 Tryd.underlying22 (by kernel_rfl) (Nat.le_refl _) (buf_drew HB.out) (holds_of hu1) (by omega)
      rw [he] at B1
      obtain ⟨u2, hs2, hu2⟩ := slice_lh (buf_bytes B1 htt (by unfold maxLen; omega)) 0 T (Nat.zero_le _) (by rw [htt]; exact Nat.le_refl _)
      rw [List.drop_zero, Nat.sub_zero, List.take_of_length_le (by rw [htt]; exact Nat.le_refl _)] at hu2
      have hs3 : ∀ W, (Instr.slice 22 (.slice (some ⟨w'.heap.size, 0, none⟩) T T) (some (.int .i64 0)) (some (.int .i64 ((acc.length : Int) + ((l.drop st).length : Int)))) none).run Tryd.prog W = .ok u2 W := fun W => by
        have := hs2 W
        rw [← hat, Int.natCast_add, hat] at this
        exact this
      have HR := Lib.hid hu2
      have HW := Lib.hid B1.below
      clear hs2 B1 hu2 hu1 he hdl h0c
      generalize l.drop st = tl at *
      go_wp2_with fail
      go_region_law (refine step_copy_eq rfl (.tmp 123) (.tmp 126) 22 22 rfl (Lib.tailV w'.heap.size T acc.length) u1 (by simp [Act.eval, Act.put]) (by simp [Act.eval, Act.put]) hr1 ?_)
      go_wp2_with fail
      go_ret
      exact ⟨_, rfl, HR.out, HW.out⟩

/-- bytes.ReplaceAll(l, [255], [255, 255]) -/
theorem replaceall_any (v : Value) (l : List UInt8) (hl : l.length ≤ 1000000) (X Y d d' : Nat) (w : World) (hv : BytesIs w v l) (hX : w.cell? ⟨X, 0, none⟩ = some (.int .u8 255)) (hY : BytesIs w (.slice (some ⟨Y, 0, none⟩) 2 d') [255, 255]) :
    Calls Tryd.prog 15 #[v, .slice (some ⟨X, 0, none⟩) 1 d, .slice (some ⟨Y, 0, none⟩) 2 d'] w (EscPost l w) := by
  have C : Calls Tryd.prog 17 #[v, .slice (some ⟨X, 0, none⟩) 1 d, .slice (some ⟨Y, 0, none⟩) 2 d', .int .i64 (-1)] w (EscPost l w) := by
    by_cases h0 : (255 : UInt8) ∈ l
    · exact replace_some v l hl _ rfl (List.count_pos_iff.2 h0) X Y d d' w hv hX hY
    · exact replace_none v l hl h0 X Y d d' w hv hX
  have HC := Lib.hid C
  obtain ⟨p, c, rfl⟩ := hv.form
  clear C hv hX hY
  go_enter Tryd.func15, Tryd.ntmps15
  go_wp2_with (go_at_call 17; refine HC.out.mono ?_; rintro e w' ⟨x, rfl, hx, hb⟩)
  go_ret
  exact ⟨x, rfl, hx, hb⟩

theorem escape_any (v : Value) (l : List UInt8) (hl : l.length ≤ 1000000) (w : World) (hv : BytesIs w v l) : Calls Tryd.prog 11 #[v] w (EscPost l w) := by
  have b1 : Below w.heap.size w (w.alloc (.cells ([255].map byteV).toArray 5)) := (Below.refl _ _).alloc (Nat.le_refl _) _
  have b2 : Below w.heap.size w ((w.alloc (.cells ([255].map byteV).toArray 5)).alloc (.cells ([255, 255].map byteV).toArray 5)) := b1.alloc b1.size _
  have HC := Lib.hid (replaceall_any v l hl w.heap.size (w.heap.size + 1) 1 2 ((w.alloc (.cells ([255].map byteV).toArray 5)).alloc (.cells ([255, 255].map byteV).toArray 5)) (hv.call b2)
    ((IsRow.made w 5 #[.int .u8 255]).alloc _ |>.cell 0) (by have := bytes_new (w.alloc (.cells ([255].map byteV).toArray 5)) [255, 255] (by decide); simpa using this))
  have HB := Lib.hid b2
  obtain ⟨p, c, rfl⟩ := hv.form
  clear hv b1 b2
  go_enter Tryd.func11, Tryd.ntmps11
  go_wp2_with (go_at_call 15; refine HC.out.mono ?_; rintro e w' ⟨x, rfl, hx, hb⟩)
  go_ret
  exact ⟨x, rfl, hx, HB.out.trans (hb.mono HB.out.size)⟩

#print axioms escape_any
end Go.Proofs.YtkbekabpbgdhfaaDoor.Tel
