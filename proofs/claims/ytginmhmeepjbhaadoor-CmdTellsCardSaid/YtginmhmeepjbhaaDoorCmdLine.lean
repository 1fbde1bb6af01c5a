/- The contract of cmd.readLine: a line is cut at its first blank; the command, or a fault with its number. -/
import Derived.Test.YtginmhmeepjbhaaDoorCmdMay
import Derived.Test.YtginmhmeepjbhaaDoorCmdErr
import Derived.Test.YtginmhmeepjbhaaDoorShelf
import Derived.Lib.SplitLaws
namespace Go.Proofs.YtginmhmeepjbhaaDoor.Cm
open Go.Proofs.YtginmhmeepjbhaaDoor Go.Proofs.YtginmhmeepjbhaaDoor.Vb
open Go.ChangeShapes Go.WideShapes Go.ChangeAt Go.RowKit
set_option maxRecDepth 100000
set_option linter.unusedSimpArgs false

theorem occ_one (l : List UInt8) (c : UInt8) (i : Nat) : Lib.occAt l [c] i = (l[i]? == some c) := by
  by_cases h : i + 1 ≤ l.length
  · rw [Lib.occAt_iff_take l [c] i (by simpa using h)]
    have e : (l.drop i).take [c].length = [l[i]] := by
      rw [List.drop_eq_getElem_cons (by omega)]; rfl
    rw [e, List.getElem?_eq_getElem (by omega)]
    simp
  · rw [List.getElem?_eq_none (by omega)]
    cases e : Lib.occAt l [c] i with
    | false => rfl
    | true => rcases Lib.occAt_room e with h' | h' <;> simp at h'; omega
theorem ix_no {l : List UInt8} {c : UInt8} (h : c ∉ l) : Lib.index l [c] = -1 :=
  Lib.index_none fun j _ => by
    rw [occ_one, beq_eq_false_iff_ne]; exact fun e => h (List.mem_of_getElem? e)
theorem ix_at {p r : List UInt8} {c : UInt8} (h : c ∉ p) : Lib.index (p ++ c :: r) [c] = p.length :=
  Lib.index_first (by simp) (by rw [occ_one]; simp) fun j hj => by
    rw [occ_one, beq_eq_false_iff_ne, List.getElem?_append_left hj]; exact fun e => h (List.mem_of_getElem? e)
theorem head_free (s : List UInt8) : (32 : UInt8) ∉ head s := fun hm => by
  have := List.all_eq_true.1 (List.all_takeWhile (p := fun c : UInt8 => c != 32) (l := s)) _ hm
  simp at this
/-- a line cut at its first blank is its head and its rest -/
theorem cut_line (s : List UInt8) : ∃ b, Lib.cut s [32] = (head s, rest s, b) := by
  rcases apart s with ⟨e, hr⟩ | e
  · refine ⟨false, ?_⟩
    have hf : (32 : UInt8) ∉ s := by rw [e]; exact head_free s
    unfold Lib.cut
    rw [ix_no hf, hr, ← e]
    rfl
  · refine ⟨true, ?_⟩
    have h : Lib.cut (head s ++ 32 :: rest s) [32] = (head s, rest s, true) := by
      unfold Lib.cut
      rw [ix_at (head_free s), if_pos (by omega)]
      simp
    rw [← e] at h
    exact h
theorem cut_calls (s : List UInt8) (hl : s.length ≤ 100000) : ∃ b, ∀ W, Env W → Calls Tryd.prog 31 #[.string ⟨s.toArray⟩, .string ⟨#[32]⟩] W fun e w' => e = .returned (.tuple #[.string ⟨(head s).toArray⟩, .string ⟨(rest s).toArray⟩, .bool b]) ∧ Below W.heap.size W w' := by
  obtain ⟨b, hb⟩ := cut_line s
  refine ⟨b, fun W EW => ?_⟩
  obtain ⟨m, hm⟩ := EW.most
  have h := Tryd.strings_Cut ⟨s.toArray⟩ ⟨#[32]⟩ m W (by rw [size_mk]; omega) hm
  rw [show (ByteArray.mk s.toArray).data.toList = s from by simp, show (ByteArray.mk #[32]).data.toList = [32] from rfl, hb] at h
  refine h.mono ?_
  rintro e w' ⟨he, n, rfl⟩
  exact ⟨he, ⟨rfl, rfl, rfl, Nat.le_refl _, fun _ _ => rfl⟩⟩

theorem fine_is (n : List UInt8) : (decide (3 ≤ n.length) && (decide (n.length ≤ 4) && letters (upper n))) = fine n := by
  unfold fine
  by_cases h3 : n.length = 3
  · rw [h3]; simp
  · by_cases h4 : n.length = 4
    · rw [h4]; simp
    · rw [decide_eq_false (by omega : ¬ (n.length = 3 ∨ n.length = 4)), ← Bool.and_assoc, ← Bool.decide_and, decide_eq_false (by omega)]
/-- the order in which the code asks -/
theorem read_own (s : List UInt8) (x : Vb) (is : Bool) (h : found (head s) = (x, is)) : read s = if clean s then (if fine (head s) then (if is then (if may x.name (rest s) then ((x.name, rest s), 0) else (([], []), 1)) else (([], []), 3)) else (([], []), 2)) else (([], []), 2) := by
  rw [read_eq, fine_is, found_upper, h]
  cases is with
  | false => cases clean s <;> cases fine (head s) <;> rfl
  | true =>
    have hn : x.name = upper (head s) := by
      obtain ⟨y, _, h1, h2⟩ := found_in (v := head s) (by rw [h])
      rw [h] at h1
      injection h1 with h1 _
      rw [h1]; exact h2
    rw [hn]
    cases clean s <;> cases fine (head s) <;> rfl

/-- what readLine answers -/
def LinePost (r : (List UInt8 × List UInt8) × Int) (e : Ending) : Prop :=
  (r.2 = 0 ∧ e = .returned (.tuple #[cmdV r.1.1 r.1.2, .nilIface])) ∨ (r.1 = ([], []) ∧ r.2 ≠ 0 ∧ ∃ p, e = .returned (.tuple #[cmdV [] [], faultV p r.2]))

set_option maxHeartbeats 4000000 in
theorem line_any (s : List UInt8) (hl : s.length ≤ 100000) (w : World) (E : Env w) : Calls Tryd.prog 22 #[.string ⟨s.toArray⟩] w fun e w' => LinePost (read s) e ∧ Below w.heap.size w w' := by
  obtain ⟨x, is, hx⟩ : ∃ x is, found (head s) = (x, is) := ⟨_, _, rfl⟩
  have HR := Lib.hid (read_own s x is hx)
  have hh := head_le s
  have hr : (rest s).length ≤ 100000 := by unfold rest; rw [List.length_drop]; omega
  have hxn : x.name.length ≤ 100000 := by
    have e : (found (head s)).1.name.length ≤ 100000 := by
      unfold found has hasIn
      cases hf : verbs.find? (fun y => y.name == upper (head s)) with
      | none => exact Nat.zero_le _
      | some y => rcases len_each y (List.mem_of_find?_eq_some hf) with h | h <;> (show y.name.length ≤ 100000; omega)
    rw [hx] at e
    exact e
  obtain ⟨cb, hcut⟩ := cut_calls s hl
  have HX := Lib.hid hcut
  have HC := Lib.hid (fun W => clean_same s hl W)
  have HN := Lib.hid (fun W => name_any (head s) (by omega) W)
  have HF : Hid (∀ W, Calls Tryd.prog 20 #[.string ⟨(head s).toArray⟩] W fun e w' => e = .returned (.tuple #[verbV x, .bool is]) ∧ Below W.heap.size W w') := Lib.hid (fun W => by
    have h := find_any (head s) (by omega) W
    rw [hx] at h
    exact h)
  have HM := Lib.hid (fun W => may_any x.name (rest s) hxn hr W)
  clear hcut hx hh hr hxn
  obtain ⟨vn, vk, va, vp⟩ := x
  simp only at HR HF HM
  generalize read s = R at HR
  generalize clean s = cl at HR HC
  generalize fine (head s) = fi at HR HN
  generalize may vn (rest s) = my at HR HM
  generalize head s = n at HX HN HF
  generalize rest s = r at HR HX HM
  have b0 : Below w.heap.size w (w.alloc (.cells #[.string ⟨#[]⟩, .string ⟨#[]⟩] 23)) := (Below.refl _ w).alloc (Nat.le_refl _) _
  have E0 := E.below b0
  have R0 : IsRow (w.alloc (.cells #[.string ⟨#[]⟩, .string ⟨#[]⟩] 23)) w.heap.size 23 #[.string ⟨#[]⟩, .string ⟨#[]⟩] := IsRow.made w _ _
  cases cl with
  | false =>
    have HV : Hid (R = (([], []), 2)) := Lib.hid (by rw [HR.out] <;> rfl)
    go_enter Tryd.func22, Tryd.ntmps22
    go_wp2_with (first
      | (go_at_call 31; refine (HX.out _ E0).mono ?_; rintro e w1 ⟨rfl, b1⟩; have R1 := R0.call b1; have hlt := R1.lt; have B1 := Lib.hid (b0.trans (b1.mono b0.size)); have f0 := R1.free 0; have c0 := R1.cell 0; have f1 := R1.free 1; have c1 := R1.cell 1)
      | (go_at_call 17; refine (HC.out _).mono ?_; rintro e w2 ⟨rfl, rfl⟩))
    generalize hW : World.setCell _ _ _ = W9
    have FR : IsRow W9 w.heap.size 23 #[.string ⟨#[]⟩, .string ⟨#[]⟩] := by rw [← hW]; exact (R1.set 0 _).set 1 _
    have B9 : Below w.heap.size w W9 := by rw [← hW]; exact (B1.out.setCell (Nat.le_refl _) _).setCell (Nat.le_refl _) _
    have g0 : W9.cell? ⟨w.heap.size, 0, none⟩ = some (.string ⟨#[]⟩) := FR.cell 0
    have g1 : W9.cell? ⟨w.heap.size, 1, none⟩ = some (.string ⟨#[]⟩) := FR.cell 1
    exact bodyPost_ret (v := .tuple #[.agg #[.string ⟨#[]⟩, .string ⟨#[]⟩], faultV ⟨#[108, 105, 110, 101]⟩ 2]) (by simp [results, Tryd.results22, go_sem, g0, g1]) rfl ⟨by rw [HV.out]; exact Or.inr ⟨rfl, by decide, _, rfl⟩, B9⟩
  | true =>
    cases fi with
    | false =>
      have HV : Hid (R = (([], []), 2)) := Lib.hid (by rw [HR.out] <;> rfl)
      go_enter Tryd.func22, Tryd.ntmps22
      go_wp2_with (first
        | (go_at_call 31; refine (HX.out _ E0).mono ?_; rintro e w1 ⟨rfl, b1⟩; have R1 := R0.call b1; have hlt := R1.lt; have B1 := Lib.hid (b0.trans (b1.mono b0.size)); have f0 := R1.free 0; have c0 := R1.cell 0; have f1 := R1.free 1; have c1 := R1.cell 1)
        | (go_at_call 17; refine (HC.out _).mono ?_; rintro e w2 ⟨rfl, rfl⟩)
        | (go_at_call 32; refine (HN.out _).mono ?_; rintro e w2 ⟨rfl, rfl⟩))
      generalize hW : World.setCell _ _ _ = W9
      have FR : IsRow W9 w.heap.size 23 #[.string ⟨#[]⟩, .string ⟨#[]⟩] := by rw [← hW]; exact (R1.set 0 _).set 1 _
      have B9 : Below w.heap.size w W9 := by rw [← hW]; exact (B1.out.setCell (Nat.le_refl _) _).setCell (Nat.le_refl _) _
      have g0 : W9.cell? ⟨w.heap.size, 0, none⟩ = some (.string ⟨#[]⟩) := FR.cell 0
      have g1 : W9.cell? ⟨w.heap.size, 1, none⟩ = some (.string ⟨#[]⟩) := FR.cell 1
      exact bodyPost_ret (v := .tuple #[.agg #[.string ⟨#[]⟩, .string ⟨#[]⟩], faultV ⟨#[110, 97, 109, 101]⟩ 2]) (by simp [results, Tryd.results22, go_sem, g0, g1]) rfl ⟨by rw [HV.out]; exact Or.inr ⟨rfl, by decide, _, rfl⟩, B9⟩
    | true =>
      cases is with
      | false =>
        have HV : Hid (R = (([], []), 3)) := Lib.hid (by rw [HR.out] <;> rfl)
        go_enter Tryd.func22, Tryd.ntmps22
        go_wp2_with (first
          | (go_at_call 31; refine (HX.out _ E0).mono ?_; rintro e w1 ⟨rfl, b1⟩; have R1 := R0.call b1; have hlt := R1.lt; have B1 := Lib.hid (b0.trans (b1.mono b0.size)); have f0 := R1.free 0; have c0 := R1.cell 0; have f1 := R1.free 1; have c1 := R1.cell 1)
          | (go_at_call 17; refine (HC.out _).mono ?_; rintro e w2 ⟨rfl, rfl⟩)
          | (go_at_call 32; refine (HN.out _).mono ?_; rintro e w2 ⟨rfl, rfl⟩)
          | (go_at_call 20; refine (HF.out _).mono ?_; rintro e w3 ⟨rfl, b3⟩; have R3 := R1.call b3; have hlt3 := R3.lt; have B3 := Lib.hid (B1.out.trans (b3.mono B1.out.size)); clear f0 c0 f1 c1; have f0 := R3.free 0; have c0 := R3.cell 0; have f1 := R3.free 1; have c1 := R3.cell 1))
        generalize hW : World.alloc (World.setCell _ _ _) _ = W9
        have FR : IsRow W9 w.heap.size 23 #[.string ⟨#[]⟩, .string ⟨#[]⟩] := by rw [← hW]; exact ((R3.set 0 _).set 1 _).alloc _
        have B9 : Below w.heap.size w W9 := by rw [← hW]; exact ((B3.out.setCell (Nat.le_refl _) _).setCell (Nat.le_refl _) _).alloc (by have := B3.out.size; simp; omega) _
        have g0 : W9.cell? ⟨w.heap.size, 0, none⟩ = some (.string ⟨#[]⟩) := FR.cell 0
        have g1 : W9.cell? ⟨w.heap.size, 1, none⟩ = some (.string ⟨#[]⟩) := FR.cell 1
        exact bodyPost_ret (v := .tuple #[.agg #[.string ⟨#[]⟩, .string ⟨#[]⟩], faultV ⟨#[118, 101, 114, 98]⟩ 3]) (by simp [results, Tryd.results22, go_sem, g0, g1]) rfl ⟨by rw [HV.out]; exact Or.inr ⟨rfl, by decide, _, rfl⟩, B9⟩
      | true =>
        cases my with
        | false =>
          have HV : Hid (R = (([], []), 1)) := Lib.hid (by rw [HR.out] <;> rfl)
          go_enter Tryd.func22, Tryd.ntmps22
          go_wp2_with (first
            | (go_at_call 31; refine (HX.out _ E0).mono ?_; rintro e w1 ⟨rfl, b1⟩; have R1 := R0.call b1; have hlt := R1.lt; have B1 := Lib.hid (b0.trans (b1.mono b0.size)); have f0 := R1.free 0; have c0 := R1.cell 0; have f1 := R1.free 1; have c1 := R1.cell 1)
            | (go_at_call 17; refine (HC.out _).mono ?_; rintro e w2 ⟨rfl, rfl⟩)
            | (go_at_call 32; refine (HN.out _).mono ?_; rintro e w2 ⟨rfl, rfl⟩)
            | (go_at_call 20; refine (HF.out _).mono ?_; rintro e w3 ⟨rfl, b3⟩; have R3 := R1.call b3; have hlt3 := R3.lt; have B3 := Lib.hid (B1.out.trans (b3.mono B1.out.size)); clear f0 c0 f1 c1; have f0 := R3.free 0; have c0 := R3.cell 0; have f1 := R3.free 1; have c1 := R3.cell 1)
            | (go_at_call 16; refine (HM.out _).mono ?_; rintro e w4 ⟨rfl, b4⟩; have R4 := ((R3.alloc (.cells #[.string ⟨vn.toArray⟩, .int .i64 vk, .int .i64 va, .bool vp] 37)).alloc (.cells #[.string ⟨vn.toArray⟩, .string ⟨r.toArray⟩] 23)).call b4; have hlt4 := R4.lt; have Q4 := (IsRow.made (w3.alloc (.cells #[.string ⟨vn.toArray⟩, .int .i64 vk, .int .i64 va, .bool vp] 37)) 23 #[.string ⟨vn.toArray⟩, .string ⟨r.toArray⟩]).call b4; have B4 := Lib.hid (((B3.out.alloc B3.out.size (.cells #[.string ⟨vn.toArray⟩, .int .i64 vk, .int .i64 va, .bool vp] 37)).alloc (by have := B3.out.size; simp; omega) (.cells #[.string ⟨vn.toArray⟩, .string ⟨r.toArray⟩] 23)).trans (b4.mono (by have := B3.out.size; simp; omega))); clear f0 c0 f1 c1; have f0 := R4.free 0; have c0 := R4.cell 0; have f1 := R4.free 1; have c1 := R4.cell 1; have e0 : w4.cell? ⟨w3.heap.size + 1, 0, none⟩ = some (.string ⟨vn.toArray⟩) := (by have h := Q4.cell 0; rw [World.size_alloc] at h; exact h); have e1 : w4.cell? ⟨w3.heap.size + 1, 1, none⟩ = some (.string ⟨r.toArray⟩) := (by have h := Q4.cell 1; rw [World.size_alloc] at h; exact h)))
          generalize hW : World.setCell _ _ _ = W9
          have FR : IsRow W9 w.heap.size 23 #[.string ⟨#[]⟩, .string ⟨#[]⟩] := by rw [← hW]; exact (R4.set 0 _).set 1 _
          have B9 : Below w.heap.size w W9 := by rw [← hW]; exact (B4.out.setCell (Nat.le_refl _) _).setCell (Nat.le_refl _) _
          have g0 : W9.cell? ⟨w.heap.size, 0, none⟩ = some (.string ⟨#[]⟩) := FR.cell 0
          have g1 : W9.cell? ⟨w.heap.size, 1, none⟩ = some (.string ⟨#[]⟩) := FR.cell 1
          exact bodyPost_ret (v := .tuple #[.agg #[.string ⟨#[]⟩, .string ⟨#[]⟩], faultV ⟨#[97, 114, 103, 117, 109, 101, 110, 116]⟩ 1]) (by simp [results, Tryd.results22, go_sem, g0, g1]) rfl ⟨by rw [HV.out]; exact Or.inr ⟨rfl, by decide, _, rfl⟩, B9⟩
        | true =>
          have HV : Hid (R = ((vn, r), 0)) := Lib.hid (by rw [HR.out] <;> rfl)
          go_enter Tryd.func22, Tryd.ntmps22
          go_wp2_with (first
            | (go_at_call 31; refine (HX.out _ E0).mono ?_; rintro e w1 ⟨rfl, b1⟩; have R1 := R0.call b1; have hlt := R1.lt; have B1 := Lib.hid (b0.trans (b1.mono b0.size)); have f0 := R1.free 0; have c0 := R1.cell 0; have f1 := R1.free 1; have c1 := R1.cell 1)
            | (go_at_call 17; refine (HC.out _).mono ?_; rintro e w2 ⟨rfl, rfl⟩)
            | (go_at_call 32; refine (HN.out _).mono ?_; rintro e w2 ⟨rfl, rfl⟩)
            | (go_at_call 20; refine (HF.out _).mono ?_; rintro e w3 ⟨rfl, b3⟩; have R3 := R1.call b3; have hlt3 := R3.lt; have B3 := Lib.hid (B1.out.trans (b3.mono B1.out.size)); clear f0 c0 f1 c1; have f0 := R3.free 0; have c0 := R3.cell 0; have f1 := R3.free 1; have c1 := R3.cell 1)
            | (go_at_call 16; refine (HM.out _).mono ?_; rintro e w4 ⟨rfl, b4⟩; have R4 := ((R3.alloc (.cells #[.string ⟨vn.toArray⟩, .int .i64 vk, .int .i64 va, .bool vp] 37)).alloc (.cells #[.string ⟨vn.toArray⟩, .string ⟨r.toArray⟩] 23)).call b4; have hlt4 := R4.lt; have Q4 := (IsRow.made (w3.alloc (.cells #[.string ⟨vn.toArray⟩, .int .i64 vk, .int .i64 va, .bool vp] 37)) 23 #[.string ⟨vn.toArray⟩, .string ⟨r.toArray⟩]).call b4; have B4 := Lib.hid (((B3.out.alloc B3.out.size (.cells #[.string ⟨vn.toArray⟩, .int .i64 vk, .int .i64 va, .bool vp] 37)).alloc (by have := B3.out.size; simp; omega) (.cells #[.string ⟨vn.toArray⟩, .string ⟨r.toArray⟩] 23)).trans (b4.mono (by have := B3.out.size; simp; omega))); clear f0 c0 f1 c1; have f0 := R4.free 0; have c0 := R4.cell 0; have f1 := R4.free 1; have c1 := R4.cell 1; have e0 : w4.cell? ⟨w3.heap.size + 1, 0, none⟩ = some (.string ⟨vn.toArray⟩) := (by have h := Q4.cell 0; rw [World.size_alloc] at h; exact h); have e1 : w4.cell? ⟨w3.heap.size + 1, 1, none⟩ = some (.string ⟨r.toArray⟩) := (by have h := Q4.cell 1; rw [World.size_alloc] at h; exact h)))
          generalize hW : World.setCell _ _ _ = W9
          have FR : IsRow W9 w.heap.size 23 #[.string ⟨vn.toArray⟩, .string ⟨r.toArray⟩] := by rw [← hW]; exact (R4.set 0 _).set 1 _
          have B9 : Below w.heap.size w W9 := by rw [← hW]; exact (B4.out.setCell (Nat.le_refl _) _).setCell (Nat.le_refl _) _
          have g0 : W9.cell? ⟨w.heap.size, 0, none⟩ = some (.string ⟨vn.toArray⟩) := FR.cell 0
          have g1 : W9.cell? ⟨w.heap.size, 1, none⟩ = some (.string ⟨r.toArray⟩) := FR.cell 1
          exact bodyPost_ret (v := .tuple #[.agg #[.string ⟨vn.toArray⟩, .string ⟨r.toArray⟩], .nilIface]) (by simp [results, Tryd.results22, go_sem, g0, g1]) rfl ⟨by rw [HV.out]; exact Or.inl ⟨rfl, rfl⟩, B9⟩

#print axioms line_any
end Go.Proofs.YtginmhmeepjbhaaDoor.Cm
