/- The contracts of package path's trail: up, down, by. -/
import Derived.Test.YtajdlaijdgfhhaaDoorPathRow
import Derived.Test.YtajdlaijdgfhhaaDoorCutRef
import Derived.BigQuiet
import Derived.Deep.QuietTactic
import Derived.Lib.Hide
import Derived.OneCell
namespace Go.Proofs.YtajdlaijdgfhhaaDoor.Pt
open Go.Proofs.YtajdlaijdgfhhaaDoor Go.Proofs.YtajdlaijdgfhhaaDoor.Cm Go.Proofs.YtajdlaijdgfhhaaDoor.Quad
open Go Go.ChangeShapes Go.WideShapes Go.ChangeAt Go.RowKit
set_option maxRecDepth 100000
set_option linter.unusedSimpArgs false
set_option linter.unusedVariables false

def upT (L : Ps) (b : Nat) : Ps × Nat := if 0 < b then (L, b - 1) else (L.dropLast, 0)
def downT (L : Ps) (b : Nat) (p : List UInt8) : Ps × Nat := if L.length = 100 then (L, b + 1) else (L ++ [p], b)
def byT (L : Ps) (b : Nat) (p : List UInt8) : Ps × Nat := if p == [] || p == [46] then (L, b) else if p == [46, 46] then upT L b else downT L b p
abbrev trailV (v : Value) (b : Int) : Value := .agg #[v, .int .i64 b]

/-- a trail led on: L are its texts so far, b how many more lie below -/
theorem Trail.by {F L : Ps} {b : Nat} (h : Trail F L b) (p : List UInt8) : Trail (step F p) (byT L b p).1 (byT L b p).2 := by
  unfold step byT
  by_cases h1 : (p == [] || p == [46]) = true
  · rw [if_pos h1, if_pos h1]; exact h
  · rw [if_neg h1, if_neg h1]
    by_cases h2 : (p == [46, 46]) = true
    · rw [if_pos h2, if_pos h2]
      unfold upT
      by_cases h3 : 0 < b
      · rw [if_pos h3]
        obtain ⟨k, rfl⟩ : ∃ k, b = k + 1 := ⟨b - 1, by omega⟩
        exact h.back
      · rw [if_neg h3]
        obtain rfl : b = 0 := by omega
        exact h.less
    · rw [if_neg h2, if_neg h2]
      unfold downT
      by_cases h3 : L.length = 100
      · rw [if_pos h3]; exact h.more h3 p
      · rw [if_neg h3]
        obtain ⟨rfl, h4⟩ := h.onto h3 p
        exact h4

/-- what the trail's calls answer -/
def Goes (B K : Nat) (w : World) (v : Value) (r : Ps × Nat) (e : Ending) (w' : World) : Prop :=
  ∃ q m d, e = .returned (trailV (.slice q m d) (r.2 : Int)) ∧ m = r.1.length ∧ Grew B K w v w' (.slice q m d) r.1

theorem two_grew {B K : Nat} {w : World} {v v' : Value} {L : Ps} (hK : K ≤ w.heap.size) (o1 o2 : Obj) (hs : Strand B K w v' L) (hb : ∀ g, v'.ownBlock = some g → v.ownBlock = some g) : Grew B K w v ((w.alloc o1).alloc o2) v' L :=
  ⟨(hs.alloc _).alloc _, ((Below.refl _ _).alloc hK _).alloc (by simp; omega) _, fun b hb' _ => by rw [Below.heap_alloc _ _ _ (by simp; omega), Below.heap_alloc _ _ _ hb'], fun g hg => Or.inl (hb g hg), by simp; omega⟩

theorem two_trail {w : World} {v : Value} {b : Int} {K : Nat} (hK : K ≤ w.heap.size) (o1 : Value) (o2 : Value) :
    Below K w ((w.alloc (.cells #[o1, o2] 36)).alloc (.cells #[v, .int .i64 b] 36)) :=
  ((Below.refl _ _).alloc hK _).alloc (by simp; omega) _
theorem two_cells (w : World) (v : Value) (b : Int) (o : Obj) :
    ((w.alloc o).alloc (.cells #[v, .int .i64 b] 36)).cell? ⟨w.heap.size + 1, 0, none⟩ = some v ∧ ((w.alloc o).alloc (.cells #[v, .int .i64 b] 36)).cell? ⟨w.heap.size + 1, 1, none⟩ = some (.int .i64 b) := by
  have R := IsRow.made (w.alloc o) 36 #[v, .int .i64 b]
  have e : (w.alloc o).heap.size = w.heap.size + 1 := by simp
  rw [e] at R
  exact ⟨R.cell 0, R.cell 1⟩
theorem cut_three (g n c k : Nat) (hk : k ≤ c) : ∀ W, (Instr.slice 31 (.slice (some ⟨g, 0, none⟩) n c) none (some (.int .i64 (k : Int))) (some (.int .i64 (k : Int)))).run Tryd.prog W = .ok (.slice (some ⟨g, 0, none⟩) k k) W := fun W => by
  rw [run_slice_hm W 31 (some ⟨g, 0, none⟩) n c under_strs .i64 .i64 _ _ (by omega) (by omega) (by omega), elem_strs, size_str]
  have e : (⟨g, 0, none⟩ : Addr).add 0 = ⟨g, 0, none⟩ := rfl
  simp [Result.andThen, sliced, e]

set_option maxHeartbeats 2000000 in
theorem up_any {B K : Nat} (hK : B < K) (p : Option Addr) (n c : Nat) (L : Ps) (b : Nat) (hn : n = L.length) (hl : n ≤ 1000000) (hb : b ≤ 1000000) (w : World) (hKw : K ≤ w.heap.size) (h : Strand B K w (.slice p n c) L) :
    Calls Tryd.prog 30 #[trailV (.slice p n c) (b : Int)] w (Goes B K w (.slice p n c) (upT L b)) := by
  have HS := Lib.hid h
  have HN := Lib.hid hn
  have HK := Lib.hid hKw
  clear h hn
  by_cases g : 0 < b
  · have g1 : (0 : Int) < (b : Int) := by omega
    have HU : Hid (upT L b = (L, b - 1)) := Lib.hid (by unfold upT; rw [if_pos g])
    have HM : Hid (n = L.length) := HN
    go_enter Tryd.func30, Tryd.ntmps30
    go_wp2_with fail
    generalize hW : World.alloc (World.alloc w _) _ = W9
    have hc := two_cells w (.slice p n c) ((b : Int) - 1) (.cells #[.slice p n c, .int .i64 ((b : Int) - 1)] 36)
    rw [hW] at hc
    have G9 : Grew B K w (.slice p n c) W9 (.slice p n c) L := by rw [← hW]; exact two_grew HK.out _ _ HS.out (fun g hg => hg)
    obtain ⟨y0, y1⟩ := hc
    refine bodyPost_ret (v := trailV (.slice p n c) ((b : Int) - 1)) (by simp [results, Tryd.results30, go_sem, y0, y1]) rfl ?_
    unfold Goes
    rw [HU.out]
    exact ⟨_, _, _, by show Ending.returned _ = Ending.returned _; rw [show (((b - 1 : Nat)) : Int) = (b : Int) - 1 by omega], HM.out, G9⟩
  · have g1 : ¬ (0 : Int) < (b : Int) := by omega
    obtain rfl : b = 0 := by omega
    have HU : Hid (upT L 0 = (L.dropLast, 0)) := Lib.hid (by unfold upT; rw [if_neg (by omega)])
    by_cases g2 : 0 < n
    · obtain ⟨k, rfl⟩ : ∃ k, n = k + 1 := ⟨n - 1, by omega⟩
      obtain ⟨q, rfl, _, hkc, hst⟩ := Strand.cut hK HS.out k HN.out
      have HS2 := Lib.hid hst
      have HM : Hid (k = L.dropLast.length) := Lib.hid (by rw [List.length_dropLast]; have := HN.out; omega)
      have HX := cut_three q (k + 1) c k hkc
      have g3 : (0 : Int) ≤ (k : Int) := by omega
      clear hst hkc g2
      go_enter Tryd.func30, Tryd.ntmps30
      go_wp2_with fail
      generalize hW : World.alloc (World.alloc w _) _ = W9
      have hc := two_cells w (.slice (some ⟨q, 0, none⟩) k k) (0) (.cells #[.slice (some ⟨q, 0, none⟩) k k, .int .i64 (0)] 36)
      rw [hW] at hc
      have G9 : Grew B K w (.slice (some ⟨q, 0, none⟩) (k + 1) c) W9 (.slice (some ⟨q, 0, none⟩) k k) L.dropLast := by rw [← hW]; exact two_grew HK.out _ _ HS2.out (fun g hg => hg)
      obtain ⟨y0, y1⟩ := hc
      refine bodyPost_ret (v := trailV (.slice (some ⟨q, 0, none⟩) k k) (0)) (by simp [results, Tryd.results30, go_sem, y0, y1]) rfl ?_
      unfold Goes
      rw [HU.out]
      exact ⟨_, _, _, by rfl, HM.out, G9⟩
    · obtain rfl : n = 0 := by omega
      have hL : L = [] := List.length_eq_zero_iff.1 HN.out.symm
      have HM : Hid (0 = L.dropLast.length) := Lib.hid (by rw [hL]; rfl)
      have HS2 : Hid (Strand B K w (.slice p 0 c) L.dropLast) := Lib.hid (by have h := HS.out; rw [hL] at h ⊢; exact h)
      clear hL
      go_enter Tryd.func30, Tryd.ntmps30
      go_wp2_with fail
      generalize hW : World.alloc (World.alloc w _) _ = W9
      have hc := two_cells w (.slice p 0 c) (0) (.cells #[.slice p 0 c, .int .i64 (0)] 36)
      rw [hW] at hc
      have G9 : Grew B K w (.slice p 0 c) W9 (.slice p 0 c) L.dropLast := by rw [← hW]; exact two_grew HK.out _ _ HS2.out (fun g hg => hg)
      obtain ⟨y0, y1⟩ := hc
      refine bodyPost_ret (v := trailV (.slice p 0 c) (0)) (by simp [results, Tryd.results30, go_sem, y0, y1]) rfl ?_
      unfold Goes
      rw [HU.out]
      exact ⟨_, _, _, by rfl, HM.out, G9⟩

set_option maxHeartbeats 2000000 in
theorem down_any {B K : Nat} (hK : B < K) (p : Option Addr) (n c : Nat) (L : Ps) (b : Nat) (x : List UInt8) (hn : n = L.length) (hl : n ≤ 1000000) (hb : b ≤ 1000000) (w : World) (hKw : K ≤ w.heap.size) (h : Strand B K w (.slice p n c) L) :
    Calls Tryd.prog 31 #[trailV (.slice p n c) (b : Int), .string ⟨x.toArray⟩] w (Goes B K w (.slice p n c) (downT L b x)) := by
  have HS := Lib.hid h
  have HN := Lib.hid hn
  have HK := Lib.hid hKw
  clear h hn
  by_cases g : n = 100
  · have g1 : ((n : Int) == 100) = true := by rw [beq_iff_eq]; omega
    have HU : Hid (downT L b x = (L, b + 1)) := Lib.hid (by unfold downT; rw [if_pos (by rw [← HN.out]; exact g)])
    have HM : Hid (n = L.length) := HN
    clear g
    go_enter Tryd.func31, Tryd.ntmps31
    go_wp2_with fail
    generalize hW : World.alloc (World.alloc w _) _ = W9
    have hc := two_cells w (.slice p n c) ((b : Int) + 1) (.cells #[.slice p n c, .int .i64 ((b : Int) + 1)] 36)
    rw [hW] at hc
    have G9 : Grew B K w (.slice p n c) W9 (.slice p n c) L := by rw [← hW]; exact two_grew HK.out _ _ HS.out (fun g hg => hg)
    obtain ⟨y0, y1⟩ := hc
    refine bodyPost_ret (v := trailV (.slice p n c) ((b : Int) + 1)) (by simp [results, Tryd.results31, go_sem, y0, y1]) rfl ?_
    unfold Goes
    rw [HU.out]
    exact ⟨_, _, _, by show Ending.returned _ = Ending.returned _; rw [show (((b + 1 : Nat)) : Int) = (b : Int) + 1 by omega], HM.out, G9⟩
  · have g1 : ((n : Int) == 100) = false := by rw [beq_eq_false_iff_ne]; omega
    have HU : Hid (downT L b x = (L ++ [x], b)) := Lib.hid (by unfold downT; rw [if_neg (by rw [← HN.out]; exact g)])
    clear g
    go_enter Tryd.func31, Tryd.ntmps31
    have hl6 : L.length ≤ 1000000 := by have := HN.out; omega
    go_wp2_with (at_builtin; refine wpList_append_strand rfl _ _ rfl _ L rfl (((HS.out.alloc _).alloc _).alloc _) ⟨w.heap.size + 1 + 1, 0, none⟩ 1 x rfl ?c0 hl6 ?c1 ?_)
    case c0 =>
      have R := IsRow.made ((w.alloc (.cells #[.slice p n c, .int .i64 (b : Int)] 36)).alloc (.cells #[.slice none 0 0, .int .i64 0] 36)) 9 #[.string ⟨x.toArray⟩]
      have e : ((w.alloc (.cells #[.slice p n c, .int .i64 (b : Int)] 36)).alloc (.cells #[.slice none 0 0, .int .i64 0] 36)).heap.size = w.heap.size + 1 + 1 := by simp
      rw [e] at R
      exact R.cell 0
    case c1 => have := HK.out; simp; omega
    intro q m d w3 hm hg
    have HM := Lib.hid hm
    have HG := Lib.hid hg
    have HP : Hid (∀ g, (Value.slice p n c).ownBlock = some g → g < w.heap.size) := Lib.hid HS.out.lt
    have hsz : ((((w.alloc (.cells #[.slice p n c, .int .i64 (b : Int)] 36)).alloc (.cells #[.slice none 0 0, .int .i64 0] 36)).alloc (.cells #[.string ⟨x.toArray⟩] 9))).heap.size = w.heap.size + 3 := by simp
    have R1 : IsRow w3 w.heap.size 36 #[.slice p n c, .int .i64 (b : Int)] := by
      unfold IsRow
      rw [HG.out.kept w.heap.size (by omega) (fun g hg => by have := HP.out g hg; omega)]
      exact ((IsRow.made w _ _).alloc _).alloc _
    have R2 : IsRow w3 (w.heap.size + 1) 36 #[.slice none 0 0, .int .i64 0] := by
      unfold IsRow
      rw [HG.out.kept (w.heap.size + 1) (by omega) (fun g hg => by have := HP.out g hg; omega)]
      have R := IsRow.made (w.alloc (.cells #[.slice p n c, .int .i64 (b : Int)] 36)) 36 #[.slice none 0 0, .int .i64 0]
      have e : (w.alloc (.cells #[.slice p n c, .int .i64 (b : Int)] 36)).heap.size = w.heap.size + 1 := by simp
      rw [e] at R
      exact R.alloc _
    have HR1 := Lib.hid R1
    have HR2 := Lib.hid R2
    have x0 := R1.cell 0
    have x1 := R1.cell 1
    have x2 := R2.cell 0
    have x3 := R2.cell 1
    have f0 := R1.free 0
    have f2 := R2.free 0
    have f3 := R2.free 1
    have HB3 : Hid (Below K w w3) := Lib.hid (((((Below.refl K w).alloc HK.out _).alloc (by have := HK.out; simp; omega) _).alloc (by have := HK.out; simp; omega) _).trans HG.out.below)
    have HL3 : Hid (∀ g, (Value.slice q m d).ownBlock = some g → g < w.heap.size ∨ w.heap.size + 3 ≤ g) := Lib.hid (fun g hg => by
      rcases HG.out.lies g hg with h | h
      · left; exact HP.out g h
      · right; omega)
    have HS3 := Lib.hid HG.out.strand
    have HKP : Hid (∀ b, b < w.heap.size → (∀ g, (Value.slice p n c).ownBlock = some g → g ≠ b) → w3.heap[b]? = w.heap[b]?) := Lib.hid (fun b hb hne => by
      rw [HG.out.kept b (by omega) hne, Below.heap_alloc _ _ _ (by simp; omega), Below.heap_alloc _ _ _ (by simp; omega), Below.heap_alloc _ _ _ hb])
    have HLL : Hid (∀ g, (Value.slice q m d).ownBlock = some g → (Value.slice p n c).ownBlock = some g ∨ w.heap.size ≤ g) := Lib.hid (fun g hg => by
      rcases HG.out.lies g hg with h | h
      · exact Or.inl h
      · right; omega)
    have HZ : Hid (w.heap.size + 3 ≤ w3.heap.size) := Lib.hid (by have := HG.out.size; omega)
    clear hm hg hsz R1 R2
    go_wp2_with fail
    generalize hW : World.setCell _ _ _ = W9
    have FR : IsRow W9 (w.heap.size + 1) 36 #[.slice q m d, .int .i64 (b : Int)] := by
      rw [← hW]
      exact (((HR2.out.other (by show w.heap.size + 1 ≠ w.heap.size; omega) _).set 0 _).set 1 _)
    have B9 : Below K w W9 := by
      rw [← hW]
      exact ((HB3.out.setCell (p := ⟨w.heap.size, 0, none⟩) HK.out _).setCell (p := ⟨w.heap.size + 1, 0, none⟩) (by have := HK.out; show K ≤ w.heap.size + 1; omega) _).setCell (p := ⟨w.heap.size + 1, 1, none⟩) (by have := HK.out; show K ≤ w.heap.size + 1; omega) _
    have S9 : Strand B K W9 (.slice q m d) (L ++ [x]) := by
      rw [← hW]
      exact ((HS3.out.apart (a := ⟨w.heap.size, 0, none⟩) (fun g hg => by have := HL3.out g hg; show g ≠ w.heap.size; omega) _).apart (a := ⟨w.heap.size + 1, 0, none⟩) (fun g hg => by have := HL3.out g hg; show g ≠ w.heap.size + 1; omega) _).apart (a := ⟨w.heap.size + 1, 1, none⟩) (fun g hg => by have := HL3.out g hg; show g ≠ w.heap.size + 1; omega) _
    have y0 : W9.cell? ⟨w.heap.size + 1, 0, none⟩ = some (.slice q m d) := FR.cell 0
    have y1 : W9.cell? ⟨w.heap.size + 1, 1, none⟩ = some (.int .i64 (b : Int)) := FR.cell 1
    refine bodyPost_ret (v := trailV (.slice q m d) (b : Int)) (by simp [results, Tryd.results31, go_sem, y0, y1]) rfl ?_
    unfold Goes
    rw [HU.out]
    refine ⟨q, m, d, rfl, (by rw [HM.out] <;> simp), S9, B9, fun b hb hne => ?_, HLL.out, ?_⟩
    · rw [← hW, Below.heap_setCell _ _ _ _ (by show b ≠ w.heap.size + 1; omega), Below.heap_setCell _ _ _ _ (by show b ≠ w.heap.size + 1; omega), Below.heap_setCell _ _ _ _ (by show b ≠ w.heap.size; omega)]
      exact HKP.out b hb hne
    · rw [← hW]
      have := HZ.out
      simp [World.setCell] <;> omega

set_option maxHeartbeats 2000000 in
theorem by_any {B K : Nat} (hK : B < K) (p : Option Addr) (n c : Nat) (L : Ps) (b : Nat) (x : List UInt8) (hn : n = L.length) (hl : n ≤ 100000) (hb : b ≤ 1000000) (w : World) (hKw : K ≤ w.heap.size) (h : Strand B K w (.slice p n c) L) :
    Calls Tryd.prog 23 #[trailV (.slice p n c) (b : Int), .string ⟨x.toArray⟩] w (Goes B K w (.slice p n c) (byT L b x)) := by
  have HS := Lib.hid h
  have HN := Lib.hid hn
  have HK := Lib.hid hKw
  have hl6 : n ≤ 1000000 := by omega
  have HUP := Lib.hid (fun W hk hs => up_any hK p n c L b hn hl6 hb W hk hs)
  have HDN := Lib.hid (fun W hk hs => down_any hK p n c L b x hn hl6 hb W hk hs)
  clear h hn
  cases h1 : (x == []) with
  | true =>
    have HU : Hid (byT L b x = (L, b)) := Lib.hid (by unfold byT; rw [h1]; rfl)
    have HM : Hid (n = L.length) := HN
    go_enter Tryd.func23, Tryd.ntmps23
    go_wp2_with fail
    generalize hW : World.alloc (World.alloc w _) _ = W9
    have hc := two_cells w (.slice p n c) ((b : Int)) (.cells #[.slice p n c, .int .i64 ((b : Int))] 36)
    rw [hW] at hc
    have G9 : Grew B K w (.slice p n c) W9 (.slice p n c) L := by rw [← hW]; exact two_grew HK.out _ _ HS.out (fun g hg => hg)
    obtain ⟨y0, y1⟩ := hc
    refine bodyPost_ret (v := trailV (.slice p n c) ((b : Int))) (by simp [results, Tryd.results23, go_sem, y0, y1]) rfl ?_
    unfold Goes
    rw [HU.out]
    exact ⟨_, _, _, by rfl, HM.out, G9⟩
  | false =>
    cases h2 : (x == [46]) with
    | true =>
      have HU : Hid (byT L b x = (L, b)) := Lib.hid (by unfold byT; rw [h1, h2]; rfl)
      have HM : Hid (n = L.length) := HN
      go_enter Tryd.func23, Tryd.ntmps23
      go_wp2_with fail
      generalize hW : World.alloc (World.alloc w _) _ = W9
      have hc := two_cells w (.slice p n c) ((b : Int)) (.cells #[.slice p n c, .int .i64 ((b : Int))] 36)
      rw [hW] at hc
      have G9 : Grew B K w (.slice p n c) W9 (.slice p n c) L := by rw [← hW]; exact two_grew HK.out _ _ HS.out (fun g hg => hg)
      obtain ⟨y0, y1⟩ := hc
      refine bodyPost_ret (v := trailV (.slice p n c) ((b : Int))) (by simp [results, Tryd.results23, go_sem, y0, y1]) rfl ?_
      unfold Goes
      rw [HU.out]
      exact ⟨_, _, _, by rfl, HM.out, G9⟩
    | false =>
      cases h3 : (x == [46, 46]) with
      | true =>
        have HU : Hid (byT L b x = upT L b) := Lib.hid (by unfold byT; rw [h1, h2, h3]; rfl)
        go_enter Tryd.func23, Tryd.ntmps23
        go_wp2_with (go_at_call 30; refine (HUP.out _ ?k ((HS.out.alloc _).alloc _)).mono ?_)
        case k => have := HK.out; simp; omega
        rintro e w3 ⟨q, m, d, rfl, hm, hg⟩
        have HM := Lib.hid hm
        have HG := Lib.hid hg
        have HP : Hid (∀ g, (Value.slice p n c).ownBlock = some g → g < w.heap.size) := Lib.hid HS.out.lt
        obtain ⟨W2, hW2⟩ : ∃ W2, W2 = ((w.alloc (.cells #[.slice p n c, .int .i64 (b : Int)] 36)).alloc (.cells #[.slice none 0 0, .int .i64 0] 36)) := ⟨_, rfl⟩
        rw [← hW2] at hg
        have HG := Lib.hid hg
        have hsz : W2.heap.size = w.heap.size + 2 := by rw [hW2]; simp
        have R2 : IsRow w3 (w.heap.size + 1) 36 #[.slice none 0 0, .int .i64 0] := by
          unfold IsRow
          rw [HG.out.kept (w.heap.size + 1) (by omega) (fun g hg => by have := HP.out g hg; omega), hW2]
          have R := IsRow.made (w.alloc (.cells #[.slice p n c, .int .i64 (b : Int)] 36)) 36 #[.slice none 0 0, .int .i64 0]
          have e : (w.alloc (.cells #[.slice p n c, .int .i64 (b : Int)] 36)).heap.size = w.heap.size + 1 := by simp
          rw [e] at R
          exact R
        have HR2 := Lib.hid R2
        have x2 := R2.cell 0
        have x3 := R2.cell 1
        have f2 := R2.free 0
        have f3 := R2.free 1
        have HB3 : Hid (Below K w w3) := Lib.hid ((show Below K w W2 by rw [hW2]; exact (((Below.refl K w).alloc HK.out _).alloc (by have := HK.out; simp; omega) _)).trans HG.out.below)
        have HL3 : Hid (∀ g, (Value.slice q m d).ownBlock = some g → g < w.heap.size ∨ w.heap.size + 2 ≤ g) := Lib.hid (fun g hg => by
          rcases HG.out.lies g hg with h | h
          · left; exact HP.out g h
          · right; omega)
        have HS3 := Lib.hid HG.out.strand
        have HKP : Hid (∀ b, b < w.heap.size → (∀ g, (Value.slice p n c).ownBlock = some g → g ≠ b) → w3.heap[b]? = w.heap[b]?) := Lib.hid (fun b hb hne => by
          rw [HG.out.kept b (by omega) hne, hW2, Below.heap_alloc _ _ _ (by simp; omega), Below.heap_alloc _ _ _ hb])
        have HLL : Hid (∀ g, (Value.slice q m d).ownBlock = some g → (Value.slice p n c).ownBlock = some g ∨ w.heap.size ≤ g) := Lib.hid (fun g hg => by
          rcases HG.out.lies g hg with h | h
          · exact Or.inl h
          · right; omega)
        have HZ : Hid (w.heap.size + 2 ≤ w3.heap.size) := Lib.hid (by have := HG.out.size; omega)
        clear hm hg hsz R2 hW2
        generalize (upT L b) = rr at *
        go_wp2_with fail
        generalize hW : World.setCell _ _ _ = W9
        have FR : IsRow W9 (w.heap.size + 1) 36 #[.slice q m d, .int .i64 (rr.2 : Int)] := by
          rw [← hW]
          exact ((HR2.out.set 0 _).set 1 _)
        have B9 : Below K w W9 := by
          rw [← hW]
          exact (HB3.out.setCell (p := ⟨w.heap.size + 1, 0, none⟩) (by have := HK.out; show K ≤ w.heap.size + 1; omega) _).setCell (p := ⟨w.heap.size + 1, 1, none⟩) (by have := HK.out; show K ≤ w.heap.size + 1; omega) _
        have S9 : Strand B K W9 (.slice q m d) rr.1 := by
          rw [← hW]
          exact (HS3.out.apart (a := ⟨w.heap.size + 1, 0, none⟩) (fun g hg => by have := HL3.out g hg; show g ≠ w.heap.size + 1; omega) _).apart (a := ⟨w.heap.size + 1, 1, none⟩) (fun g hg => by have := HL3.out g hg; show g ≠ w.heap.size + 1; omega) _
        have y0 : W9.cell? ⟨w.heap.size + 1, 0, none⟩ = some (.slice q m d) := FR.cell 0
        have y1 : W9.cell? ⟨w.heap.size + 1, 1, none⟩ = some (.int .i64 (rr.2 : Int)) := FR.cell 1
        refine bodyPost_ret (v := trailV (.slice q m d) (rr.2 : Int)) (by simp [results, Tryd.results23, go_sem, y0, y1]) rfl ?_
        unfold Goes
        rw [HU.out]
        refine ⟨q, m, d, rfl, HM.out, S9, B9, fun b hb hne => ?_, HLL.out, ?_⟩
        · rw [← hW, Below.heap_setCell _ _ _ _ (by show b ≠ w.heap.size + 1; omega), Below.heap_setCell _ _ _ _ (by show b ≠ w.heap.size + 1; omega)]
          exact HKP.out b hb hne
        · rw [← hW]
          have := HZ.out
          simp [World.setCell] <;> omega
      | false =>
        have HU : Hid (byT L b x = downT L b x) := Lib.hid (by unfold byT; rw [h1, h2, h3]; rfl)
        go_enter Tryd.func23, Tryd.ntmps23
        go_wp2_with (go_at_call 31; refine (HDN.out _ ?k ((HS.out.alloc _).alloc _)).mono ?_)
        case k => have := HK.out; simp; omega
        rintro e w3 ⟨q, m, d, rfl, hm, hg⟩
        have HM := Lib.hid hm
        have HG := Lib.hid hg
        have HP : Hid (∀ g, (Value.slice p n c).ownBlock = some g → g < w.heap.size) := Lib.hid HS.out.lt
        obtain ⟨W2, hW2⟩ : ∃ W2, W2 = ((w.alloc (.cells #[.slice p n c, .int .i64 (b : Int)] 36)).alloc (.cells #[.slice none 0 0, .int .i64 0] 36)) := ⟨_, rfl⟩
        rw [← hW2] at hg
        have HG := Lib.hid hg
        have hsz : W2.heap.size = w.heap.size + 2 := by rw [hW2]; simp
        have R2 : IsRow w3 (w.heap.size + 1) 36 #[.slice none 0 0, .int .i64 0] := by
          unfold IsRow
          rw [HG.out.kept (w.heap.size + 1) (by omega) (fun g hg => by have := HP.out g hg; omega), hW2]
          have R := IsRow.made (w.alloc (.cells #[.slice p n c, .int .i64 (b : Int)] 36)) 36 #[.slice none 0 0, .int .i64 0]
          have e : (w.alloc (.cells #[.slice p n c, .int .i64 (b : Int)] 36)).heap.size = w.heap.size + 1 := by simp
          rw [e] at R
          exact R
        have HR2 := Lib.hid R2
        have x2 := R2.cell 0
        have x3 := R2.cell 1
        have f2 := R2.free 0
        have f3 := R2.free 1
        have HB3 : Hid (Below K w w3) := Lib.hid ((show Below K w W2 by rw [hW2]; exact (((Below.refl K w).alloc HK.out _).alloc (by have := HK.out; simp; omega) _)).trans HG.out.below)
        have HL3 : Hid (∀ g, (Value.slice q m d).ownBlock = some g → g < w.heap.size ∨ w.heap.size + 2 ≤ g) := Lib.hid (fun g hg => by
          rcases HG.out.lies g hg with h | h
          · left; exact HP.out g h
          · right; omega)
        have HS3 := Lib.hid HG.out.strand
        have HKP : Hid (∀ b, b < w.heap.size → (∀ g, (Value.slice p n c).ownBlock = some g → g ≠ b) → w3.heap[b]? = w.heap[b]?) := Lib.hid (fun b hb hne => by
          rw [HG.out.kept b (by omega) hne, hW2, Below.heap_alloc _ _ _ (by simp; omega), Below.heap_alloc _ _ _ hb])
        have HLL : Hid (∀ g, (Value.slice q m d).ownBlock = some g → (Value.slice p n c).ownBlock = some g ∨ w.heap.size ≤ g) := Lib.hid (fun g hg => by
          rcases HG.out.lies g hg with h | h
          · exact Or.inl h
          · right; omega)
        have HZ : Hid (w.heap.size + 2 ≤ w3.heap.size) := Lib.hid (by have := HG.out.size; omega)
        clear hm hg hsz R2 hW2
        generalize (downT L b x) = rr at *
        go_wp2_with fail
        generalize hW : World.setCell _ _ _ = W9
        have FR : IsRow W9 (w.heap.size + 1) 36 #[.slice q m d, .int .i64 (rr.2 : Int)] := by
          rw [← hW]
          exact ((HR2.out.set 0 _).set 1 _)
        have B9 : Below K w W9 := by
          rw [← hW]
          exact (HB3.out.setCell (p := ⟨w.heap.size + 1, 0, none⟩) (by have := HK.out; show K ≤ w.heap.size + 1; omega) _).setCell (p := ⟨w.heap.size + 1, 1, none⟩) (by have := HK.out; show K ≤ w.heap.size + 1; omega) _
        have S9 : Strand B K W9 (.slice q m d) rr.1 := by
          rw [← hW]
          exact (HS3.out.apart (a := ⟨w.heap.size + 1, 0, none⟩) (fun g hg => by have := HL3.out g hg; show g ≠ w.heap.size + 1; omega) _).apart (a := ⟨w.heap.size + 1, 1, none⟩) (fun g hg => by have := HL3.out g hg; show g ≠ w.heap.size + 1; omega) _
        have y0 : W9.cell? ⟨w.heap.size + 1, 0, none⟩ = some (.slice q m d) := FR.cell 0
        have y1 : W9.cell? ⟨w.heap.size + 1, 1, none⟩ = some (.int .i64 (rr.2 : Int)) := FR.cell 1
        refine bodyPost_ret (v := trailV (.slice q m d) (rr.2 : Int)) (by simp [results, Tryd.results23, go_sem, y0, y1]) rfl ?_
        unfold Goes
        rw [HU.out]
        refine ⟨q, m, d, rfl, HM.out, S9, B9, fun b hb hne => ?_, HLL.out, ?_⟩
        · rw [← hW, Below.heap_setCell _ _ _ _ (by show b ≠ w.heap.size + 1; omega), Below.heap_setCell _ _ _ _ (by show b ≠ w.heap.size + 1; omega)]
          exact HKP.out b hb hne
        · rw [← hW]
          have := HZ.out
          simp [World.setCell] <;> omega
#print axioms by_any
end Go.Proofs.YtajdlaijdgfhhaaDoor.Pt
