/- The contract of reply.Print. -/
import Derived.Test.YtbojjbnmjhblfaaDoorReplyMay
import Derived.Deep.RegionHeld
import Derived.Laws.OwnMore
namespace Go.Proofs.YtbojjbnmjhblfaaDoor.Rp
open Go.Proofs.YtbojjbnmjhblfaaDoor Go.Proofs.YtbojjbnmjhblfaaDoor.Cm Go.Proofs.YtbojjbnmjhblfaaDoor.Quad
open Go Go.ChangeShapes Go.WideShapes Go.ChangeAt Go.RowKit
set_option maxRecDepth 100000
set_option linter.unusedSimpArgs false

/-! the lines as they are sent, by what is put in their place -/
theorem lines_alone {code : Int} {l : Ls} (h : l.length = 0 + 1) : linesOf code l = l.set 0 (Lib.itoa code ++ (32 : UInt8) :: l[0]) := by
  refine List.ext_getElem (by unfold linesOf; rw [lines_len, List.length_set]) fun i hi hi' => ?_
  have hil : i < l.length := by rw [List.length_set] at hi'; exact hi'
  obtain rfl : i = 0 := by omega
  unfold linesOf at hi ⊢
  rw [lines_at hi hil, List.getElem_set_self]
  unfold lineAt
  rw [if_pos (by omega)]
theorem lines_more {code : Int} {l : Ls} {k : Nat} (h : l.length = k + 1) (h0 : k ≠ 0) : linesOf code l = (l.set 0 (Lib.itoa code ++ (45 : UInt8) :: l[0])).set k (Lib.itoa code ++ (32 : UInt8) :: l[k]) := by
  refine List.ext_getElem (by unfold linesOf; rw [lines_len, List.length_set, List.length_set]) fun i hi hi' => ?_
  have hil : i < l.length := by rw [List.length_set, List.length_set] at hi'; exact hi'
  unfold linesOf at hi ⊢
  rw [lines_at hi hil]
  unfold lineAt
  by_cases h1 : i = k
  · subst h1
    rw [if_pos (by omega), List.getElem_set_self]
  · rw [if_neg (by omega), List.getElem_set_ne (by omega)]
    by_cases h2 : i = 0
    · subst h2
      rw [if_pos rfl, List.getElem_set_self]
    · rw [if_neg h2, List.getElem_set_ne (by omega)]

theorem own_call {w w' : World} {base : Nat} {t : TypeId} {size : Nat} {v : Value} {n : Nat} {xs : List Value} (h : w.ownsRow base t size v n xs) (hb : Below w.heap.size w w') : w'.ownsRow base t size v n xs := by
  refine ⟨h.1, ?_⟩
  rcases h.2 with h0 | ⟨g, cap, cur, h1, h2, h3, h4⟩
  · exact Or.inl h0
  · exact Or.inr ⟨g, cap, cur, h1, h2, by rw [hb.block g (lt_of_block h3)]; exact h3, h4⟩
theorem own_mono {w : World} {base base' : Nat} {t : TypeId} {size : Nat} {v : Value} {n : Nat} {xs : List Value} (h : w.ownsRow base t size v n xs) (hb : base' ≤ base) : w.ownsRow base' t size v n xs := by
  refine ⟨h.1, ?_⟩
  rcases h.2 with h0 | ⟨g, cap, cur, h1, h2, h3⟩
  · exact Or.inl h0
  · exact Or.inr ⟨g, cap, cur, h1, Nat.le_trans hb h2, h3⟩
theorem own_more {w : World} {base : Nat} {t : TypeId} {size : Nat} {v : Value} {k : Nat} {xs : List Value} (h : w.ownsRow base t size v (k + 1) xs) : ∃ g cap, v = .slice (some ⟨g, 0, none⟩) (k + 1) cap ∧ base ≤ g ∧ g < w.heap.size := by
  rcases h.2 with ⟨_, h0⟩ | ⟨g, cap, cur, h1, h2, h3, _⟩
  · omega
  · exact ⟨g, cap, h1, h2, lt_of_block h3⟩
/-- the clone of a reply's lines, in whatever world stands behind the one where they were read -/
theorem clone_then (a : Addr) (n c k : Nat) (l : Ls) (hn : n = l.length) (hk : n = k + 1) (hl : l.length ≤ 1000) (w : World) (ha : a.block < w.heap.size) (hcell : ∀ i (h : i < l.length), w.cell? (a.add i) = some (.string ⟨l[i].toArray⟩)) (W : World) (hW : Below w.heap.size w W) :
    Calls Tryd.prog 21 #[.slice (some a) n c] W fun e w' => ∃ g cap, e = .returned (.slice (some ⟨g, 0, none⟩) n cap) ∧ w.heap.size ≤ g ∧ w'.ownsRow w.heap.size 9 1 (.slice (some ⟨g, 0, none⟩) n cap) n (l.map strV) ∧ Below W.heap.size W w' := by
  refine (clone_any a n c l hn hl W (fun i h => by rw [hW.cell (by rw [add_block]; exact ha)]; exact hcell i h)).mono ?_
  rintro e w' ⟨v, rfl, h1, h2⟩
  have h1' := h1
  rw [hk] at h1'
  obtain ⟨g, cap, rfl, hg, _⟩ := own_more h1'
  rw [hk] at h1 ⊢
  exact ⟨g, cap, rfl, Nat.le_trans hW.size hg, own_mono h1 hW.size, h2⟩

set_option maxHeartbeats 8000000 in
theorem print_any (code : Int) (lo : -9223372036854775808 ≤ code) (hi : code ≤ 9223372036854775807) (u : Value) (l : Ls) (hz : ∀ s ∈ l, s.length ≤ 9223372036854775807) (w : World) (E : Env w) (Y : TextsIs w u l) :
    Calls Tryd.prog 11 #[replyV code u] w fun e w' => ∃ x, e = .returned (.tuple #[x, .bool (print code l).2]) ∧ OwnStrs w.heap.size w' x (print code l).1 ∧ Below w.heap.size w w' := by
  have HM := Lib.hid (fun W EW YW => may_any code lo hi u l hz W EW YW)
  have HN := Lib.hid (fun W EW => num_any code lo hi W EW)
  have HP : Hid (print code l = if mayB code l then (linesOf code l, true) else ([], false)) := Lib.hid rfl
  have b0 : Below w.heap.size w (w.alloc (.cells #[.int .i64 code, u] 24)) := (Below.refl _ w).alloc (Nat.le_refl _) _
  have R0 : IsRow (w.alloc (.cells #[.int .i64 code, u] 24)) w.heap.size 24 #[.int .i64 code, u] := IsRow.made w _ _
  have HY := Lib.hid Y
  have HY0 := Lib.hid (Y.alloc (.cells #[.int .i64 code, u] 24))
  have E0 := Lib.hid (E.below b0)
  obtain ⟨p0, c0, rfl⟩ := Y.form
  clear Y
  cases hm : mayB code l with
  | false =>
    rw [hm] at HM HP
    clear hz
    go_enter Tryd.func11, Tryd.ntmps11
    go_wp2_with (go_at_call 15; refine (HM.out _ E0.out HY0.out).mono ?_; rintro e w1 ⟨rfl, b1⟩; have B1 := Lib.hid (b0.trans (b1.mono b0.size)))
    go_ret2
    exact ⟨_, by rw [HP.out] <;> rfl, by rw [HP.out]; exact OwnStrs.nil _ _, B1.out⟩
  | true =>
    rw [hm] at HM HP
    rw [if_pos rfl] at HP
    have MP := may_parts hm
    have hn20 := MP.few
    have hn1 := MP.one
    have hd := code_len MP.lo MP.hi
    obtain ⟨k, hk⟩ : ∃ k, l.length = k + 1 := ⟨l.length - 1, by omega⟩
    obtain ⟨a, rfl, _, hab, hcell⟩ := HY.out.some (by omega)
    have HC := Lib.hid (fun W hW => clone_then a l.length c0 k l rfl hk (by omega) w hab hcell W hW)
    have HL0 : Hid (k = 0 → linesOf code l = l.set k (Lib.itoa code ++ (32 : UInt8) :: l[k])) := Lib.hid (fun h => by subst h; exact lines_alone hk)
    have HLK : Hid (k ≠ 0 → linesOf code l = (l.set 0 (Lib.itoa code ++ (45 : UInt8) :: l[0])).set k (Lib.itoa code ++ (32 : UInt8) :: l[k])) := Lib.hid (fun h => lines_more hk h)
    have hs0 : l[0].length ≤ 500 := MP.short 0 _
    have hsk : l[k].length ≤ 500 := MP.short k _
    have HX0 : Hid ((l.map strV)[0]? = some (.string ⟨l[0].toArray⟩)) := Lib.hid (by rw [List.getElem?_map, List.getElem?_eq_getElem (by omega)]; rfl)
    have HXK : Hid ((l.map strV)[k]? = some (.string ⟨l[k].toArray⟩)) := Lib.hid (by rw [List.getElem?_map, List.getElem?_eq_getElem (by omega)]; rfl)
    generalize linesOf code l = ln at HP HL0 HLK
    generalize Lib.itoa code = d at HN hd HL0 HLK
    have HK := Lib.hid hk
    rw [hk] at *
    clear MP hm hcell HY hz
    generalize l[0] = t0 at *
    generalize l[k] = tk at *
    go_enter Tryd.func11, Tryd.ntmps11
    go_wp2_with (go_at_call 15; refine (HM.out _ E0.out HY0.out).mono ?_; rintro e w1 ⟨rfl, b1⟩; have B1 := Lib.hid (b0.trans (b1.mono b0.size)); have R1 := Lib.hid (R0.call b1); clear b1)
    have q0 : w1.cell? ⟨w.heap.size, 0, none⟩ = some (.int .i64 code) := R1.out.cell 0
    have q1 : w1.cell? ⟨w.heap.size, 1, none⟩ = some (.slice (some a) (k + 1) c0) := R1.out.cell 1
    clear R0 b0 HY0
    go_region_held (fun w' => w'.cell? ⟨w.heap.size, 0, none⟩ = some (.int .i64 code) ∧ w'.cell? ⟨w.heap.size, 1, none⟩ = some (.slice (some a) (k + 1) c0)) (first | go_keep | with_reducible exact K3 | with_reducible exact K2)
      (first
      | (go_at_call 21; first | (refine (HC.out _ B2.out).mono ?_; rintro e w3 ⟨g, cap, rfl, hg, hown, b3⟩; have HG := Lib.hid hg; have HO := Lib.hid hown; have B3 := Lib.hid (B2.out.trans (b3.mono B2.out.size)); have R3 := Lib.hid (R2.out.call b3); have K3 := And.intro (R3.out.cell 0) (R3.out.cell 1); clear hown b3 hg) | (refine (HC.out _ B1.out.drew).mono ?_; rintro e w2 ⟨g, cap, rfl, hg, hown, b2⟩; have HG := Lib.hid hg; have HO2 := Lib.hid hown; have B2 := Lib.hid (B1.out.drew.trans (b2.mono B1.out.drew.size)); have R2 := Lib.hid (R1.out.drew.call b2); have K2 := And.intro (R2.out.cell 0) (R2.out.cell 1); clear hown b2 hg))
      | (go_at_call 20; first | (refine (HN.out _ (E.below B2.out)).mono ?_; rintro e w3 ⟨rfl, b3⟩; have HO := Lib.hid (own_call HO2.out b3); have B3 := Lib.hid (B2.out.trans (b3.mono B2.out.size)); have R3 := Lib.hid (R2.out.call b3); have K3 := And.intro (R3.out.cell 0) (R3.out.cell 1); clear HO2 b3) | (refine (HN.out _ (E.below B1.out.drew)).mono ?_; rintro e w2 ⟨rfl, b2⟩; have B2 := Lib.hid (B1.out.drew.trans (b2.mono B1.out.drew.size)); have R2 := Lib.hid (R1.out.drew.call b2); have K2 := And.intro (R2.out.cell 0) (R2.out.cell 1); clear b2)))
    all_goals (
      have ck : w3.cell? ⟨g, k, none⟩ = some (.string ⟨tk.toArray⟩) := (HO.out.cellAt k (by omega)).trans HXK.out
      have fk : w3.frozen? ⟨g, k, none⟩ = false := HO.out.frozenAt k
      obtain ⟨q, hq⟩ : ∃ q, q = d ++ [(32 : UInt8)] := ⟨_, rfl⟩
      obtain ⟨x, hx⟩ : ∃ x, x = d ++ (32 : UInt8) :: tk := ⟨_, rfl⟩
      have hx1 : ByteArray.mk d.toArray ++ ByteArray.mk #[32] = ⟨q.toArray⟩ := by rw [hq]; apply ByteArray.ext; simp [ByteArray.data_append]
      have hx2 : ByteArray.mk q.toArray ++ ByteArray.mk tk.toArray = ⟨x.toArray⟩ := by rw [hq, hx]; apply ByteArray.ext; simp [ByteArray.data_append]
      have n0 : ¬ 9223372036854775807 < d.length + 1 := by omega
      have n1 : ¬ 9223372036854775807 < q.length + tk.length := by rw [hq, List.length_append]; simp <;> omega
      rw [← hx] at HL0
      rw [← hx] at HLK
      have hkn : k < 1000 := by omega
      clear hq hx HC HM HN E0 q0 q1 R1 R2 R3 K2 K3 B2 B1
      by_cases h0 : k = 0
      · have g0 : ¬ (0 : Int) < (k : Int) := by omega
        have HLL := Lib.hid (HL0.out h0)
        clear h0 HL0 HLK
        go_wp2_with fail
        go_ret2
        have hl : ln.length = k + 1 := by rw [HLL.out, List.length_set]; assumption
        have hO := (HO.out.stored k (.string ⟨x.toArray⟩)).1
        rw [show (l.map strV).set k (.string ⟨x.toArray⟩) = ln.map strV from by rw [HLL.out, List.map_set]] at hO
        exact ⟨_, by rw [HP.out] <;> rfl, by rw [HP.out]; exact own_texts (t := 9) (by rw [hl]; exact hO), B3.out.setCell HG.out _⟩
      · have g0 : (0 : Int) < (k : Int) := by omega
        have HLL := Lib.hid (HLK.out h0)
        have hne : (0 : Nat) ≠ k := by omega
        clear h0 HL0 HLK
        have c0 : w3.cell? ⟨g, 0, none⟩ = some (.string ⟨t0.toArray⟩) := (HO.out.cellAt 0 (by omega)).trans HX0.out
        have f0 : w3.frozen? ⟨g, 0, none⟩ = false := HO.out.frozenAt 0
        obtain ⟨q', hq'⟩ : ∃ q, q = d ++ [(45 : UInt8)] := ⟨_, rfl⟩
        obtain ⟨x', hx'⟩ : ∃ x, x = d ++ (45 : UInt8) :: t0 := ⟨_, rfl⟩
        have hx1' : ByteArray.mk d.toArray ++ ByteArray.mk #[45] = ⟨q'.toArray⟩ := by rw [hq']; apply ByteArray.ext; simp [ByteArray.data_append]
        have hx2' : ByteArray.mk q'.toArray ++ ByteArray.mk t0.toArray = ⟨x'.toArray⟩ := by rw [hq', hx']; apply ByteArray.ext; simp [ByteArray.data_append]
        have n1' : ¬ 9223372036854775807 < q'.length + t0.length := by rw [hq', List.length_append]; simp <;> omega
        rw [← hx'] at HLL
        clear hq' hx'
        go_wp2_with fail
        go_ret2
        have hl : ln.length = k + 1 := by rw [HLL.out, List.length_set, List.length_set]; assumption
        have hO := ((HO.out.stored 0 (.string ⟨x'.toArray⟩)).1.stored k (.string ⟨x.toArray⟩)).1
        rw [show ((l.map strV).set 0 (.string ⟨x'.toArray⟩)).set k (.string ⟨x.toArray⟩) = ln.map strV from by rw [HLL.out, List.map_set, List.map_set]] at hO
        exact ⟨_, by rw [HP.out] <;> rfl, by rw [HP.out]; exact own_texts (t := 9) (by rw [hl]; exact hO), (B3.out.setCell (p := ⟨g, 0, none⟩) HG.out _).setCell (p := ⟨g, k, none⟩) HG.out _⟩)

#print axioms print_any
end Go.Proofs.YtbojjbnmjhblfaaDoor.Rp
