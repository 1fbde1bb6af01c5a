/- strings.ContainsAny of any text and "\r\n": is there a 13 or a 10? (whatever the bytes) -/
import Derived.Test.YtampgoicogfccaaLineRune
import Derived.Lib.OthersKept
import Derived.Lib.AsciiSet
namespace Go.Proofs.Ytampgoicogfccaa.Ln
open Go.Proofs.Ytampgoicogfccaa
open Go.RowKit
open Go.Lib (run_next_any_at run_next_ascii_at run_next_end_at iterAt_heap below_iterAt)
set_option linter.unusedSimpArgs false

/-- no 13 and no 10 among them -/
def NoEnd (l : List UInt8) : Prop := (10 : UInt8) ∉ l ∧ (13 : UInt8) ∉ l
theorem noend_zero (s : List UInt8) : NoEnd (s.take 0) := by simp [NoEnd]
theorem mem_from {s : List UInt8} {i k : Nat} {c : UInt8} (h : c ∈ s.take (i + k)) : c ∈ s.take i ∨ ∃ j, j < k ∧ ∃ hj : i + j < s.length, s[i + j]'hj = c := by
  obtain ⟨n, hn, rfl⟩ := List.mem_iff_getElem.1 h
  have hn' : n < i + k ∧ n < s.length := by have := hn; rw [List.length_take] at this; omega
  rw [List.getElem_take]
  by_cases hlt : n < i
  · left
    rw [List.mem_iff_getElem]
    exact ⟨n, by simp [List.length_take]; omega, by rw [List.getElem_take]⟩
  · right
    refine ⟨n - i, by omega, by omega, ?_⟩
    congr 1
    omega
theorem noend_skip {s : List UInt8} {i k : Nat} (h : NoEnd (s.take i)) (hk : ∀ j, j < k → ∃ hj : i + j < s.length, s[i + j]'hj ≠ 10 ∧ s[i + j]'hj ≠ 13) : NoEnd (s.take (i + k)) := by
  refine ⟨fun hm => ?_, fun hm => ?_⟩
  · rcases mem_from hm with hm | ⟨j, hj, hl, e⟩
    · exact h.1 hm
    · obtain ⟨_, q⟩ := hk j hj; exact q.1 e
  · rcases mem_from hm with hm | ⟨j, hj, hl, e⟩
    · exact h.2 hm
    · obtain ⟨_, q⟩ := hk j hj; exact q.2 e
theorem iterPos_of {w : World} {k : Nat} {s : ByteArray} {p : Nat} (h : w.heap[k]? = some (.stringIter s p)) : w.iterPos k = p := by simp [World.iterPos, h]
theorem ends_has (x : UInt8) : (ByteArray.mk #[13, 10]).data.toList.contains x = decide (x = 10 ∨ x = 13) := by
  show List.contains [13, 10] x = _
  by_cases h1 : x = 10
  · subst h1; decide
  · by_cases h2 : x = 13
    · subst h2; decide
    · simp [h1, h2]

def AnyPost (s : List UInt8) (w : World) (e : Ending) (w' : World) : Prop :=
  ∃ n : Int, e = .returned (.int .i64 n) ∧ decide (0 ≤ n) = decide ((10 : UInt8) ∈ s ∨ (13 : UInt8) ∈ s) ∧ Below w.heap.size w w'
theorem any_none {s : List UInt8} (h : NoEnd (s.take s.length)) : decide ((0 : Int) ≤ -1) = decide ((10 : UInt8) ∈ s ∨ (13 : UInt8) ∈ s) := by
  rw [List.take_length] at h
  rw [decide_eq_false (by omega), decide_eq_false (fun q => q.elim h.1 h.2)]
theorem any_some {s : List UInt8} {i : Nat} (hi : i < s.length) (h : s[i] = 10 ∨ s[i] = 13) : decide ((0 : Int) ≤ (i : Int)) = decide ((10 : UInt8) ∈ s ∨ (13 : UInt8) ∈ s) := by
  rw [decide_eq_true (by omega), decide_eq_true]
  rcases h with h | h
  · exact Or.inl (h ▸ List.getElem_mem hi)
  · exact Or.inr (h ▸ List.getElem_mem hi)

set_option maxHeartbeats 4000000 in
set_option maxRecDepth 100000 in
theorem indexany_short (s : List UInt8) (h8 : s.length ≤ 8) (w : World) :
    Calls Try.prog 25 #[.string ⟨s.toArray⟩, .string ⟨#[13, 10]⟩] w (AnyPost s w) := by
  have q8 : decide ((8 : Int) < (s.length : Int)) = false := decide_eq_false (by omega)
  go_enter Try.func25, Try.ntmps25
  go_wp2_with (go_at_call 27; refine (Try.strings_shouldUseASCIISet _ _).mono ?_; rintro e w' ⟨rfl, rfl⟩; rw [q8])
  have hk0 : (w'.iter ⟨s.toArray⟩ 0).heap[w'.heap.size]? = some (.stringIter ⟨s.toArray⟩ 0) := World.iter_heap _ _ _
  have hb0 : Below w'.heap.size w' (w'.iter ⟨s.toArray⟩ 0) := (Below.refl _ _).alloc (Nat.le_refl _) _
  generalize w'.iter ⟨s.toArray⟩ 0 = w1 at *
  go_loopw [9, 10] (fun _ _ wx => ∃ i : Nat, i ≤ s.length ∧ Hid (NoEnd (s.take i)) ∧ wx.heap[w'.heap.size]? = some (.stringIter ⟨s.toArray⟩ i) ∧ Hid (Below w'.heap.size w' wx)) (fun _ _ wx => s.length - wx.iterPos w'.heap.size)
  case atStart => exact ⟨0, Nat.zero_le _, Lib.hid (noend_zero s), hk0, Lib.hid hb0⟩
  case round =>
    clear hk0 hb0
    obtain ⟨i, hi, HN, hk, HB⟩ := hrel
    have hpos := iterPos_of hk
    by_cases hlt : i < s.length
    · have hsz : i < (ByteArray.mk s.toArray).size := by simpa [ByteArray.size] using hlt
      by_cases hlow : (s[i]).toNat < 128
      · have hnx := fun ty => run_next_ascii_at (P := Try.prog) wr w'.heap.size ⟨s.toArray⟩ i ty hk hsz hlow
        have hk2 := iterAt_heap wr w'.heap.size ⟨s.toArray⟩ i (i + 1) hk
        have HB2 := Lib.hid (below_iterAt HB.out (Nat.le_refl _) ⟨s.toArray⟩ (i + 1))
        have HS : Hid (s[i] ≠ 10 ∧ s[i] ≠ 13 → NoEnd (s.take (i + 1))) := Lib.hid (fun h => noend_skip HN.out (fun j hj => by
          obtain rfl : j = 0 := by omega
          exact ⟨hlt, h⟩))
        have HH : Hid (s[i] = 10 ∨ s[i] = 13 → decide ((0 : Int) ≤ (i : Int)) = decide ((10 : UInt8) ∈ s ∨ (13 : UInt8) ∈ s)) := Lib.hid (any_some hlt)
        have hxe : (ByteArray.mk s.toArray)[i]'hsz = s[i] := rfl
        rw [hxe] at hnx
        clear hxe
        generalize s[i] = x at *
        generalize hw2 : wr.iterAt w'.heap.size ⟨s.toArray⟩ (i + 1) = w2 at *
        have hback : ((x.toNat : Int)).toNat.toUInt8 = x := by simp
        have hcon := Lib.contains_iff_indexByte (ByteArray.mk #[13, 10]).data.toList x
        rw [ends_has] at hcon
        have KR := Lib.hid (Try.strings_IndexRune_ascii (ByteArray.mk #[13, 10]) (x.toNat : Int) w2 (by omega) (by omega))
        rw [hback] at KR
        clear hw2 hk
        by_cases hx : x = 10 ∨ x = 13
        · rw [decide_eq_true hx] at hcon
          have hge : (0 : Int) ≤ Lib.indexByte (ByteArray.mk #[13, 10]).data.toList x := of_decide_eq_true hcon.symm
          have hH := Lib.hid (HH.out hx)
          clear hcon hback HS HN HH hx
          generalize Lib.indexByte (ByteArray.mk #[13, 10]).data.toList x = n at *
          go_wp2_with (go_at_call 26; refine KR.out.mono ?_; rintro e w4 ⟨rfl, rfl⟩)
          go_ret
          exact ⟨(i : Int), rfl, hH.out, HB2.out⟩
        · rw [decide_eq_false hx] at hcon
          have hge : ¬ (0 : Int) ≤ Lib.indexByte (ByteArray.mk #[13, 10]).data.toList x := of_decide_eq_false hcon.symm
          have hS := Lib.hid (HS.out (by rw [not_or] at hx; exact hx))
          clear hcon hback HS HN HH hx
          generalize Lib.indexByte (ByteArray.mk #[13, 10]).data.toList x = n at *
          go_wp2_with (go_at_call 26; refine KR.out.mono ?_; rintro e w4 ⟨rfl, rfl⟩)
          go_roundw
          case rel => exact ⟨i + 1, by omega, hS, hk2, HB2⟩
          case measure => rw [iterPos_of hk2, hpos]; omega
      · have hhigh : 128 ≤ ((ByteArray.mk s.toArray)[i]'hsz).toNat := by show 128 ≤ (s[i]).toNat; omega
        have hnx := fun ty => run_next_any_at (P := Try.prog) wr w'.heap.size ⟨s.toArray⟩ i ty hk hsz
        have hd := decode_high ⟨s.toArray⟩ i hsz hhigh
        have hs := dec_skip ⟨s.toArray⟩ i hsz hhigh
        generalize Utf8.decode ⟨s.toArray⟩ i = rk at hnx hd hs
        obtain ⟨r, k⟩ := rk
        simp only at hnx hd hs
        obtain ⟨hr, hk1⟩ := hd
        have hs' : ∀ j, j < k → ∃ hj : i + j < s.length, s[i + j]'hj ≠ 10 ∧ s[i + j]'hj ≠ 13 := fun j hj => by
          obtain ⟨hjl, hj8⟩ := hs j hj
          have hjl' : i + j < s.length := by simpa [ByteArray.size] using hjl
          have hj8' : 128 ≤ (s[i + j]'hjl').toNat := hj8
          exact ⟨hjl', by intro e; rw [e] at hj8'; revert hj8'; decide, by intro e; rw [e] at hj8'; revert hj8'; decide⟩
        have hle : i + k ≤ s.length := by
          obtain ⟨q, _⟩ := hs' (k - 1) (by omega)
          omega
        have hS := Lib.hid (noend_skip HN.out hs')
        have hk2 := iterAt_heap wr w'.heap.size ⟨s.toArray⟩ i (i + k) hk
        have HB2 := Lib.hid (below_iterAt HB.out (Nat.le_refl _) ⟨s.toArray⟩ (i + k))
        generalize hw2 : wr.iterAt w'.heap.size ⟨s.toArray⟩ (i + k) = w2 at *
        have KR := Lib.hid (indexrune_any (r : Int) (by omega) w2)
        clear hs hs' hw2 hk HN hhigh hlow
        go_wp2_with (go_at_call 26; refine KR.out.mono ?_; rintro e w4 ⟨rfl, b4⟩; have hk4 : w4.heap[w'.heap.size]? = some (.stringIter ⟨s.toArray⟩ (i + k)) := (by rw [b4.block _ (Array.getElem?_eq_some_iff.1 hk2).1]; exact hk2); have B4 := Lib.hid (HB2.out.trans (b4.mono HB2.out.size)); clear b4)
        go_roundw
        case rel => exact ⟨i + k, hle, hS, hk4, B4⟩
        case measure => rw [iterPos_of hk4, hpos]; omega
    · obtain rfl : i = s.length := by omega
      have hnx := fun ty => run_next_end_at (P := Try.prog) wr w'.heap.size ⟨s.toArray⟩ s.length ty hk (by simp [ByteArray.size])
      go_wp2_with fail
      go_ret
      exact ⟨-1, rfl, any_none HN.out, HB.out⟩

set_option maxHeartbeats 4000000 in
set_option maxRecDepth 100000 in
theorem indexany_long (s : List UInt8) (h8 : 8 < s.length) (hl : s.length ≤ 140737488351232) (w : World) :
    Calls Try.prog 25 #[.string ⟨s.toArray⟩, .string ⟨#[13, 10]⟩] w (AnyPost s w) := by
  have q8 : decide ((8 : Int) < (s.length : Int)) = true := decide_eq_true (by omega)
  have hz : ∀ w, (zeroValue 55).run Try.prog w = .ok (.agg (Array.replicate 256 (.bool false))) w := fun w => by kernel_rfl
  have hM := Lib.hid (Try.strings_makeASCIISet hz (ByteArray.mk #[13, 10]) w (by decide) (by
    intro j b h
    match j, h with
    | 0, h => cases h; decide
    | 1, h => cases h; decide))
  have hsz := Lib.setCells_size (ByteArray.mk #[13, 10]).data.toList
  have hone := Lib.setCells_one (ByteArray.mk #[13, 10]).data.toList
  have hat := fun x => Lib.setCells_at (ByteArray.mk #[13, 10]).data.toList x
  generalize Lib.setCells (ByteArray.mk #[13, 10]).data.toList = A at *
  have hsc : (storeCells ⟨w.heap.size + 1, 0, none⟩ A.toList 0).run Try.prog ((w.alloc (.cells A 55)).alloc (.cells (Array.replicate 256 (.bool false)) 55)) = .ok () ((w.alloc (.cells A 55)).alloc (.cells A 55)) := by
    have := run_storeCells_new (P := Try.prog) (w.alloc (.cells A 55)) 55 (Array.replicate 256 (.bool false)) A (by rw [hsz]; kernel_rfl) (by rw [hsz, Array.size_replicate]) hone
    simpa using this
  have HC : Hid (∀ x : UInt8, ((w.alloc (.cells A 55)).alloc (.cells A 55)).cell? ⟨w.heap.size + 1, x.toNat, none⟩ = some (.bool (decide (x = 10 ∨ x = 13)))) := Lib.hid (fun x => by
    have r := IsRow.made (w.alloc (.cells A 55)) 55 A
    have e : (w.alloc (.cells A 55)).heap.size = w.heap.size + 1 := by simp
    rw [e] at r
    rw [r.cell, hat, ends_has])
  have HB : Hid (Below w.heap.size w ((w.alloc (.cells A 55)).alloc (.cells A 55))) := Lib.hid (((Below.refl _ _).alloc (Nat.le_refl _) _).alloc (by simp) _)
  clear hone hat
  go_enter Try.func25, Try.ntmps25
  go_wp2_with (first
    | (go_at_call 27; refine (Try.strings_shouldUseASCIISet _ _).mono ?_; rintro e w' ⟨rfl, rfl⟩; rw [q8])
    | (go_at_call 28; refine hM.out.mono ?_; rintro e w' ⟨rfl, rfl⟩))
  clear hM hsc hz hsz
  generalize (World.alloc _ _) = W2 at HC HB ⊢
  go_loop [8] (fun x8 => ∃ (k : Nat), x8 = .int .i64 (k : Int) ∧ k ≤ s.length ∧ Hid (NoEnd (s.take k))) (fun i => s.length - (intOf i).toNat)
  case atStart => exact ⟨0, rfl, Nat.zero_le _, Lib.hid (noend_zero s)⟩
  case round =>
    obtain ⟨k, rfl, hk, HN⟩ := hrel
    by_cases hlt : k < s.length
    · have hsz : k < (ByteArray.mk s.toArray).size := by simpa [ByteArray.size] using hlt
      have hxe : (ByteArray.mk s.toArray)[k]'hsz = s[k] := rfl
      have HS : Hid (s[k] ≠ 10 ∧ s[k] ≠ 13 → NoEnd (s.take (k + 1))) := Lib.hid (fun h => noend_skip HN.out (fun j hj => by
        obtain rfl : j = 0 := by omega
        exact ⟨hlt, h⟩))
      have HH : Hid (s[k] = 10 ∨ s[k] = 13 → decide ((0 : Int) ≤ (k : Int)) = decide ((10 : UInt8) ∈ s ∨ (13 : UInt8) ∈ s)) := Lib.hid (any_some hlt)
      have KC := Lib.hid (Try.asciiSet_contains _ s[k] _ _ (HC.out s[k]))
      by_cases hx : s[k] = 10 ∨ s[k] = 13
      · rw [decide_eq_true hx] at KC
        have hH := Lib.hid (HH.out hx)
        clear HS HH hx
        go_wp2_with (go_at_call 29; refine KC.out.mono ?_; rintro e w4 ⟨rfl, rfl⟩)
        go_ret
        exact ⟨(k : Int), rfl, hH.out, HB.out⟩
      · rw [decide_eq_false hx] at KC
        have hS := Lib.hid (HS.out (by rw [not_or] at hx; exact hx))
        clear HS HH hx
        go_wp2_with (go_at_call 29; refine KC.out.mono ?_; rintro e w4 ⟨rfl, rfl⟩)
        go_round
        case rel => exact ⟨k + 1, by go_num, by omega, hS⟩
        case measure => simp [intOf]; omega
    · obtain rfl : k = s.length := by omega
      go_wp2_with fail
      go_ret
      exact ⟨-1, rfl, any_none HN.out, HB.out⟩

theorem containsany_any (s : List UInt8) (hl : s.length ≤ 140737488351232) (w : World) :
    Calls Try.prog 21 #[.string ⟨s.toArray⟩, .string ⟨#[13, 10]⟩] w fun e w' => e = .returned (.bool (decide ((10 : UInt8) ∈ s ∨ (13 : UInt8) ∈ s))) ∧ Below w.heap.size w w' := by
  have KI : Hid (Calls Try.prog 25 #[.string ⟨s.toArray⟩, .string ⟨#[13, 10]⟩] w (AnyPost s w)) := Lib.hid (by
    by_cases h8 : s.length ≤ 8
    · exact indexany_short s h8 w
    · exact indexany_long s (by omega) hl w)
  go_enter Try.func21, Try.ntmps21
  go_wp2_with (go_at_call 25; refine KI.out.mono ?_; rintro e w2 ⟨n, rfl, hn, b2⟩; have B2 := Lib.hid b2; have HN := Lib.hid hn; clear b2 hn)
  go_ret
  exact ⟨by rw [← HN.out]; rfl, B2.out⟩

#print axioms containsany_any
end Go.Proofs.Ytampgoicogfccaa.Ln
