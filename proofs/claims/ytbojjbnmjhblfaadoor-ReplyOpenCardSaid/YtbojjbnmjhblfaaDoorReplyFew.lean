/- The contract of wharfingerlaw09.Few: at most 30 texts, of at most 600 bytes. -/
import Derived.Test.YtbojjbnmjhblfaaDoorReplyPlain
import Derived.Test.YtbojjbnmjhblfaaDoorTexts
import Derived.WalkKit
import Derived.Lib.Hide
import Derived.LoopTactic
import Derived.WalkMore
namespace Go.Proofs.YtbojjbnmjhblfaaDoor.Rp
open Go.Proofs.YtbojjbnmjhblfaaDoor Go.Proofs.YtbojjbnmjhblfaaDoor.Cm Go.Proofs.YtbojjbnmjhblfaaDoor.Quad
open Go Go.ChangeShapes Go.WideShapes Go.ChangeAt Go.RowKit
set_option maxRecDepth 100000
set_option linter.unusedSimpArgs false

def few (l : Ls) : Bool := decide (l.length ≤ 30) && l.all fun s => decide (s.length ≤ 600)
theorem few_parts {l : Ls} (h : few l = true) : l.length ≤ 30 ∧ ∀ s ∈ l, s.length ≤ 600 := by
  unfold few at h
  simp only [Bool.and_eq_true, decide_eq_true_eq, List.all_eq_true] at h
  exact h
theorem few_no {l : Ls} {k : Nat} (hk : k < l.length) (h : 600 < l[k].length) : few l = false := by
  cases hf : few l with
  | false => rfl
  | true => have := (few_parts hf).2 _ (List.getElem_mem hk); omega
theorem few_yes {l : Ls} (h : l.length ≤ 30) (hs : ∀ i (hi : i < l.length), l[i].length ≤ 600) : few l = true := by
  unfold few
  simp only [Bool.and_eq_true, decide_eq_true_eq, List.all_eq_true]
  refine ⟨h, fun s hm => ?_⟩
  obtain ⟨i, hi, rfl⟩ := List.getElem_of_mem hm
  exact hs i hi

set_option maxHeartbeats 4000000 in
theorem few_any (u : Value) (l : Ls) (w : World) (Y : TextsIs w u l) :
    Calls Tryd.prog 9 #[u] w fun e w' => e = .returned (.bool (few l)) ∧ w' = w := by
  have YH := Lib.hid Y
  obtain ⟨p0, c0, rfl⟩ := Y.form
  clear Y
  by_cases h1 : 30 < l.length
  · have g1 : (30 : Int) < (l.length : Int) := by omega
    have HV : Hid (few l = false) := Lib.hid (by unfold few; rw [decide_eq_false (by omega)]; rfl)
    go_enter Tryd.func9, Tryd.ntmps9
    go_wp2_with fail
    go_ret
    exact ⟨by rw [HV.out] <;> rfl, by first | rfl | trivial⟩
  · have g1 : ¬ (30 : Int) < (l.length : Int) := by omega
    go_enter Tryd.func9, Tryd.ntmps9
    go_wp2_with fail
    go_loopw [3] (fun x3 wr => ∃ (k : Nat), x3 = .int .i64 (k : Int) ∧ k ≤ l.length ∧ Hid (∀ i (h : i < l.length), i < k → l[i].length ≤ 600) ∧ Hid (wr = w)) (fun i _ => l.length - (intOf i).toNat)
    case atStart => exact ⟨0, rfl, Nat.zero_le _, Lib.hid (fun _ _ h => absurd h (by omega)), by first | exact Lib.hid rfl | exact Lib.hid trivial⟩
    case round =>
      obtain ⟨k, rfl, hk, HS, HW⟩ := hrel
      obtain rfl := HW.out
      by_cases hlt : k < l.length
      · have hji : (k : Int) < (l.length : Int) := by omega
        obtain ⟨a, rfl, _, _, hcell⟩ := (show TextsIs wr (.slice p0 l.length c0) l from YH.out).some (by omega)
        have hc := hcell k hlt
        have HX : Hid (600 < l[k].length → few l = false) := Lib.hid (fun h => few_no hlt h)
        have HN : Hid (l[k].length ≤ 600 → ∀ i (h : i < l.length), i < k + 1 → l[i].length ≤ 600) := Lib.hid (fun e i h hi => by
          by_cases hik : i < k
          · exact HS.out i h hik
          · obtain rfl : i = k := by omega
            exact e)
        clear hcell
        generalize l[k] = t at *
        by_cases h6 : 600 < t.length
        · have g6 : (600 : Int) < (t.length : Int) := by omega
          have HV := Lib.hid (HX.out h6)
          clear HX HN
          go_wp2_with fail
          go_ret
          exact ⟨by rw [HV.out] <;> rfl, by first | rfl | trivial⟩
        · have g6 : ¬ (600 : Int) < (t.length : Int) := by omega
          have HV := Lib.hid (HN.out (by omega))
          clear HX HN
          go_wp2_with fail
          go_roundw
          case rel => exact ⟨k + 1, by go_num, by omega, HV, by first | exact Lib.hid rfl | exact Lib.hid trivial⟩
          case measure => simp [intOf]; omega
      · have hji : ¬ (k : Int) < (l.length : Int) := by omega
        have HV : Hid (few l = true) := Lib.hid (few_yes (by omega) fun i hi => HS.out i hi (by omega))
        go_wp2_with fail
        go_ret
        exact ⟨by rw [HV.out] <;> rfl, by first | rfl | trivial⟩

theorem few_below (u : Value) (l : Ls) (w : World) (Y : TextsIs w u l) :
    Calls Tryd.prog 9 #[u] w fun e w' => e = .returned (.bool (few l)) ∧ Below w.heap.size w w' :=
  (few_any u l w Y).mono fun _ _ h => ⟨h.1, h.2 ▸ Below.refl _ _⟩

#print axioms few_any
end Go.Proofs.YtbojjbnmjhblfaaDoor.Rp
