/- verb.Upper. -/
import Derived.Test.YtmodmfkcigibpaaDoorVerbRef
import Derived.Test.YtmodmfkcigibpaaDoorFreshSet
import Derived.LoopTactic
import Derived.WalkMore
namespace Go.Proofs.YtmodmfkcigibpaaDoor.Vb
open Go.Proofs.YtmodmfkcigibpaaDoor
open Go.ChangeShapes Go.WideShapes Go.ChangeAt Go.RowKit
set_option maxRecDepth 100000
set_option linter.unusedSimpArgs false

theorem up_at {s : List UInt8} {k : Nat} (hk : k < s.length) (h : k < (upper (s.take k) ++ s.drop k).length) : (upper (s.take k) ++ s.drop k)[k] = s[k] := by
  have e : (upper (s.take k)).length = k := by rw [upper_length, List.length_take]; omega
  rw [List.getElem_append_right (by omega), List.getElem_drop]
  congr 1
  omega
theorem up_set {s : List UInt8} {k : Nat} (hk : k < s.length) : (upper (s.take k) ++ s.drop k).set k (upB s[k]) = upper (s.take (k + 1)) ++ s.drop (k + 1) := by
  have e : (upper (s.take k)).length = k := by rw [upper_length, List.length_take]; omega
  rw [List.set_append_right _ _ (by omega), e, Nat.sub_self, List.drop_eq_getElem_cons hk, List.set_cons_zero, upper_next hk, List.append_assoc]
  rfl
theorem up_stay {s : List UInt8} {k : Nat} (hk : k < s.length) (h : upB s[k] = s[k]) : upper (s.take k) ++ s.drop k = upper (s.take (k + 1)) ++ s.drop (k + 1) := by
  rw [upper_next hk, h, List.drop_eq_getElem_cons hk, List.append_assoc]
  rfl
theorem up_len {s : List UInt8} {k : Nat} (hk : k ≤ s.length) : (upper (s.take k) ++ s.drop k).length = s.length := by
  rw [List.length_append, upper_length, List.length_take, List.length_drop]; omega

set_option maxHeartbeats 4000000 in
set_option maxRecDepth 100000 in
theorem upper_any (s : List UInt8) (hl : s.length ≤ 100000) (w : World) : Calls Tryd.prog 64 #[.string ⟨s.toArray⟩] w fun e w' => e = .returned (.string ⟨(upper s).toArray⟩) ∧ Below w.heap.size w w' := by
  obtain ⟨v, w1, hcv, F1, B1⟩ := conv_bytes w s (by omega)
  obtain ⟨g, cap, rfl, hg⟩ := F1.forms
  obtain ⟨n, hn⟩ : ∃ n, s.length = n := ⟨_, rfl⟩
  rw [hn] at F1 hcv
  go_enter Tryd.func64, Tryd.ntmps64
  go_wp2_with fail
  go_loopw [10] (fun x10 wr => ∃ (k : Nat), x10 = .int .i64 (k : Int) ∧ k ≤ n ∧ FreshIs wr w.heap.size (.slice (some ⟨g, 0, none⟩) n cap) (upper (s.take k) ++ s.drop k) ∧ Hid (Below w.heap.size w wr)) (fun i _ => n - (intOf i).toNat)
  case atStart => exact ⟨0, rfl, Nat.zero_le _, by simpa [upper] using F1, Lib.hid B1⟩
  case round =>
    obtain ⟨k, rfl, hk, F, HB⟩ := hrel
    by_cases hlt : k < n
    · have hks : k < s.length := by omega
      obtain ⟨c, hc⟩ : ∃ c : UInt8, s[k] = c := ⟨_, rfl⟩
      have hkl : k < (upper (s.take k) ++ s.drop k).length := by rw [up_len (by omega)]; exact hks
      obtain ⟨c0, f0⟩ := F.at k hkl
      rw [up_at hks, hc] at c0
      have FS := F.set k hkl (upB c)
      have e1 : (upper (s.take k) ++ s.drop k).set k (upB c) = upper (s.take (k + 1)) ++ s.drop (k + 1) := by rw [← hc]; exact up_set hks
      rw [e1] at FS
      clear e1
      by_cases h1 : 97 ≤ c.toNat
      · by_cases h2 : c.toNat ≤ 122
        · have e := up_value h1 h2
          have g1 : (97 : Int) ≤ (c.toNat : Int) := by omega
          have g2 : (c.toNat : Int) ≤ 122 := by omega
          have E := Lib.hid e
          clear e
          have HF := Lib.hid FS
          clear FS F
          go_wp2_with fail
          go_roundw
          case rel =>
            refine ⟨k + 1, by go_num, by omega, ?_, Lib.hid (HB.out.setCell (by simpa using hg) _)⟩
            have := HF.out
            unfold byteV at this
            rw [← E.out] at this
            exact this
          case measure => simp [intOf]; omega
        · have g1 : (97 : Int) ≤ (c.toNat : Int) := by omega
          have g2 : ¬ (c.toNat : Int) ≤ 122 := by omega
          have HF : FreshIs wr w.heap.size (.slice (some ⟨g, 0, none⟩) n cap) (upper (s.take (k + 1)) ++ s.drop (k + 1)) := by rw [← up_stay hks (by rw [hc]; exact up_same (fun h => h2 h.2))]; exact F
          have HF := Lib.hid HF
          clear FS F
          go_wp2_with fail
          go_roundw
          case rel => exact ⟨k + 1, by go_num, by omega, HF.out, HB⟩
          case measure => simp [intOf]; omega
      · have g1 : ¬ (97 : Int) ≤ (c.toNat : Int) := by omega
        have HF : FreshIs wr w.heap.size (.slice (some ⟨g, 0, none⟩) n cap) (upper (s.take (k + 1)) ++ s.drop (k + 1)) := by rw [← up_stay hks (by rw [hc]; exact up_same (fun h => h1 h.1))]; exact F
        have HF := Lib.hid HF
        clear FS F
        go_wp2_with fail
        go_roundw
        case rel => exact ⟨k + 1, by go_num, by omega, HF.out, HB⟩
        case measure => simp [intOf]; omega
    · have hkn : k = n := by omega
      subst hkn
      have F' : FreshIs wr w.heap.size (.slice (some ⟨g, 0, none⟩) k cap) (upper s) := by
        have := F
        rw [← hn, List.take_length, List.drop_length, List.append_nil] at this
        rw [← hn]; exact this
      have hs := str_of_bytes F'.bytes
      clear F F'
      go_wp2_with fail
      go_ret
      exact ⟨rfl, HB.out⟩

#print axioms upper_any
end Go.Proofs.YtmodmfkcigibpaaDoor.Vb
