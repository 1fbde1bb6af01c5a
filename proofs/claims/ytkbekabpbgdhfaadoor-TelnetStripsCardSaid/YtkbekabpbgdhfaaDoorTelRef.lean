/- The contracts of the document's answer of layer 5: wharfingerref05.Strip, Escape. -/
import Derived.Test.YtkbekabpbgdhfaaDoorTelRepl
namespace Go.Proofs.YtkbekabpbgdhfaaDoor.Tel
open Go.Proofs.YtkbekabpbgdhfaaDoor
open Go.ChangeShapes Go.WideShapes Go.ChangeAt Go.RowKit Go.Sort
set_option linter.unusedSimpArgs false

set_option maxHeartbeats 4000000 in
set_option maxRecDepth 100000 in
/-- the document's Strip behind the first test: from a state that is one -/
theorem rstrip_any (st : Int) (v0 : Value) (l : List UInt8) (hl : l.length ≤ 1000000) (w : World) (hv : BytesIs w v0 l) :
    Calls Tryd.prog 10 #[.int .i64 st, v0] w (StripPost st l w) := by
  obtain ⟨p, cp, rfl⟩ := hv.form
  have HV := Lib.hid hv
  clear hv
  unfold StripPost
  have hle := norm_le st
  have E : (st < 0 ∧ norm st = 0) ∨ (2 < st ∧ norm st = 0) ∨ ((norm st : Int) = st ∧ 0 ≤ st ∧ st ≤ 2) := by
    by_cases h0 : st < 0
    · exact Or.inl ⟨h0, norm_out (Or.inl h0)⟩
    · by_cases h2 : 2 < st
      · exact Or.inr (Or.inl ⟨h2, norm_out (Or.inr h2)⟩)
      · exact Or.inr (Or.inr ⟨norm_in (by omega) (by omega), by omega, by omega⟩)
  generalize hn : norm st = s0 at *
  clear hn
  rcases E with ⟨h0, rfl⟩ | ⟨h2, rfl⟩ | ⟨rfl, h0, h2⟩
  · skip
    go_enter Tryd.func10, Tryd.ntmps10
    go_wp2_with fail
    go_loopw [0, 7, 8, 9] (fun x0 x7 x8 x9 wr => ∃ (k s n : Nat) (out : List UInt8) (v : Value), x0 = .int .i64 (s : Int) ∧ x7 = v ∧ x8 = .int .i64 (n : Int) ∧ x9 = .int .i64 (k : Int) ∧ k ≤ l.length ∧ Hid (run 0 (l.take k) = (s, out, n)) ∧ s ≤ 2 ∧ n ≤ k ∧ out.length ≤ k ∧ wr.ownsRow w.heap.size 5 1 v out.length (out.map byteV) ∧ Below w.heap.size w wr) (fun _ _ _ i _ => l.length - (intOf i).toNat)
    case atStart => exact ⟨0, 0, 0, [], .slice none 0 0, by first | rfl | simp, rfl, rfl, rfl, Nat.zero_le _, Lib.hid (by simp [run]), by omega, Nat.le_refl _, Nat.le_refl _, World.ownsRow_nil _ _ _ _, Below.refl _ _⟩
    case round =>
      obtain ⟨k, s, n, out, v, rfl, rfl, rfl, rfl, hk, HR, hs2, hnk, hok, hown, hb⟩ := hrel
      by_cases hlt : k < l.length
      · have hne : l ≠ [] := by intro e; subst e; simp at hlt
        obtain ⟨a, rfl, hal, hcell⟩ := bytes_some HV.out hne
        have hc : wr.cell? (a.add k) = some (.int .u8 (l[k].toNat : Int)) := by rw [hb.cell (by rw [add_block]; exact hal)]; exact hcell k hlt
        have HN : Hid (run 0 (l.take (k + 1)) = ((step s l[k]).1, out ++ (step s l[k]).2.1, n + (step s l[k]).2.2)) := by
          have := run_next (s := 0) hlt
          rw [HR.out] at this
          exact this
        clear HR hcell hal hne
        generalize l[k] = c at *
        have hss : s = 0 ∨ s = 1 ∨ s = 2 := by omega
        rcases hss with rfl | rfl | rfl
        · by_cases h255 : c = 255
          · subst h255
            have hs : run 0 (l.take (k + 1)) = (1, out, n) := by rw [HN.out, show step 0 255 = (1, [], 0) from by decide]; simp
            have HS := Lib.hid hs
            clear hs HN
            go_wp2_with fail
            go_roundw
            case rel => exact ⟨k + 1, 1, n, out, _, by first | rfl | go_num, rfl, by first | rfl | go_num, by go_num, by omega, HS, by omega, by omega, by omega, hown, hb⟩
            case measure => simp [intOf]; omega
          · have q255 : ((c.toNat : Int) == 255) = false := byte_ne h255
            have hs : run 0 (l.take (k + 1)) = (0, out ++ [c], n) := by rw [HN.out, show step 0 c = (0, [c], 0) from by simp [step, h255]]; simp
            have HS := Lib.hid hs
            clear hs HN
            have hsz := hb.size
            go_wp2_with (at_builtin; refine wpList_append_bytes rfl _ _ rfl w.heap.size _ out rfl (hown.alloc _) _ [c] rfl (bytes_new _ [c] (by show 1 ≤ maxLen; decide)) ?c1 ?c2 ?_)
            case c1 => simp; omega
            case c2 => simp; omega
            intro v' w1 hown' hg
            have hb' : Below w.heap.size w w1 := (hb.alloc hb.size _).grown hg (by have := hb.size; simp; omega) (own_ge hown)
            clear hown hg hb
            go_wp2_with fail
            go_roundw
            case rel => exact ⟨k + 1, 0, n, out ++ [c], v', by first | rfl | go_num, rfl, by first | rfl | go_num, by go_num, by omega, HS, by omega, by omega, by simp; omega, by simpa using hown', hb'⟩
            case measure => simp [intOf]; omega
        · by_cases h255 : c = 255
          · subst h255
            have hs : run 0 (l.take (k + 1)) = (0, out ++ [255], n) := by rw [HN.out, show step 1 255 = (0, [255], 0) from by decide]; simp
            have HS := Lib.hid hs
            clear hs HN
            have hsz := hb.size
            go_wp2_with (at_builtin; refine wpList_append_bytes rfl _ _ rfl w.heap.size _ out rfl (hown.alloc _) _ [255] rfl (bytes_new _ [255] (by show 1 ≤ maxLen; decide)) ?c1 ?c2 ?_)
            case c1 => simp; omega
            case c2 => simp; omega
            intro v' w1 hown' hg
            have hb' : Below w.heap.size w w1 := (hb.alloc hb.size _).grown hg (by have := hb.size; simp; omega) (own_ge hown)
            clear hown hg hb
            go_wp2_with fail
            go_roundw
            case rel => exact ⟨k + 1, 0, n, out ++ [255], v', by first | rfl | go_num, rfl, by first | rfl | go_num, by go_num, by omega, HS, by omega, by omega, by simp; omega, by simpa using hown', hb'⟩
            case measure => simp [intOf]; omega
          · by_cases hw : 251 ≤ c.toNat ∧ c.toNat ≤ 254
            · obtain ⟨hw1, hw2⟩ := hw
              have q255 : ((c.toNat : Int) == 255) = false := byte_ne h255
              have h242 : c ≠ 242 := by intro e; subst e; revert hw1; decide
              have q242 : ((c.toNat : Int) == 242) = false := byte_ne h242
              have g1 : (251 : Int) ≤ (c.toNat : Int) := by omega
              have g2 : (c.toNat : Int) ≤ 254 := by omega
              have hs : run 0 (l.take (k + 1)) = (2, out, n) := by rw [HN.out, show step 1 c = (2, [], 0) from by simp [step, h255, hw1, hw2, h242]]; simp
              have HS := Lib.hid hs
              clear hs HN
              go_wp2_with fail
              go_roundw
              case rel => exact ⟨k + 1, 2, n, out, _, by first | rfl | go_num, rfl, by first | rfl | go_num, by go_num, by omega, HS, by omega, by omega, by omega, hown, hb⟩
              case measure => simp [intOf]; omega
            · by_cases h242 : c = 242
              · subst h242
                have hs : run 0 (l.take (k + 1)) = (0, out, (n + 1)) := by rw [HN.out, show step 1 242 = (0, [], 1) from by decide]; simp
                have HS := Lib.hid hs
                clear hs HN
                go_wp2_with fail
                go_roundw
                case rel => exact ⟨k + 1, 0, (n + 1), out, _, by first | rfl | go_num, rfl, by first | rfl | go_num, by go_num, by omega, HS, by omega, by omega, by omega, hown, hb⟩
                case measure => simp [intOf]; omega
              · have hx : ¬ (251 : Int) ≤ (c.toNat : Int) ∨ ((251 : Int) ≤ (c.toNat : Int) ∧ ¬ (c.toNat : Int) ≤ 254) := by omega
                rcases hx with g1 | ⟨g1, g2⟩
                · have q255 : ((c.toNat : Int) == 255) = false := byte_ne h255
                  have q242 : ((c.toNat : Int) == 242) = false := byte_ne h242
                  have hs : run 0 (l.take (k + 1)) = (0, out, n) := by rw [HN.out, show step 1 c = (0, [], 0) from by simp [step, h255, hw, h242]]; simp
                  have HS := Lib.hid hs
                  clear hs HN
                  go_wp2_with fail
                  go_roundw
                  case rel => exact ⟨k + 1, 0, n, out, _, by first | rfl | go_num, rfl, by first | rfl | go_num, by go_num, by omega, HS, by omega, by omega, by omega, hown, hb⟩
                  case measure => simp [intOf]; omega
                · have q255 : ((c.toNat : Int) == 255) = false := byte_ne h255
                  have q242 : ((c.toNat : Int) == 242) = false := byte_ne h242
                  have hs : run 0 (l.take (k + 1)) = (0, out, n) := by rw [HN.out, show step 1 c = (0, [], 0) from by simp [step, h255, hw, h242]]; simp
                  have HS := Lib.hid hs
                  clear hs HN
                  go_wp2_with fail
                  go_roundw
                  case rel => exact ⟨k + 1, 0, n, out, _, by first | rfl | go_num, rfl, by first | rfl | go_num, by go_num, by omega, HS, by omega, by omega, by omega, hown, hb⟩
                  case measure => simp [intOf]; omega
        · have hs : run 0 (l.take (k + 1)) = (0, out, n) := by rw [HN.out, show step 2 c = (0, [], 0) from by simp [step]]; simp
          have HS := Lib.hid hs
          clear hs HN
          go_wp2_with fail
          go_roundw
          case rel => exact ⟨k + 1, 0, n, out, _, by first | rfl | go_num, rfl, by first | rfl | go_num, by go_num, by omega, HS, by omega, by omega, by omega, hown, hb⟩
          case measure => simp [intOf]; omega
      · obtain rfl : k = l.length := by omega
        rw [List.take_length] at HR
        obtain ⟨p', c', rfl⟩ := own_form hown
        have OB := Lib.hid (bytes_of_own hown)
        have HB := Lib.hid hb
        clear hown hb
        go_wp2_with fail
        try go_region
        go_wp2_with fail
        go_ret3
        refine ⟨.slice p' out.length c', ?_, ?_, ?_⟩
        · rw [HR.out]; rfl
        · rw [HR.out]; exact OB.out
        · first | exact HB.out | exact HB.out.drew
  · have h0 : ¬ st < 0 := by omega
    go_enter Tryd.func10, Tryd.ntmps10
    go_wp2_with fail
    go_loopw [0, 7, 8, 9] (fun x0 x7 x8 x9 wr => ∃ (k s n : Nat) (out : List UInt8) (v : Value), x0 = .int .i64 (s : Int) ∧ x7 = v ∧ x8 = .int .i64 (n : Int) ∧ x9 = .int .i64 (k : Int) ∧ k ≤ l.length ∧ Hid (run 0 (l.take k) = (s, out, n)) ∧ s ≤ 2 ∧ n ≤ k ∧ out.length ≤ k ∧ wr.ownsRow w.heap.size 5 1 v out.length (out.map byteV) ∧ Below w.heap.size w wr) (fun _ _ _ i _ => l.length - (intOf i).toNat)
    case atStart => exact ⟨0, 0, 0, [], .slice none 0 0, by first | rfl | simp, rfl, rfl, rfl, Nat.zero_le _, Lib.hid (by simp [run]), by omega, Nat.le_refl _, Nat.le_refl _, World.ownsRow_nil _ _ _ _, Below.refl _ _⟩
    case round =>
      obtain ⟨k, s, n, out, v, rfl, rfl, rfl, rfl, hk, HR, hs2, hnk, hok, hown, hb⟩ := hrel
      by_cases hlt : k < l.length
      · have hne : l ≠ [] := by intro e; subst e; simp at hlt
        obtain ⟨a, rfl, hal, hcell⟩ := bytes_some HV.out hne
        have hc : wr.cell? (a.add k) = some (.int .u8 (l[k].toNat : Int)) := by rw [hb.cell (by rw [add_block]; exact hal)]; exact hcell k hlt
        have HN : Hid (run 0 (l.take (k + 1)) = ((step s l[k]).1, out ++ (step s l[k]).2.1, n + (step s l[k]).2.2)) := by
          have := run_next (s := 0) hlt
          rw [HR.out] at this
          exact this
        clear HR hcell hal hne
        generalize l[k] = c at *
        have hss : s = 0 ∨ s = 1 ∨ s = 2 := by omega
        rcases hss with rfl | rfl | rfl
        · by_cases h255 : c = 255
          · subst h255
            have hs : run 0 (l.take (k + 1)) = (1, out, n) := by rw [HN.out, show step 0 255 = (1, [], 0) from by decide]; simp
            have HS := Lib.hid hs
            clear hs HN
            go_wp2_with fail
            go_roundw
            case rel => exact ⟨k + 1, 1, n, out, _, by first | rfl | go_num, rfl, by first | rfl | go_num, by go_num, by omega, HS, by omega, by omega, by omega, hown, hb⟩
            case measure => simp [intOf]; omega
          · have q255 : ((c.toNat : Int) == 255) = false := byte_ne h255
            have hs : run 0 (l.take (k + 1)) = (0, out ++ [c], n) := by rw [HN.out, show step 0 c = (0, [c], 0) from by simp [step, h255]]; simp
            have HS := Lib.hid hs
            clear hs HN
            have hsz := hb.size
            go_wp2_with (at_builtin; refine wpList_append_bytes rfl _ _ rfl w.heap.size _ out rfl (hown.alloc _) _ [c] rfl (bytes_new _ [c] (by show 1 ≤ maxLen; decide)) ?c1 ?c2 ?_)
            case c1 => simp; omega
            case c2 => simp; omega
            intro v' w1 hown' hg
            have hb' : Below w.heap.size w w1 := (hb.alloc hb.size _).grown hg (by have := hb.size; simp; omega) (own_ge hown)
            clear hown hg hb
            go_wp2_with fail
            go_roundw
            case rel => exact ⟨k + 1, 0, n, out ++ [c], v', by first | rfl | go_num, rfl, by first | rfl | go_num, by go_num, by omega, HS, by omega, by omega, by simp; omega, by simpa using hown', hb'⟩
            case measure => simp [intOf]; omega
        · by_cases h255 : c = 255
          · subst h255
            have hs : run 0 (l.take (k + 1)) = (0, out ++ [255], n) := by rw [HN.out, show step 1 255 = (0, [255], 0) from by decide]; simp
            have HS := Lib.hid hs
            clear hs HN
            have hsz := hb.size
            go_wp2_with (at_builtin; refine wpList_append_bytes rfl _ _ rfl w.heap.size _ out rfl (hown.alloc _) _ [255] rfl (bytes_new _ [255] (by show 1 ≤ maxLen; decide)) ?c1 ?c2 ?_)
            case c1 => simp; omega
            case c2 => simp; omega
            intro v' w1 hown' hg
            have hb' : Below w.heap.size w w1 := (hb.alloc hb.size _).grown hg (by have := hb.size; simp; omega) (own_ge hown)
            clear hown hg hb
            go_wp2_with fail
            go_roundw
            case rel => exact ⟨k + 1, 0, n, out ++ [255], v', by first | rfl | go_num, rfl, by first | rfl | go_num, by go_num, by omega, HS, by omega, by omega, by simp; omega, by simpa using hown', hb'⟩
            case measure => simp [intOf]; omega
          · by_cases hw : 251 ≤ c.toNat ∧ c.toNat ≤ 254
            · obtain ⟨hw1, hw2⟩ := hw
              have q255 : ((c.toNat : Int) == 255) = false := byte_ne h255
              have h242 : c ≠ 242 := by intro e; subst e; revert hw1; decide
              have q242 : ((c.toNat : Int) == 242) = false := byte_ne h242
              have g1 : (251 : Int) ≤ (c.toNat : Int) := by omega
              have g2 : (c.toNat : Int) ≤ 254 := by omega
              have hs : run 0 (l.take (k + 1)) = (2, out, n) := by rw [HN.out, show step 1 c = (2, [], 0) from by simp [step, h255, hw1, hw2, h242]]; simp
              have HS := Lib.hid hs
              clear hs HN
              go_wp2_with fail
              go_roundw
              case rel => exact ⟨k + 1, 2, n, out, _, by first | rfl | go_num, rfl, by first | rfl | go_num, by go_num, by omega, HS, by omega, by omega, by omega, hown, hb⟩
              case measure => simp [intOf]; omega
            · by_cases h242 : c = 242
              · subst h242
                have hs : run 0 (l.take (k + 1)) = (0, out, (n + 1)) := by rw [HN.out, show step 1 242 = (0, [], 1) from by decide]; simp
                have HS := Lib.hid hs
                clear hs HN
                go_wp2_with fail
                go_roundw
                case rel => exact ⟨k + 1, 0, (n + 1), out, _, by first | rfl | go_num, rfl, by first | rfl | go_num, by go_num, by omega, HS, by omega, by omega, by omega, hown, hb⟩
                case measure => simp [intOf]; omega
              · have hx : ¬ (251 : Int) ≤ (c.toNat : Int) ∨ ((251 : Int) ≤ (c.toNat : Int) ∧ ¬ (c.toNat : Int) ≤ 254) := by omega
                rcases hx with g1 | ⟨g1, g2⟩
                · have q255 : ((c.toNat : Int) == 255) = false := byte_ne h255
                  have q242 : ((c.toNat : Int) == 242) = false := byte_ne h242
                  have hs : run 0 (l.take (k + 1)) = (0, out, n) := by rw [HN.out, show step 1 c = (0, [], 0) from by simp [step, h255, hw, h242]]; simp
                  have HS := Lib.hid hs
                  clear hs HN
                  go_wp2_with fail
                  go_roundw
                  case rel => exact ⟨k + 1, 0, n, out, _, by first | rfl | go_num, rfl, by first | rfl | go_num, by go_num, by omega, HS, by omega, by omega, by omega, hown, hb⟩
                  case measure => simp [intOf]; omega
                · have q255 : ((c.toNat : Int) == 255) = false := byte_ne h255
                  have q242 : ((c.toNat : Int) == 242) = false := byte_ne h242
                  have hs : run 0 (l.take (k + 1)) = (0, out, n) := by rw [HN.out, show step 1 c = (0, [], 0) from by simp [step, h255, hw, h242]]; simp
                  have HS := Lib.hid hs
                  clear hs HN
                  go_wp2_with fail
                  go_roundw
                  case rel => exact ⟨k + 1, 0, n, out, _, by first | rfl | go_num, rfl, by first | rfl | go_num, by go_num, by omega, HS, by omega, by omega, by omega, hown, hb⟩
                  case measure => simp [intOf]; omega
        · have hs : run 0 (l.take (k + 1)) = (0, out, n) := by rw [HN.out, show step 2 c = (0, [], 0) from by simp [step]]; simp
          have HS := Lib.hid hs
          clear hs HN
          go_wp2_with fail
          go_roundw
          case rel => exact ⟨k + 1, 0, n, out, _, by first | rfl | go_num, rfl, by first | rfl | go_num, by go_num, by omega, HS, by omega, by omega, by omega, hown, hb⟩
          case measure => simp [intOf]; omega
      · obtain rfl : k = l.length := by omega
        rw [List.take_length] at HR
        obtain ⟨p', c', rfl⟩ := own_form hown
        have OB := Lib.hid (bytes_of_own hown)
        have HB := Lib.hid hb
        clear hown hb
        go_wp2_with fail
        try go_region
        go_wp2_with fail
        go_ret3
        refine ⟨.slice p' out.length c', ?_, ?_, ?_⟩
        · rw [HR.out]; rfl
        · rw [HR.out]; exact OB.out
        · first | exact HB.out | exact HB.out.drew
  · have h0' : ¬ (s0 : Int) < 0 := by omega
    have h2' : ¬ (2 : Int) < (s0 : Int) := by omega
    go_enter Tryd.func10, Tryd.ntmps10
    go_wp2_with fail
    go_loopw [0, 7, 8, 9] (fun x0 x7 x8 x9 wr => ∃ (k s n : Nat) (out : List UInt8) (v : Value), x0 = .int .i64 (s : Int) ∧ x7 = v ∧ x8 = .int .i64 (n : Int) ∧ x9 = .int .i64 (k : Int) ∧ k ≤ l.length ∧ Hid (run s0 (l.take k) = (s, out, n)) ∧ s ≤ 2 ∧ n ≤ k ∧ out.length ≤ k ∧ wr.ownsRow w.heap.size 5 1 v out.length (out.map byteV) ∧ Below w.heap.size w wr) (fun _ _ _ i _ => l.length - (intOf i).toNat)
    case atStart => exact ⟨0, s0, 0, [], .slice none 0 0, by first | rfl | simp, rfl, rfl, rfl, Nat.zero_le _, Lib.hid (by simp [run]), by omega, Nat.le_refl _, Nat.le_refl _, World.ownsRow_nil _ _ _ _, Below.refl _ _⟩
    case round =>
      obtain ⟨k, s, n, out, v, rfl, rfl, rfl, rfl, hk, HR, hs2, hnk, hok, hown, hb⟩ := hrel
      by_cases hlt : k < l.length
      · have hne : l ≠ [] := by intro e; subst e; simp at hlt
        obtain ⟨a, rfl, hal, hcell⟩ := bytes_some HV.out hne
        have hc : wr.cell? (a.add k) = some (.int .u8 (l[k].toNat : Int)) := by rw [hb.cell (by rw [add_block]; exact hal)]; exact hcell k hlt
        have HN : Hid (run s0 (l.take (k + 1)) = ((step s l[k]).1, out ++ (step s l[k]).2.1, n + (step s l[k]).2.2)) := by
          have := run_next (s := s0) hlt
          rw [HR.out] at this
          exact this
        clear HR hcell hal hne
        generalize l[k] = c at *
        have hss : s = 0 ∨ s = 1 ∨ s = 2 := by omega
        rcases hss with rfl | rfl | rfl
        · by_cases h255 : c = 255
          · subst h255
            have hs : run s0 (l.take (k + 1)) = (1, out, n) := by rw [HN.out, show step 0 255 = (1, [], 0) from by decide]; simp
            have HS := Lib.hid hs
            clear hs HN
            go_wp2_with fail
            go_roundw
            case rel => exact ⟨k + 1, 1, n, out, _, by first | rfl | go_num, rfl, by first | rfl | go_num, by go_num, by omega, HS, by omega, by omega, by omega, hown, hb⟩
            case measure => simp [intOf]; omega
          · have q255 : ((c.toNat : Int) == 255) = false := byte_ne h255
            have hs : run s0 (l.take (k + 1)) = (0, out ++ [c], n) := by rw [HN.out, show step 0 c = (0, [c], 0) from by simp [step, h255]]; simp
            have HS := Lib.hid hs
            clear hs HN
            have hsz := hb.size
            go_wp2_with (at_builtin; refine wpList_append_bytes rfl _ _ rfl w.heap.size _ out rfl (hown.alloc _) _ [c] rfl (bytes_new _ [c] (by show 1 ≤ maxLen; decide)) ?c1 ?c2 ?_)
            case c1 => simp; omega
            case c2 => simp; omega
            intro v' w1 hown' hg
            have hb' : Below w.heap.size w w1 := (hb.alloc hb.size _).grown hg (by have := hb.size; simp; omega) (own_ge hown)
            clear hown hg hb
            go_wp2_with fail
            go_roundw
            case rel => exact ⟨k + 1, 0, n, out ++ [c], v', by first | rfl | go_num, rfl, by first | rfl | go_num, by go_num, by omega, HS, by omega, by omega, by simp; omega, by simpa using hown', hb'⟩
            case measure => simp [intOf]; omega
        · by_cases h255 : c = 255
          · subst h255
            have hs : run s0 (l.take (k + 1)) = (0, out ++ [255], n) := by rw [HN.out, show step 1 255 = (0, [255], 0) from by decide]; simp
            have HS := Lib.hid hs
            clear hs HN
            have hsz := hb.size
            go_wp2_with (at_builtin; refine wpList_append_bytes rfl _ _ rfl w.heap.size _ out rfl (hown.alloc _) _ [255] rfl (bytes_new _ [255] (by show 1 ≤ maxLen; decide)) ?c1 ?c2 ?_)
            case c1 => simp; omega
            case c2 => simp; omega
            intro v' w1 hown' hg
            have hb' : Below w.heap.size w w1 := (hb.alloc hb.size _).grown hg (by have := hb.size; simp; omega) (own_ge hown)
            clear hown hg hb
            go_wp2_with fail
            go_roundw
            case rel => exact ⟨k + 1, 0, n, out ++ [255], v', by first | rfl | go_num, rfl, by first | rfl | go_num, by go_num, by omega, HS, by omega, by omega, by simp; omega, by simpa using hown', hb'⟩
            case measure => simp [intOf]; omega
          · by_cases hw : 251 ≤ c.toNat ∧ c.toNat ≤ 254
            · obtain ⟨hw1, hw2⟩ := hw
              have q255 : ((c.toNat : Int) == 255) = false := byte_ne h255
              have h242 : c ≠ 242 := by intro e; subst e; revert hw1; decide
              have q242 : ((c.toNat : Int) == 242) = false := byte_ne h242
              have g1 : (251 : Int) ≤ (c.toNat : Int) := by omega
              have g2 : (c.toNat : Int) ≤ 254 := by omega
              have hs : run s0 (l.take (k + 1)) = (2, out, n) := by rw [HN.out, show step 1 c = (2, [], 0) from by simp [step, h255, hw1, hw2, h242]]; simp
              have HS := Lib.hid hs
              clear hs HN
              go_wp2_with fail
              go_roundw
              case rel => exact ⟨k + 1, 2, n, out, _, by first | rfl | go_num, rfl, by first | rfl | go_num, by go_num, by omega, HS, by omega, by omega, by omega, hown, hb⟩
              case measure => simp [intOf]; omega
            · by_cases h242 : c = 242
              · subst h242
                have hs : run s0 (l.take (k + 1)) = (0, out, (n + 1)) := by rw [HN.out, show step 1 242 = (0, [], 1) from by decide]; simp
                have HS := Lib.hid hs
                clear hs HN
                go_wp2_with fail
                go_roundw
                case rel => exact ⟨k + 1, 0, (n + 1), out, _, by first | rfl | go_num, rfl, by first | rfl | go_num, by go_num, by omega, HS, by omega, by omega, by omega, hown, hb⟩
                case measure => simp [intOf]; omega
              · have hx : ¬ (251 : Int) ≤ (c.toNat : Int) ∨ ((251 : Int) ≤ (c.toNat : Int) ∧ ¬ (c.toNat : Int) ≤ 254) := by omega
                rcases hx with g1 | ⟨g1, g2⟩
                · have q255 : ((c.toNat : Int) == 255) = false := byte_ne h255
                  have q242 : ((c.toNat : Int) == 242) = false := byte_ne h242
                  have hs : run s0 (l.take (k + 1)) = (0, out, n) := by rw [HN.out, show step 1 c = (0, [], 0) from by simp [step, h255, hw, h242]]; simp
                  have HS := Lib.hid hs
                  clear hs HN
                  go_wp2_with fail
                  go_roundw
                  case rel => exact ⟨k + 1, 0, n, out, _, by first | rfl | go_num, rfl, by first | rfl | go_num, by go_num, by omega, HS, by omega, by omega, by omega, hown, hb⟩
                  case measure => simp [intOf]; omega
                · have q255 : ((c.toNat : Int) == 255) = false := byte_ne h255
                  have q242 : ((c.toNat : Int) == 242) = false := byte_ne h242
                  have hs : run s0 (l.take (k + 1)) = (0, out, n) := by rw [HN.out, show step 1 c = (0, [], 0) from by simp [step, h255, hw, h242]]; simp
                  have HS := Lib.hid hs
                  clear hs HN
                  go_wp2_with fail
                  go_roundw
                  case rel => exact ⟨k + 1, 0, n, out, _, by first | rfl | go_num, rfl, by first | rfl | go_num, by go_num, by omega, HS, by omega, by omega, by omega, hown, hb⟩
                  case measure => simp [intOf]; omega
        · have hs : run s0 (l.take (k + 1)) = (0, out, n) := by rw [HN.out, show step 2 c = (0, [], 0) from by simp [step]]; simp
          have HS := Lib.hid hs
          clear hs HN
          go_wp2_with fail
          go_roundw
          case rel => exact ⟨k + 1, 0, n, out, _, by first | rfl | go_num, rfl, by first | rfl | go_num, by go_num, by omega, HS, by omega, by omega, by omega, hown, hb⟩
          case measure => simp [intOf]; omega
      · obtain rfl : k = l.length := by omega
        rw [List.take_length] at HR
        obtain ⟨p', c', rfl⟩ := own_form hown
        have OB := Lib.hid (bytes_of_own hown)
        have HB := Lib.hid hb
        clear hown hb
        go_wp2_with fail
        try go_region
        go_wp2_with fail
        go_ret3
        refine ⟨.slice p' out.length c', ?_, ?_, ?_⟩
        · rw [HR.out]; rfl
        · rw [HR.out]; exact OB.out
        · first | exact HB.out | exact HB.out.drew

set_option maxHeartbeats 4000000 in
set_option maxRecDepth 100000 in
theorem rescape_any (v0 : Value) (l : List UInt8) (hl : l.length ≤ 1000000) (w : World) (hv : BytesIs w v0 l) :
    Calls Tryd.prog 12 #[v0] w (EscPost l w) := by
  obtain ⟨p, cp, rfl⟩ := hv.form
  have HV := Lib.hid hv
  clear hv
  go_enter Tryd.func12, Tryd.ntmps12
  go_wp2_with fail
  go_loopw [3, 4] (fun x3 x4 wr => ∃ (k : Nat) (out : List UInt8) (v : Value), x3 = v ∧ x4 = .int .i64 (k : Int) ∧ k ≤ l.length ∧ Hid (out = esc (l.take k)) ∧ out.length ≤ 2 * k ∧ wr.ownsRow w.heap.size 5 1 v out.length (out.map byteV) ∧ Below w.heap.size w wr) (fun _ i _ => l.length - (intOf i).toNat)
  case atStart => exact ⟨0, [], .slice none 0 0, rfl, rfl, Nat.zero_le _, Lib.hid (by simp [esc]), Nat.le_refl _, World.ownsRow_nil _ _ _ _, Below.refl _ _⟩
  case round =>
    obtain ⟨k, out, v, rfl, rfl, hk, HR, hok, hown, hb⟩ := hrel
    by_cases hlt : k < l.length
    · have hne : l ≠ [] := by intro e; subst e; simp at hlt
      obtain ⟨a, rfl, hal, hcell⟩ := bytes_some HV.out hne
      have hc0 : wr.cell? (a.add k) = some (.int .u8 (l[k].toNat : Int)) := by rw [hb.cell (by rw [add_block]; exact hal)]; exact hcell k hlt
      have HC := Lib.hid hc0
      have HN : Hid (esc (l.take (k + 1)) = out ++ (if l[k] = 255 then [l[k], l[k]] else [l[k]])) := by
        have := esc_next hlt
        rw [← HR.out] at this
        exact this
      have hsz := hb.size
      have hablk : (a.add k).block < wr.heap.size := by rw [add_block]; omega
      clear HR hcell hne
      generalize l[k] = c at *
      go_wp2_with (at_builtin; refine wpList_append_bytes rfl _ _ rfl w.heap.size _ out rfl (hown.alloc _) _ [c] rfl (bytes_new _ [c] (by show 1 ≤ maxLen; decide)) ?c1 ?c2 ?_)
      case c1 => simp; omega
      case c2 => simp; omega
      intro v1 w1 hown1 hg
      have hb1 : Below w.heap.size w w1 := (hb.alloc hb.size _).grown hg (by simp; omega) (own_ge hown)
      have hsz1 := hb1.size
      have hc1 : w1.cell? (a.add k) = some (.int .u8 (c.toNat : Int)) := by
        rw [hb1.cell (by rw [add_block]; exact hal)]
        rw [← hb.cell (w' := wr) (by rw [add_block]; exact hal)]
        exact HC.out
      have hown1' : w1.ownsRow w.heap.size 5 1 v1 (out ++ [c]).length ((out ++ [c]).map byteV) := by simpa using hown1
      clear hown hg hb hc0 hown1
      by_cases h255 : c = 255
      · subst h255
        have HS : Hid (out ++ [255] ++ [255] = esc (l.take (k + 1))) := Lib.hid (by rw [HN.out]; simp)
        clear HN
        go_wp2_with (at_builtin; refine wpList_append_bytes rfl _ _ rfl w.heap.size _ (out ++ [255]) rfl (hown1'.alloc _) _ [255] rfl (bytes_new _ [255] (by show 1 ≤ maxLen; decide)) ?d1 ?d2 ?_)
        case d1 => simp; omega
        case d2 => simp; omega
        intro v2 w2 hown2 hg2
        have hb2 : Below w.heap.size w w2 := (hb1.alloc hb1.size _).grown hg2 (by simp; omega) (own_ge hown1')
        have hown2' : w2.ownsRow w.heap.size 5 1 v2 (out ++ [255] ++ [255]).length ((out ++ [255] ++ [255]).map byteV) := by simpa using hown2
        clear hown1' hg2 hb1 hown2
        go_wp2_with fail
        go_roundw
        case rel => exact ⟨k + 1, out ++ [255] ++ [255], v2, rfl, by go_num, by omega, HS, by simp; omega, hown2', hb2⟩
        case measure => simp [intOf]; omega
      · have q255 : ((c.toNat : Int) == 255) = false := byte_ne h255
        have HS : Hid (out ++ [c] = esc (l.take (k + 1))) := Lib.hid (by rw [HN.out, if_neg h255])
        clear HN
        go_wp2_with fail
        go_roundw
        case rel => exact ⟨k + 1, out ++ [c], v1, rfl, by go_num, by omega, HS, by simp; omega, hown1', hb1⟩
        case measure => simp [intOf]; omega
    · obtain rfl : k = l.length := by omega
      rw [List.take_length] at HR
      obtain ⟨p', c', rfl⟩ := own_form hown
      have OB := Lib.hid (bytes_of_own hown)
      have HB := Lib.hid hb
      clear hown hb
      go_wp2_with fail
      go_ret
      exact ⟨_, rfl, by rw [← HR.out]; exact OB.out, HB.out⟩

#print axioms rescape_any
end Go.Proofs.YtkbekabpbgdhfaaDoor.Tel
