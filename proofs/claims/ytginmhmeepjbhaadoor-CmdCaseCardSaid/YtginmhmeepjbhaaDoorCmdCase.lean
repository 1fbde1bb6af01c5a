/- Proved: for every two numbers and every text the law CmdCase of layer 8 answers true. Conditions: none beyond the row's own (the library's variables start as the program's text lays them: the card ties them). -/
import Derived.Test.YtginmhmeepjbhaaDoorCmdAwake
import Derived.BigQuiet
import Derived.Test.YtginmhmeepjbhaaDoorFreshSet
import Derived.Laws.Runes
import Derived.LoopTactic
import Derived.WalkMore

namespace Go.Proofs.YtginmhmeepjbhaaDoor.cmdCase
open Go.Proofs.YtginmhmeepjbhaaDoor Go.Proofs.YtginmhmeepjbhaaDoor.Cm Go.Proofs.YtginmhmeepjbhaaDoor.Vb
open Go.ChangeShapes Go.WideShapes Go.ChangeAt Go.RowKit Go.Sort Go.ChangeMaps

set_option linter.unusedVariables false in
set_option maxHeartbeats 8000000 in
set_option maxRecDepth 100000 in
theorem walk (n0 : Int) (l0 : -9223372036854775808 ≤ n0) (h0 : n0 ≤ 9223372036854775807) (n1 : Int) (l1 : -9223372036854775808 ≤ n1) (h1 : n1 ≤ 9223372036854775807) (s2 : List UInt8) (z2 : s2.length ≤ 9223372036854775807) (w : World)  (E : Env w) :
    Calls Tryd.prog 6 #[.int .i64 n0, .int .i64 n1, str s2] w fun e w' => e = .returned (.bool true) ∧ Below w.heap.size w w' := by
  have HA := Lib.hid (fun W => all_any W)
  by_cases hneg : n0 < 0
  · have B0 := Lib.hid (Below.refl w.heap.size w)
    go_enter Tryd.func6, Tryd.ntmps6
    go_wp2_with (first
          | (go_at_call 9; refine (awake_any _ (E.below (B0.out))).mono ?_; rintro e w1 ⟨rfl, b1⟩; have B1 := Lib.hid (B0.out.trans (b1.mono B0.out.size)))
          | (go_at_call 19; refine (HA.out _).mono ?_; rintro e w2 ⟨p2, c2, rfl, h2, b2⟩; have B2 := Lib.hid (B1.out.trans (b2.mono B1.out.size)); clear h2))
    all_goals (go_ret; exact ⟨by first | rfl | (simp; done) | (simp; omega), B2.out⟩)
  by_cases hover : 36 ≤ n0
  · have B0 := Lib.hid (Below.refl w.heap.size w)
    go_enter Tryd.func6, Tryd.ntmps6
    go_wp2_with (first
          | (go_at_call 9; refine (awake_any _ (E.below (B0.out))).mono ?_; rintro e w1 ⟨rfl, b1⟩; have B1 := Lib.hid (B0.out.trans (b1.mono B0.out.size)))
          | (go_at_call 19; refine (HA.out _).mono ?_; rintro e w2 ⟨p2, c2, rfl, h2, b2⟩; have B2 := Lib.hid (B1.out.trans (b2.mono B1.out.size)); clear h2))
    all_goals (go_ret; exact ⟨by first | rfl | (simp; done) | (simp; omega), B2.out⟩)
  by_cases hs1 : n1 < 0
  · have B0 := Lib.hid (Below.refl w.heap.size w)
    go_enter Tryd.func6, Tryd.ntmps6
    go_wp2_with (first
          | (go_at_call 9; refine (awake_any _ (E.below (B0.out))).mono ?_; rintro e w1 ⟨rfl, b1⟩; have B1 := Lib.hid (B0.out.trans (b1.mono B0.out.size)))
          | (go_at_call 19; refine (HA.out _).mono ?_; rintro e w2 ⟨p2, c2, rfl, h2, b2⟩; have B2 := Lib.hid (B1.out.trans (b2.mono B1.out.size)); clear h2))
    all_goals (go_ret; exact ⟨by first | rfl | (simp; done) | (simp; omega), B2.out⟩)
  by_cases hs2 : 15 < n1
  · have B0 := Lib.hid (Below.refl w.heap.size w)
    go_enter Tryd.func6, Tryd.ntmps6
    go_wp2_with (first
          | (go_at_call 9; refine (awake_any _ (E.below (B0.out))).mono ?_; rintro e w1 ⟨rfl, b1⟩; have B1 := Lib.hid (B0.out.trans (b1.mono B0.out.size)))
          | (go_at_call 19; refine (HA.out _).mono ?_; rintro e w2 ⟨p2, c2, rfl, h2, b2⟩; have B2 := Lib.hid (B1.out.trans (b2.mono B1.out.size)); clear h2))
    all_goals (go_ret; exact ⟨by first | rfl | (simp; done) | (simp; omega), B2.out⟩)
  by_cases hlen : 300 < s2.length
  · have hlen' : (300 : Int) < (s2.length : Int) := by omega
    have B0 := Lib.hid (Below.refl w.heap.size w)
    go_enter Tryd.func6, Tryd.ntmps6
    go_wp2_with (first
          | (go_at_call 9; refine (awake_any _ (E.below (B0.out))).mono ?_; rintro e w1 ⟨rfl, b1⟩; have B1 := Lib.hid (B0.out.trans (b1.mono B0.out.size)))
          | (go_at_call 19; refine (HA.out _).mono ?_; rintro e w2 ⟨p2, c2, rfl, h2, b2⟩; have B2 := Lib.hid (B1.out.trans (b2.mono B1.out.size)); clear h2))
    all_goals (go_ret; exact ⟨by first | rfl | (simp; done) | (simp; omega), B2.out⟩)
  have hlen' : ¬ (300 : Int) < (s2.length : Int) := by omega
  obtain ⟨k, rfl⟩ : ∃ k : Nat, n0 = (k : Int) := ⟨n0.toNat, by omega⟩
  obtain ⟨sm, rfl⟩ : ∃ k : Nat, n1 = (k : Int) := ⟨n1.toNat, by omega⟩
  have hk : k < verbs.length := by rw [verbs_len]; omega
  have hki : (k : Int) < 36 := by omega
  have hmem := List.getElem_mem hk
  have hvl := len_each verbs[k] hmem
  have HLt := Lib.hid (Vb.letters_each verbs[k] hmem)
  have HUN := Lib.hid (up_each verbs[k] hmem)
  have HRD := Lib.hid (fun n (hn : upper n = verbs[k].name) => read_letters (a := s2) hmem hn)
  obtain ⟨vn, vk, va, vp, hv⟩ : ∃ vn vk va vp, verbs[k] = ⟨vn, vk, va, vp⟩ := ⟨_, _, _, _, rfl⟩
  rw [hv] at hvl HLt HUN HRD
  simp only at hvl HLt HUN HRD
  have HV := Lib.hid hv
  clear hv hmem hneg hover hs1
  have hsm : sm ≤ 15 := by omega
  have HM := Lib.hid (fun W => may_any vn s2 (by omega) (by omega) W)
  obtain ⟨qn, hqn⟩ : ∃ q, q = vn ++ [32] := ⟨_, rfl⟩
  obtain ⟨tn, htn⟩ : ∃ t, t = vn ++ 32 :: s2 := ⟨_, rfl⟩
  have hx1 : ByteArray.mk vn.toArray ++ ByteArray.mk #[32] = ⟨qn.toArray⟩ := by rw [hqn]; apply ByteArray.ext; simp [ByteArray.data_append]
  have hx2 : ByteArray.mk qn.toArray ++ ByteArray.mk s2.toArray = ⟨tn.toArray⟩ := by rw [hqn, htn]; apply ByteArray.ext; simp [ByteArray.data_append]
  have hsum1 : ¬ 9223372036854775807 < vn.length + 1 := by omega
  have hsumn : ¬ 9223372036854775807 < qn.length + s2.length := by rw [hqn, List.length_append]; simp <;> omega
  have htnl : tn.length ≤ 1000 := by rw [htn, List.length_append, List.length_cons]; omega
  have HRn := Lib.hid (fun W EW => read_any tn (by omega) W EW)
  have hrn := HRD.out vn HUN.out
  rw [← htn] at hrn
  have HRN := Lib.hid hrn
  clear hrn hqn htn htnl
  have B0 := Lib.hid (Below.refl w.heap.size w)
  go_enter Tryd.func6, Tryd.ntmps6
  go_wp2_with (first
      | (go_at_call 9; refine (awake_any _ (E.below (B0.out))).mono ?_; rintro e w1 ⟨rfl, b1⟩; have B1 := Lib.hid (B0.out.trans (b1.mono B0.out.size)))
      | (go_at_call 19; refine (HA.out _).mono ?_; rintro e w2 ⟨p2, c2, rfl, h2, b2⟩; have B2 := Lib.hid (B1.out.trans (b2.mono B1.out.size)); obtain ⟨b, o, rfl, hb, hx⟩ := verbs_open h2; clear hx; have V2 := Lib.hid (fun w' (hw : Below w2.heap.size w2 w') => (verbs_at (h2.call hw) k hk).1); obtain ⟨q0, q1, q2, q3⟩ := verbs_at h2 k hk; rw [HV.out] at q0; simp only at q0; clear q1 q2 q3; obtain ⟨x3, w3, hcv, hf3, b3⟩ := conv_bytes w2 vn (by omega); obtain ⟨g3, cap3, rfl, hg3⟩ := hf3.forms; have F3 := Lib.hid hf3; have B3 := Lib.hid b3; clear h2 hf3 b3))
  clear hcv q0
  go_loopw [1, 10] (fun x1 x10 wr => ∃ (j m : Nat) (l : List UInt8), x1 = .int .i64 (m : Int) ∧ x10 = .int .i64 (j : Int) ∧ m ≤ 15 ∧ j ≤ vn.length ∧ l.length = vn.length ∧ Hid (upper l = vn) ∧ Hid (∀ i (h : i < l.length) (h' : i < vn.length), j ≤ i → l[i] = vn[i]) ∧ Hid (FreshIs wr w2.heap.size (.slice (some ⟨g3, 0, none⟩) vn.length cap3) l) ∧ Hid (Below w2.heap.size w2 wr)) (fun _ i _ => vn.length - (intOf i).toNat)
  case atStart => exact ⟨0, sm, vn, rfl, rfl, hsm, Nat.zero_le _, rfl, HUN, Lib.hid (fun _ _ _ _ => rfl), F3, B3⟩
  case round =>
    obtain ⟨j, m, l, rfl, rfl, hm, hj, hll, HUL, HRest, HF, HB⟩ := hrel
    by_cases hlt : j < vn.length
    · have hjl : j < l.length := by omega
      obtain ⟨hc, hfz⟩ := HF.out.at j hjl
      have he : l[j] = vn[j] := HRest.out j hjl hlt (Nat.le_refl _)
      have hlet := HLt.out vn[j] (List.getElem_mem hlt)
      have hji : (j : Int) < (vn.length : Int) := by omega
      rw [he] at hc
      have hup : ∀ c : UInt8, upB c = vn[j] → upper (l.set j c) = vn := fun c h => by
        have h0 := HUL.out
        unfold upper at h0 ⊢
        rw [List.map_set, h0, h]
        exact List.set_getElem_self hlt
      have HUP := Lib.hid hup
      have HLJ := Lib.hid he
      clear hup he
      generalize vn[j] = c at *
      by_cases hodd : m % 2 = 1
      · have d1 : ((m : Int) % 2 == 1) = true := by simp; omega
        have e32 : byteV (c + 32) = .int .u8 ((c.toNat : Int) + 32) := by
          unfold byteV
          rw [(up_big hlet.1 hlet.2).1]
          rfl
        have HF2 := HF.out.set j hjl (c + 32)
        rw [e32] at HF2
        have F2 := Lib.hid HF2
        have U2 := Lib.hid (HUP.out (c + 32) (up_big hlet.1 hlet.2).2)
        have R2 : Hid (∀ i (h : i < (l.set j (c + 32)).length) (h' : i < vn.length), j + 1 ≤ i → (l.set j (c + 32))[i] = vn[i]) := Lib.hid (fun i h h' hi => by
          rw [List.getElem_set_ne (by omega)]
          exact HRest.out i (by rw [List.length_set] at h; exact h) h' (by omega))
        clear HF2 e32 hodd
        go_wp2_with fail
        go_roundw
        case rel => exact ⟨j + 1, m / 2, l.set j (c + 32), by simp, by go_num, by omega, by omega, by rw [List.length_set]; exact hll, U2, R2, F2, Lib.hid (HB.out.setCell hg3 _)⟩
        case measure => simp [intOf]; omega
      · have d1 : ((m : Int) % 2 == 1) = false := by simp; omega
        have U2 : Hid (upper l = vn) := Lib.hid (by
          have h0 := HUP.out c (up_letter hlet.1 hlet.2)
          rw [← HLJ.out, List.set_getElem_self hjl] at h0
          exact h0)
        have R2 : Hid (∀ i (h : i < l.length) (h' : i < vn.length), j + 1 ≤ i → l[i] = vn[i]) := Lib.hid (fun i h h' hi => HRest.out i h h' (by omega))
        clear hodd
        go_wp2_with fail
        go_roundw
        case rel => exact ⟨j + 1, m / 2, l, by simp, by go_num, by omega, by omega, hll, U2, R2, HF, HB⟩
        case measure => simp [intOf]; omega
    · obtain rfl : j = vn.length := by omega
      obtain ⟨ql, hql⟩ : ∃ q, q = l ++ [32] := ⟨_, rfl⟩
      obtain ⟨tl, htl⟩ : ∃ t, t = l ++ 32 :: s2 := ⟨_, rfl⟩
      have hx3 : ByteArray.mk l.toArray ++ ByteArray.mk #[32] = ⟨ql.toArray⟩ := by rw [hql]; apply ByteArray.ext; simp [ByteArray.data_append]
      have hx4 : ByteArray.mk ql.toArray ++ ByteArray.mk s2.toArray = ⟨tl.toArray⟩ := by rw [hql, htl]; apply ByteArray.ext; simp [ByteArray.data_append]
      have hsum2 : ¬ 9223372036854775807 < l.length + 1 := by omega
      have hsuml : ¬ 9223372036854775807 < ql.length + s2.length := by rw [hql, List.length_append]; simp <;> omega
      have htll : tl.length ≤ 1000 := by rw [htl, List.length_append, List.length_cons]; omega
      have HRl := Lib.hid (fun W EW => read_any tl (by omega) W EW)
      have hrl := HRD.out l HUL.out
      rw [← htl] at hrl
      have B4 : Hid (Below w.heap.size w wr) := Lib.hid (B2.out.trans (HB.out.mono B2.out.size))
      have q0 : wr.cell? ⟨b, o + k * 4, none⟩ = some (.string ⟨vn.toArray⟩) := by
        have h := V2.out wr HB.out
        rw [HV.out] at h
        exact h
      have hbr : b < wr.heap.size := World.block_lt_of_cell? wr _ q0
      have QV := Lib.hid q0
      have HFl : Hid (∀ w', Below wr.heap.size wr w' → (convert 39 9 (.slice (some ⟨g3, 0, none⟩) vn.length cap3)).run Tryd.prog w' = .ok (.string ⟨l.toArray⟩) w') := Lib.hid (fun w' hw => str_of_bytes (HF.out.call hw).bytes)
      have HLL := Lib.hid hll
      clear hql htl htll HUL HRest HF HRD HLt HUN hvl V2 hll
      cases hm0 : may vn s2 with
      | true =>
        rw [hm0] at HM
        have hrn := HRN.out
        rw [hm0] at hrn hrl
        rw [show read tn = ((vn, s2), 0) from hrn] at HRn
        rw [show read tl = ((vn, s2), 0) from hrl] at HRl
        simp only at HRn HRl
        clear hrn hrl HRN hm0
        have eqs : ∀ W, (Op.equalIn 10000 23 (.agg #[.string ⟨vn.toArray⟩, .string ⟨s2.toArray⟩]) (.agg #[.string ⟨vn.toArray⟩, .string ⟨s2.toArray⟩])).run Tryd.prog W = .ok true W := fun W => by
          have := equal_cmds vn s2 vn s2 W
          rw [decide_eq_true ⟨rfl, rfl⟩] at this
          exact this
        go_wp2_with (first
            | (go_at_call 13; refine (HRn.out _ (E.below (B4.out))).mono ?_; rintro e w5 ⟨rfl, b5⟩; have B5 := Lib.hid (B4.out.trans (b5.mono B4.out.size)); clear HRn; have BR := b5.alloc b5.size (.cells #[.string ⟨vn.toArray⟩, .string ⟨s2.toArray⟩] 23); have hcv := HFl.out _ BR; clear BR)
            | (go_at_call 13; refine (HRl.out _ (E.below ((B5.out).alloc B5.out.size (.cells #[.string ⟨vn.toArray⟩, .string ⟨s2.toArray⟩] 23)))).mono ?_; rintro e w6 ⟨rfl, b6⟩; have B6 := Lib.hid (((B5.out).alloc B5.out.size (.cells #[.string ⟨vn.toArray⟩, .string ⟨s2.toArray⟩] 23)).trans (b6.mono (by have := B5.out.size; simp <;> omega))); have c6 := Lib.hid ((IsRow.made w5 23 #[.string ⟨vn.toArray⟩, .string ⟨s2.toArray⟩]).call b6); have cc0 : w6.cell? ⟨w5.heap.size, 0, none⟩ = some (.string ⟨vn.toArray⟩) := c6.out.cell 0; have cc1 : w6.cell? ⟨w5.heap.size, 1, none⟩ = some (.string ⟨s2.toArray⟩) := c6.out.cell 1; have clt : w5.heap.size < w6.heap.size := c6.out.lt; clear HRl; have BQ := Lib.hid ((b5.alloc b5.size (.cells #[.string ⟨vn.toArray⟩, .string ⟨s2.toArray⟩] 23)).trans (b6.mono (by have := b5.size; simp <;> omega))); have q6 : w6.cell? ⟨b, o + k * 4, none⟩ = some (.string ⟨vn.toArray⟩) := (BQ.out.cell (p := ⟨b, o + k * 4, none⟩) hbr).trans QV.out; have hb6 : b < w6.heap.size := World.block_lt_of_cell? w6 _ q6)
            | (go_at_call 16; refine (HM.out _).mono ?_; rintro e w7 ⟨rfl, b7⟩; have B7 := Lib.hid (((B6.out).alloc B6.out.size (.cells #[.string ⟨vn.toArray⟩, .string ⟨s2.toArray⟩] 23)).trans (b7.mono (by have := B6.out.size; simp <;> omega))); have c7 := Lib.hid ((c6.out.alloc (.cells #[.string ⟨vn.toArray⟩, .string ⟨s2.toArray⟩] 23)).call b7); have d7 := Lib.hid ((IsRow.made w6 23 #[.string ⟨vn.toArray⟩, .string ⟨s2.toArray⟩]).call b7); clear cc0 cc1 clt; clear c6))
        all_goals (go_ret; exact ⟨by first | rfl | (simp; done), B7.out⟩)
      | false =>
        rw [hm0] at HM
        have hrn := HRN.out
        rw [hm0] at hrn hrl
        obtain ⟨xe, hxe⟩ : ∃ xe : Int, xe = if clean s2 = true then 1 else 2 := ⟨_, rfl⟩
        have gx : ((xe : Int) == 0) = false := by rw [hxe]; cases clean s2 <;> rfl
        rw [show read tn = (([], []), xe) from by rw [hxe]; exact hrn] at HRn
        rw [show read tl = (([], []), xe) from by rw [hxe]; exact hrl] at HRl
        simp only at HRn HRl
        clear hrn hrl HRN hm0 hxe
        have eqn : ∀ W, (Op.equalIn 10000 23 (.agg #[.string ⟨#[]⟩, .string ⟨#[]⟩]) (.agg #[.string ⟨#[]⟩, .string ⟨#[]⟩])).run Tryd.prog W = .ok true W := fun W => by
          have := equal_cmds [] [] [] [] W
          rw [decide_eq_true ⟨rfl, rfl⟩] at this
          exact this
        go_wp2_with (first
            | (go_at_call 13; refine (HRn.out _ (E.below (B4.out))).mono ?_; rintro e w5 ⟨rfl, b5⟩; have B5 := Lib.hid (B4.out.trans (b5.mono B4.out.size)); clear HRn; have BR := b5.alloc b5.size (.cells #[.string ⟨#[]⟩, .string ⟨#[]⟩] 23); have hcv := HFl.out _ BR; clear BR)
            | (go_at_call 13; refine (HRl.out _ (E.below ((B5.out).alloc B5.out.size (.cells #[.string ⟨#[]⟩, .string ⟨#[]⟩] 23)))).mono ?_; rintro e w6 ⟨rfl, b6⟩; have B6 := Lib.hid (((B5.out).alloc B5.out.size (.cells #[.string ⟨#[]⟩, .string ⟨#[]⟩] 23)).trans (b6.mono (by have := B5.out.size; simp <;> omega))); have c6 := Lib.hid ((IsRow.made w5 23 #[.string ⟨#[]⟩, .string ⟨#[]⟩]).call b6); have cc0 : w6.cell? ⟨w5.heap.size, 0, none⟩ = some (.string ⟨#[]⟩) := c6.out.cell 0; have cc1 : w6.cell? ⟨w5.heap.size, 1, none⟩ = some (.string ⟨#[]⟩) := c6.out.cell 1; have clt : w5.heap.size < w6.heap.size := c6.out.lt; clear HRl; have BQ := Lib.hid ((b5.alloc b5.size (.cells #[.string ⟨#[]⟩, .string ⟨#[]⟩] 23)).trans (b6.mono (by have := b5.size; simp <;> omega))); have q6 : w6.cell? ⟨b, o + k * 4, none⟩ = some (.string ⟨vn.toArray⟩) := (BQ.out.cell (p := ⟨b, o + k * 4, none⟩) hbr).trans QV.out; have hb6 : b < w6.heap.size := World.block_lt_of_cell? w6 _ q6)
            | (go_at_call 16; refine (HM.out _).mono ?_; rintro e w7 ⟨rfl, b7⟩; have B7 := Lib.hid (((B6.out).alloc B6.out.size (.cells #[.string ⟨#[]⟩, .string ⟨#[]⟩] 23)).trans (b7.mono (by have := B6.out.size; simp <;> omega))); have c7 := Lib.hid ((c6.out.alloc (.cells #[.string ⟨#[]⟩, .string ⟨#[]⟩] 23)).call b7); have d7 := Lib.hid ((IsRow.made w6 23 #[.string ⟨#[]⟩, .string ⟨#[]⟩]).call b7); clear cc0 cc1 clt; clear c6))
        all_goals (go_ret; exact ⟨by first | rfl | (simp; done), B7.out⟩)

set_option maxRecDepth 100000 in
theorem lifted (os : Os) (started : os.Started) (H : Type) (enc : TypeId × Value → H) :
    ReturnsInHanded {} Tryd.checked os 6 .any (fun w args => (Rows.cmdCaseSpec.pre enc Tryd.prog Tryd.f6 [] false w args ∧ laidMetH Tryd.prog laidHere w) ∧ sizedMet enc Tryd.prog Tryd.f6 (OpenSpec.ofChange Rows.cmdCaseSpec) false w args)
      (Rows.cmdCaseSpec.post enc Tryd.prog Tryd.f6 false true false false) := by
  refine handed started (by kernel_rfl) Tryd.func6 #[.int .i64 0, .int .i64 0, .string ⟨#[]⟩] (by kernel_rfl) (by kernel_rfl) (by kernel_rfl) (World.shaped_of_ZipB (by kernel_rfl) (by kernel_rfl)) ?_
  intro W base args ds gs before hval0 hW E
  have hval : ∀ (j : Nat) t v, Tryd.f6.params[j]? = some t → args[j]? = some v → Value.okWide Tryd.prog W .any base t v := hval0
  have hW' := hW
  obtain ⟨p, q, hA0, hV, rfl, _, _⟩ := hW
  have hA : DataW.TrodAll enc Tryd.prog W 0 (fun _ => true) true Tryd.f6.params.toList args.toList ds p := hA0
  rw [Tryd.params6] at hA hval
  obtain ⟨v0, vs0, d0, ds0, p0, q0, hargs, rfl, rfl, r0, t0⟩ := trodAll_cons hA
  obtain ⟨v1, vs1, d1, ds1, p1, q1, rfl, rfl, rfl, r1, t1⟩ := trodAll_cons t0
  obtain ⟨v2, vs2, d2, ds2, p2, q2, rfl, rfl, rfl, r2, t2⟩ := trodAll_cons t1
  obtain ⟨rfl, rfl, rfl⟩ := trodAll_nil t2
  obtain rfl : args = #[v0, v1, v2] := by cases args; simp_all
  obtain ⟨rfl, rfl⟩ := trodVars_none hV
  obtain ⟨n0, rfl, rfl, rfl, w0⟩ := open_int Tryd.underlying3 (hval 0 3 v0 rfl rfl) r0
  obtain ⟨n1, rfl, rfl, rfl, w1⟩ := open_int Tryd.underlying3 (hval 1 3 v1 rfl rfl) r1
  obtain ⟨x2, rfl, rfl, rfl, w2⟩ := open_string Tryd.underlying9 (hval 2 9 v2 rfl rfl) r2
  obtain ⟨s2, rfl⟩ : ∃ l : List UInt8, x2 = ⟨l.toArray⟩ := ⟨x2.data.toList, by simp⟩
  clear hA0 hval0
  simp only [List.append_nil] at hW'
  refine (walk n0 (int_wf w0).1 (int_wf w0).2 n1 (int_wf w1).1 (int_wf w1).2 s2 (by have := w2; rw [size_mk] at this; unfold maxLen at this; exact this) W  E).mono fun e W' ⟨he, hb⟩ => ?_
  subst he
  exact ⟨_, rfl, told hW' (fun _ _ _ => trodAll_cons_mk (shut_bool Tryd.underlying4 _) trodAll_mk0) (trodAll_cons_mk (shut_int Tryd.underlying3 w0) (trodAll_cons_mk (shut_int Tryd.underlying3 w1) (trodAll_cons_mk (shut_string Tryd.underlying9 w2) trodAll_mk0))) (fun _ => rfl) hb⟩

theorem over : Rows.CmdCaseSaid :=
  OpenClaim.holds_of_wide 6 Tryd.f6 rfl rfl rfl rfl rfl rfl rfl ⟨rfl, rfl, rfl, rfl, rfl⟩ rfl rfl rfl rfl rfl (by kernel_rfl) Tryd.func6 (by kernel_rfl)
    (of_decide_eq_true (by kernel_rfl)) (by unfold Func.isWrapper; first | (rw [if_pos (by decide +kernel)]; kernel_rfl) | (rw [if_neg (by decide +kernel)]; exact ⟨rfl, rfl⟩))
    (fun os started H enc _ => lifted os started H enc)

theorem proved : Rows.CmdCaseCardSaid :=
  Claim7.holds_tied_plain_at .later [] Rows.cmdCaseCard.laidKinds true Rows.cmdCaseCard.stood.harness Rows.cmdCaseCard.stood.looks
    over (fun _ h => by cases h) (by kernel_rfl) (fun _ h => by cases h) cmdCase_row_tie rfl ⟨rfl, rfl⟩ (by kernel_rfl) rfl
    (fun f fn hf hfn => by
      obtain rfl : f = 6 := Option.some.inj ((show Tryd.prog.funcNamed "wharfinger/wharfingerlaw08.CmdCase" = some 6 by kernel_rfl).symm.trans hf) |>.symm
      obtain rfl : fn = Tryd.f6 := (Option.some.inj (Tryd.func6.symm.trans hfn)).symm
      exact ⟨by kernel_rfl, fun j t ht => by
        rw [Tryd.params6] at ht
        have hm : t ∈ [3, 3, 9] := by simpa using Array.mem_of_getElem? ht
        have hall : ([3, 3, 9].all fun u => !Tryd.prog.wantsStandIn u) = true := by kernel_rfl
        exact (show Tryd.prog.wantsStandIn t = false by simpa using List.all_eq_true.1 hall t hm)⟩)
    (by kernel_rfl)
#print axioms proved
end Go.Proofs.YtginmhmeepjbhaaDoor.cmdCase
