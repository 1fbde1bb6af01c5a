/- Package hole: one more, one less, whether two lists are the same (gen-hole-slices.py). -/
import Derived.Test.YtaahghjllfkmaaaHoleOwn
import Derived.Test.YtaahghjllfkmaaaHoleSlices
namespace Go.Proofs.Ytaahghjllfkmaaa.Hl
open Go.Proofs.Ytaahghjllfkmaaa
open Go Go.ChangeShapes Go.WideShapes Go.ChangeAt Go.RowKit
set_option maxRecDepth 100000
set_option linter.unusedSimpArgs false
set_option linter.unusedVariables false

set_option maxHeartbeats 4000000 in
theorem take_any (port : Int) (q : Pe) (now : Int) (x : Ho) (w : World) : Calls Try.prog 33 #[.agg #[.int .i64 port, .int .u8 q.a, .int .u8 q.b, .int .u8 q.c, .int .u8 q.d, .int .i64 now], holeV x] w fun e w' => e = .returned (.bool (hit port q now x)) ∧ Below w.heap.size w w' := by
  have HM : Hid (hit port q now x = ((x.port == port) && (eqP (peer x) q && decide (now < x.dead)))) := Lib.hid rfl
  generalize hit port q now x = m at HM ⊢
  have B0 := Lib.hid (((Below.refl w.heap.size w).alloc (Nat.le_refl _) (.cells #[.int .i64 port, .int .u8 q.a, .int .u8 q.b, .int .u8 q.c, .int .u8 q.d, .int .i64 now] 55)).alloc (by simp) (.cells #[.int .i64 x.port, .int .i64 x.sess, .int .i64 x.ten, .int .u8 x.a, .int .u8 x.b, .int .u8 x.c, .int .u8 x.d, .int .u8 x.e, .int .u8 x.f, .int .u8 x.g, .int .u8 x.h, .int .i64 x.tport, .int .i64 x.dead] 28))
  have HC := Lib.hid (fun W => over_any now x W)
  cases h1 : (x.port == port) with
  | false =>
    have HV : Hid (m = false) := Lib.hid (by rw [HM.out, h1] <;> rfl)
    go_enter Try.func33, Try.ntmps33
    go_wp2_with fail
    go_ret
    exact ⟨by rw [HV.out] <;> rfl, B0.out⟩
  | true =>
    cases h2 : eqP (peer x) q with
    | false =>
      have heq : ∀ W, (Op.equalIn 10000 24 (.agg #[.int .u8 x.a, .int .u8 x.b, .int .u8 x.c, .int .u8 x.d]) (.agg #[.int .u8 q.a, .int .u8 q.b, .int .u8 q.c, .int .u8 q.d])).run Try.prog W = .ok false W := fun W => by have := equal_peers (peer x) q W; rw [h2] at this; exact this
      have HV : Hid (m = false) := Lib.hid (by rw [HM.out, h1, h2] <;> rfl)
      go_enter Try.func33, Try.ntmps33
      go_wp2_with fail
      go_ret
      exact ⟨by rw [HV.out] <;> rfl, B0.out⟩
    | true =>
      have heq : ∀ W, (Op.equalIn 10000 24 (.agg #[.int .u8 x.a, .int .u8 x.b, .int .u8 x.c, .int .u8 x.d]) (.agg #[.int .u8 q.a, .int .u8 q.b, .int .u8 q.c, .int .u8 q.d])).run Try.prog W = .ok true W := fun W => by have := equal_peers (peer x) q W; rw [h2] at this; exact this
      cases h3 : decide (now < x.dead) with
      | false =>
        rw [h3] at HC
        have HV : Hid (m = false) := Lib.hid (by rw [HM.out, h1, h2, h3] <;> rfl)
        go_enter Try.func33, Try.ntmps33
        go_wp2_with (go_at_call 35; refine (HC.out _).mono ?_; rintro e w1 ⟨rfl, b1⟩; have B1 := Lib.hid (B0.out.trans (b1.mono (by simp <;> omega))); clear HC b1)
        go_ret
        exact ⟨by rw [HV.out] <;> rfl, B1.out⟩
      | true =>
        rw [h3] at HC
        have HV : Hid (m = true) := Lib.hid (by rw [HM.out, h1, h2, h3] <;> rfl)
        go_enter Try.func33, Try.ntmps33
        go_wp2_with (go_at_call 35; refine (HC.out _).mono ?_; rintro e w1 ⟨rfl, b1⟩; have B1 := Lib.hid (B0.out.trans (b1.mono (by simp <;> omega))); clear HC b1)
        go_ret
        exact ⟨by rw [HV.out] <;> rfl, B1.out⟩

/-- the place of the one that is matched, or -1 -/
def place (l : List Ho) (p : Int) (q : Pe) (now : Int) : Int := match l.findIdx? (hit p q now) with
  | some i => (i : Int)
  | none => -1
theorem place_none {l : List Ho} {p : Int} {q : Pe} {now : Int} (h : ∀ j (hj : j < l.length), hit p q now l[j] = false) : place l p q now = -1 := by
  unfold place
  rw [List.findIdx?_eq_none_iff.2 (fun x hx => by obtain ⟨j, hj, rfl⟩ := List.getElem_of_mem hx; exact h j hj)]
theorem place_at {l : List Ho} {p : Int} {q : Pe} {now : Int} {i : Nat} (hi : i < l.length) (h : hit p q now l[i] = true) (hn : ∀ j (hj : j < l.length), j < i → hit p q now l[j] = false) : place l p q now = (i : Int) := by
  unfold place
  have : l.findIdx? (hit p q now) = some i := List.findIdx?_eq_some_iff_getElem.2 ⟨hi, h, fun j hj => by rw [hn j (by omega) hj]; decide⟩
  rw [this]
set_option maxHeartbeats 4000000 in
theorem place_any (u : Value) (l : List Ho) (port : Int) (q : Pe) (now : Int) (w : World) (H : HolesIs w u l) :
    Calls Try.prog 32 #[u, .func (.func 33) #[.agg #[.int .i64 port, .int .u8 q.a, .int .u8 q.b, .int .u8 q.c, .int .u8 q.d, .int .i64 now]] #[]] w fun e w' => e = .returned (.int .i64 (place l port q now)) ∧ Below w.heap.size w w' := by
  have hmax := H.max
  obtain ⟨p, n, c, rfl, hn⟩ := H.form
  have HN := Lib.hid hn
  have HR := Lib.hid H
  rw [← hn] at hmax
  clear hn H
  have HE : Hid ((∀ j (hj : j < l.length), hit port q now l[j] = false) → place l port q now = -1) := Lib.hid place_none
  have HA : Hid (∀ i (hi : i < l.length), hit port q now l[i] = true → (∀ j (hj : j < l.length), j < i → hit port q now l[j] = false) → place l port q now = (i : Int)) := Lib.hid (fun i hi h hn => place_at hi h hn)
  generalize place l port q now = z at *
  go_enter Try.func32, Try.ntmps32
  go_wp2_with fail
  go_loopw [8] (fun x8 wr => ∃ (k : Nat), x8 = .int .i64 (k : Int) ∧ k ≤ n ∧ Hid (∀ j (hj : j < l.length), j < k → hit port q now l[j] = false) ∧ Hid (Below w.heap.size w wr)) (fun i _ => n - (intOf i).toNat)
  case atStart => exact ⟨0, rfl, Nat.zero_le _, Lib.hid (fun j _ h => absurd h (Nat.not_lt_zero j)), Lib.hid (Below.refl _ _)⟩
  case round =>
    obtain ⟨k, rfl, hk, HO, HB⟩ := hrel
    by_cases hlt : k < n
    · have hji : (k : Int) < (n : Int) := by omega
      have HK : Hid (k + 1 ≤ n) := Lib.hid hlt
      have hkl : k < l.length := by rw [← HN.out]; exact hlt
      obtain ⟨b1, o1, rfl, hb1, hc1⟩ := (HR.out.call HB.out).some (by omega)
      have T1 := hc1 k hkl
      have a0 := T1.c0; have a1 := T1.c1; have a2 := T1.c2; have a3 := T1.c3; have a4 := T1.c4; have a5 := T1.c5; have a6 := T1.c6; have a7 := T1.c7; have a8 := T1.c8; have a9 := T1.c9; have a10 := T1.c10; have a11 := T1.c11; have a12 := T1.c12
      have HAK := Lib.hid (fun h => HA.out k hkl h HO.out)
      have HNK : Hid (hit port q now l[k] = false → ∀ j (hj : j < l.length), j < k + 1 → hit port q now l[j] = false) := Lib.hid (fun h j hj hjk => by
        by_cases e : j = k
        · subst e; exact h
        · exact HO.out j hj (by omega))
      clear T1 hc1
      generalize l[k] = x at *
      have HC := Lib.hid (fun W => take_any port q now x W)
      cases h1 : hit port q now x with
      | true =>
        have HV := Lib.hid (HAK.out h1)
        rw [h1] at HC
        clear HAK HNK h1
        go_wp2_with (go_at_call 33; refine (HC.out _).mono ?_; rintro e w1 ⟨rfl, b1⟩; have B1 := Lib.hid (HB.out.trans (b1.mono HB.out.size)); clear HC b1)
        go_ret
        exact ⟨by rw [HV.out] <;> rfl, B1.out⟩
      | false =>
        have HV := Lib.hid (HNK.out h1)
        rw [h1] at HC
        clear HAK HNK h1
        go_wp2_with (go_at_call 33; refine (HC.out _).mono ?_; rintro e w1 ⟨rfl, b1⟩; have B1 := Lib.hid (HB.out.trans (b1.mono HB.out.size)); clear HC b1)
        go_roundw
        case rel => exact ⟨k + 1, by go_num, HK.out, HV, B1⟩
        case measure => have := HK.out; simp [intOf]; omega
    · have hji : ¬ (k : Int) < (n : Int) := by omega
      have HV := Lib.hid (HE.out (fun j hj => HO.out j hj (by have := HN.out; omega)))
      clear HA HE
      go_wp2_with fail
      go_ret
      exact ⟨by rw [HV.out] <;> rfl, HB.out⟩

theorem hsame_any (u v : Value) (l m : List Ho) (w : World) (H : HolesIs w u l) (H' : HolesIs w v m) :
    Calls Try.prog 24 #[u, v] w fun e w' => e = .returned (.bool (sameL l m)) ∧ Below w.heap.size w w' := by
  have HC := Lib.hid (equal_any u v l m w H H')
  go_enter Try.func24, Try.ntmps24
  go_wp2_with (go_at_call 39; refine HC.out.mono ?_; rintro e w1 ⟨rfl, b1⟩; have B1 := Lib.hid b1; clear HC b1)
  go_ret
  exact ⟨rfl, B1.out⟩

theorem kept_len {base : Nat} {w : World} {p : Option Addr} {n c : Nat} {l : List Ho} {t : Int} (h : OwnHoles base w (.slice p n c) (l.filter (fun x => x.ten == t))) : n = tens l t := by
  obtain ⟨p', n', c', e, hn⟩ := h.form
  injection e with _ e2 _
  rw [e2, hn]; rfl
theorem own_lower {b b' : Nat} {w : World} {v : Value} {l : List Ho} (h : OwnHoles b w v l) (hb : b' ≤ b) : OwnHoles b' w v l := by
  refine ⟨h.1, ?_⟩
  rcases h.2 with h' | ⟨g, cap, cur, rfl, hg, hh, hr⟩
  · exact Or.inl h'
  · exact Or.inr ⟨g, cap, cur, rfl, Nat.le_trans hb hg, hh, hr⟩
theorem pair_row (w : World) (o : Obj) (u v : Value) : IsRow ((w.alloc o).alloc (.cells #[u, v] 22)) (w.heap.size + 1) 22 #[u, v] := by
  have h := IsRow.made (w.alloc o) 22 #[u, v]
  rw [World.size_alloc] at h
  exact h
theorem ports_has (l : List Ho) (p : Int) : (ports l).contains p = has l p := by
  unfold ports has
  rw [Bool.eq_iff_iff, List.contains_iff_mem, List.any_eq_true, List.mem_map]
  constructor
  · rintro ⟨x, h1, h2⟩; exact ⟨x, h1, by rw [beq_iff_eq]; exact h2⟩
  · rintro ⟨x, h1, h2⟩; exact ⟨x, h1, beq_iff_eq.1 h2⟩
set_option maxHeartbeats 8000000 in
theorem hgrant_any (u : Value) (l : List Ho) (q : Ho) (most : Int) (hl : l.length ≤ 99999) (w : World) (H : HolesIs w u l) :
    Calls Try.prog 12 #[u, holeV q, .int .i64 most] w fun e w' => (∃ p n c, e = .returned (.tuple #[.slice p n c, .int .i64 (grant l q most).2]) ∧ OwnHoles w.heap.size w' (.slice p n c) (grant l q most).1) ∧ Below w.heap.size w w' := by
  have hl : l.length ≤ 100000 := by omega
  obtain ⟨p, n, c, rfl, hn⟩ := H.form
  have HN := Lib.hid hn
  have HR := Lib.hid H
  have HL := Lib.hid hl
  have hn9 : n ≤ 100000 := by omega
  clear hn H hl
  have HMy := Lib.hid (fun W => hmay_any q W)
  have C0 := Lib.hid (IsRow.made w 28 #[.int .i64 q.port, .int .i64 q.sess, .int .i64 q.ten, .int .u8 q.a, .int .u8 q.b, .int .u8 q.c, .int .u8 q.d, .int .u8 q.e, .int .u8 q.f, .int .u8 q.g, .int .u8 q.h, .int .i64 q.tport, .int .i64 q.dead])
  have B0 := Lib.hid ((Below.refl w.heap.size w).alloc (Nat.le_refl _) (.cells #[.int .i64 q.port, .int .i64 q.sess, .int .i64 q.ten, .int .u8 q.a, .int .u8 q.b, .int .u8 q.c, .int .u8 q.d, .int .u8 q.e, .int .u8 q.f, .int .u8 q.g, .int .u8 q.h, .int .i64 q.tport, .int .i64 q.dead] 28))
  cases hm : mayH q with
  | false =>
    have HV : Hid (grant l q most = ([], 1)) := Lib.hid (by unfold grant; rw [hm]; rfl)
    rw [hm] at HMy
    clear hm
    generalize grant l q most = z at *
    go_enter Try.func12, Try.ntmps12
    go_wp2_with (first
      | (go_at_call 23; refine (HMy.out _).mono ?_; rintro e w1 ⟨rfl, b1⟩; have B1 := Lib.hid (B0.out.trans (b1.mono B0.out.size)); have C1 := Lib.hid (C0.out.call b1); have c2 := C1.out.cell 2; have c0 := C1.out.cell 0; have cl := C1.out.lt; clear HMy b1))
    refine bodyPost_ret (v := .tuple #[.slice none 0 0, .int .i64 1]) (by simp [results, Try.results12, go_sem]) rfl ?_
    exact ⟨⟨none, 0, 0, by rw [HV.out], by rw [HV.out]; exact OwnHoles.nil _ _⟩, B1.out⟩
  | true =>
    have HF : Hid ((has l q.port = true ∨ most ≤ (tens l q.ten : Int)) → grant l q most = ([], 4)) := Lib.hid (fun h => by
      rcases grant_ways l q most with ⟨h1, _⟩ | ⟨_, _, e⟩ | ⟨_, h2, h3, _⟩
      · rw [hm] at h1; cases h1
      · exact e
      · rcases h with h | h
        · rw [h2] at h; cases h
        · exact absurd h h3)
    have HG : Hid (has l q.port = false → ¬ most ≤ (tens l q.ten : Int) → grant l q most = (l ++ [q], 0)) := Lib.hid (fun h h' => by
      rcases grant_ways l q most with ⟨h1, _⟩ | ⟨_, h2, _⟩ | ⟨_, _, _, e⟩
      · rw [hm] at h1; cases h1
      · rcases h2 with h2 | h2
        · rw [h] at h2; cases h2
        · exact absurd h2 h'
      · exact e)
    rw [hm] at HMy
    clear hm
    generalize grant l q most = z at *
    have HP0 := ports_has l q.port
    cases hp : has l q.port with
    | true =>
      have HV := Lib.hid (HF.out (Or.inl hp))
      have hP := Lib.hid (HP0.trans hp)
      clear hp HP0 HF HG
      go_enter Try.func12, Try.ntmps12
      go_wp2_with (first
        | (go_at_call 23; refine (HMy.out _).mono ?_; rintro e w1 ⟨rfl, b1⟩; have B1 := Lib.hid (B0.out.trans (b1.mono B0.out.size)); have C1 := Lib.hid (C0.out.call b1); have c2 := C1.out.cell 2; have c0 := C1.out.cell 0; have cl := C1.out.lt; clear HMy b1)
        | (go_at_call 28; refine (kept_has (.slice p n c) l q.ten HL.out w1 (HR.out.call B1.out)).mono ?_; rintro e w2 ⟨⟨p2, n2, c2', rfl, o2⟩, b2⟩; have N2 := Lib.hid (kept_len o2); have B2 := Lib.hid (B1.out.trans (b2.mono B1.out.size)); have C2 := Lib.hid (C1.out.call b2); clear c2 c0 cl; have c0 := C2.out.cell 0; have cl := C2.out.lt; have o9 := o2; clear o2 b2 o9))
      have BL := Lib.hid (show Below w.heap.size w w2.drew from B2.out.trans ⟨rfl, rfl, rfl, Nat.le_refl _, fun _ _ => rfl⟩)
      clear N2
      first
      | go_region_held (fun w' => w'.cell? ⟨w.heap.size, 0, none⟩ = some (.int .i64 q.port)) (first | go_keep | exact K3 | exact K4) (first
          | (go_simp; go_at_call 21; refine (hports_any (.slice p n c) l HL.out _ (HR.out.call BL.out)).mono ?_; rintro e w3 ⟨⟨p3, n3, c3, rfl, i3⟩, b3⟩; have K3 := (C2.out.drew.call b3).cell 0; have C3 := Lib.hid (C2.out.drew.call b3); have BP := Lib.hid (BL.out.trans (b3.mono BL.out.size)); have I3 := Lib.hid i3; clear i3 b3)
          | (go_simp; go_at_call 30; refine (contains_any (.slice p3 n3 c3) (ports l) q.port _ hP.out w3 I3.out).mono ?_; rintro e w4 ⟨rfl, b4⟩; have K4 : w4.cell? ⟨w.heap.size, 0, none⟩ = some (.int .i64 q.port) := (b4.cell (p := ⟨w.heap.size, 0, none⟩) (World.block_lt_of_cell? w3 _ K3)).trans K3; have BQ := Lib.hid (BP.out.trans (b4.mono BP.out.size)); have C4 := Lib.hid (C3.out.call b4); clear b4))
      | fail
      all_goals (
        go_wp2_with fail
        refine bodyPost_ret (v := .tuple #[.slice none 0 0, .int .i64 4]) (by simp [results, Try.results12, go_sem]) rfl ?_
        exact ⟨⟨none, 0, 0, by rw [HV.out], by rw [HV.out]; exact OwnHoles.nil _ _⟩, BQ.out⟩)
    | false =>
      have hP := Lib.hid (HP0.trans hp)
      by_cases ht : most ≤ (tens l q.ten : Int)
      · have HV := Lib.hid (HF.out (Or.inr ht))
        clear hp HP0 HF HG
        go_enter Try.func12, Try.ntmps12
        go_wp2_with (first
          | (go_at_call 23; refine (HMy.out _).mono ?_; rintro e w1 ⟨rfl, b1⟩; have B1 := Lib.hid (B0.out.trans (b1.mono B0.out.size)); have C1 := Lib.hid (C0.out.call b1); have c2 := C1.out.cell 2; have c0 := C1.out.cell 0; have cl := C1.out.lt; clear HMy b1)
          | (go_at_call 28; refine (kept_has (.slice p n c) l q.ten HL.out w1 (HR.out.call B1.out)).mono ?_; rintro e w2 ⟨⟨p2, n2, c2', rfl, o2⟩, b2⟩; have N2 := Lib.hid (kept_len o2); have B2 := Lib.hid (B1.out.trans (b2.mono B1.out.size)); have C2 := Lib.hid (C1.out.call b2); clear c2 c0 cl; have c0 := C2.out.cell 0; have cl := C2.out.lt; have o9 := o2; clear o2 b2 o9))
        have BL := Lib.hid (show Below w.heap.size w w2.drew from B2.out.trans ⟨rfl, rfl, rfl, Nat.le_refl _, fun _ _ => rfl⟩)
        have hN := N2.out
        subst hN
        clear N2
        go_region_held (fun w' => w'.cell? ⟨w.heap.size, 0, none⟩ = some (.int .i64 q.port)) (first | go_keep | exact K3 | exact K4) (first
          | (go_simp; go_at_call 21; refine (hports_any (.slice p n c) l HL.out _ (HR.out.call BL.out)).mono ?_; rintro e w3 ⟨⟨p3, n3, c3, rfl, i3⟩, b3⟩; have K3 := (C2.out.drew.call b3).cell 0; have C3 := Lib.hid (C2.out.drew.call b3); have BP := Lib.hid (BL.out.trans (b3.mono BL.out.size)); have I3 := Lib.hid i3; clear i3 b3)
          | (go_simp; go_at_call 30; refine (contains_any (.slice p3 n3 c3) (ports l) q.port _ hP.out w3 I3.out).mono ?_; rintro e w4 ⟨rfl, b4⟩; have K4 : w4.cell? ⟨w.heap.size, 0, none⟩ = some (.int .i64 q.port) := (b4.cell (p := ⟨w.heap.size, 0, none⟩) (World.block_lt_of_cell? w3 _ K3)).trans K3; have BQ := Lib.hid (BP.out.trans (b4.mono BP.out.size)); have C4 := Lib.hid (C3.out.call b4); clear b4))
        all_goals (
          go_wp2_with fail
          refine bodyPost_ret (v := .tuple #[.slice none 0 0, .int .i64 4]) (by simp [results, Try.results12, go_sem]) rfl ?_
          exact ⟨⟨none, 0, 0, by rw [HV.out], by rw [HV.out]; exact OwnHoles.nil _ _⟩, BQ.out⟩)
      · have HV := Lib.hid (HG.out hp ht)
        clear hp HP0 HF HG
        go_enter Try.func12, Try.ntmps12
        go_wp2_with (first
          | (go_at_call 23; refine (HMy.out _).mono ?_; rintro e w1 ⟨rfl, b1⟩; have B1 := Lib.hid (B0.out.trans (b1.mono B0.out.size)); have C1 := Lib.hid (C0.out.call b1); have c2 := C1.out.cell 2; have c0 := C1.out.cell 0; have cl := C1.out.lt; clear HMy b1)
          | (go_at_call 28; refine (kept_has (.slice p n c) l q.ten HL.out w1 (HR.out.call B1.out)).mono ?_; rintro e w2 ⟨⟨p2, n2, c2', rfl, o2⟩, b2⟩; have N2 := Lib.hid (kept_len o2); have B2 := Lib.hid (B1.out.trans (b2.mono B1.out.size)); have C2 := Lib.hid (C1.out.call b2); clear c2 c0 cl; have c0 := C2.out.cell 0; have cl := C2.out.lt; have o9 := o2; clear o2 b2 o9))
        have BL := Lib.hid (show Below w.heap.size w w2.drew from B2.out.trans ⟨rfl, rfl, rfl, Nat.le_refl _, fun _ _ => rfl⟩)
        have hN := N2.out
        subst hN
        clear N2
        go_region_held (fun w' => w'.cell? ⟨w.heap.size, 0, none⟩ = some (.int .i64 q.port)) (first | go_keep | exact K3 | exact K4) (first
          | (go_simp; go_at_call 21; refine (hports_any (.slice p n c) l HL.out _ (HR.out.call BL.out)).mono ?_; rintro e w3 ⟨⟨p3, n3, c3, rfl, i3⟩, b3⟩; have K3 := (C2.out.drew.call b3).cell 0; have C3 := Lib.hid (C2.out.drew.call b3); have BP := Lib.hid (BL.out.trans (b3.mono BL.out.size)); have I3 := Lib.hid i3; clear i3 b3)
          | (go_simp; go_at_call 30; refine (contains_any (.slice p3 n3 c3) (ports l) q.port _ hP.out w3 I3.out).mono ?_; rintro e w4 ⟨rfl, b4⟩; have K4 : w4.cell? ⟨w.heap.size, 0, none⟩ = some (.int .i64 q.port) := (b4.cell (p := ⟨w.heap.size, 0, none⟩) (World.block_lt_of_cell? w3 _ K3)).trans K3; have BQ := Lib.hid (BP.out.trans (b4.mono BP.out.size)); have C4 := Lib.hid (C3.out.call b4); have y0 := C4.out.cell 0; have y1 := C4.out.cell 1; have y2 := C4.out.cell 2; have y3 := C4.out.cell 3; have y4 := C4.out.cell 4; have y5 := C4.out.cell 5; have y6 := C4.out.cell 6; have y7 := C4.out.cell 7; have y8 := C4.out.cell 8; have y9 := C4.out.cell 9; have y10 := C4.out.cell 10; have y11 := C4.out.cell 11; have y12 := C4.out.cell 12; have yl := C4.out.lt; clear b4))
        all_goals (
          have RB := Lib.hid (pair_row w4 (.cells #[.int .i64 q.port, .int .i64 q.sess, .int .i64 q.ten, .int .u8 q.a, .int .u8 q.b, .int .u8 q.c, .int .u8 q.d, .int .u8 q.e, .int .u8 q.f, .int .u8 q.g, .int .u8 q.h, .int .i64 q.tport, .int .i64 q.dead] 28) (.slice p n c) (.slice (some ⟨w4.heap.size, 0, none⟩) 1 1))
          have B5 := Lib.hid ((BQ.out.alloc BQ.out.size (.cells #[.int .i64 q.port, .int .i64 q.sess, .int .i64 q.ten, .int .u8 q.a, .int .u8 q.b, .int .u8 q.c, .int .u8 q.d, .int .u8 q.e, .int .u8 q.f, .int .u8 q.g, .int .u8 q.h, .int .i64 q.tport, .int .i64 q.dead] 28)).alloc (by have := BQ.out.size; simp; omega) (.cells #[.slice p n c, .slice (some ⟨w4.heap.size, 0, none⟩) 1 1] 22))
          have Y5 := Lib.hid (((HR.out.call BQ.out).alloc (.cells #[.int .i64 q.port, .int .i64 q.sess, .int .i64 q.ten, .int .u8 q.a, .int .u8 q.b, .int .u8 q.c, .int .u8 q.d, .int .u8 q.e, .int .u8 q.f, .int .u8 q.g, .int .u8 q.h, .int .i64 q.tport, .int .i64 q.dead] 28)).alloc (.cells #[.slice p n c, .slice (some ⟨w4.heap.size, 0, none⟩) 1 1] 22))
          have Z5 := Lib.hid ((holes_one w4 q).alloc (.cells #[.slice p n c, .slice (some ⟨w4.heap.size, 0, none⟩) 1 1] 22))
          go_wp2_with (go_at_call 31; refine (concat_holes _ _ l [q] HL.out (by show 1 ≤ 100000; decide) (w4.heap.size + 1) _ Y5.out Z5.out (RB.out.cell 0) (RB.out.cell 1)).mono ?_; rintro e w6 ⟨⟨p6, n6, c6, rfl, o6⟩, b6⟩; have B6 := Lib.hid (B5.out.trans (b6.mono B5.out.size)); have O6 := Lib.hid (own_lower o6 B5.out.size); clear o6 b6)
          refine bodyPost_ret (v := .tuple #[.slice p6 n6 c6, .int .i64 0]) (by simp [results, Try.results12, go_sem]) rfl ?_
          exact ⟨⟨p6, n6, c6, by rw [HV.out], by rw [HV.out]; exact O6.out⟩, B6.out⟩)

theorem two_row (w : World) (u v : Value) : IsRow (w.drew.alloc (.cells #[u, v] 22)) w.heap.size 22 #[u, v] := IsRow.made w.drew 22 #[u, v]
set_option maxHeartbeats 8000000 in
theorem hmatch_any (u : Value) (l : List Ho) (port : Int) (q : Pe) (now : Int) (hl : l.length ≤ 100000) (w : World) (H : HolesIs w u l) :
    Calls Try.prog 15 #[u, .int .i64 port, peV q, .int .i64 now] w fun e w' => (∃ p n c, e = .returned (.tuple #[.slice p n c, holeV (matchL l port q now).2.1, .bool (matchL l port q now).2.2]) ∧ OwnHoles (w.heap.size + 2) w' (.slice p n c) (matchL l port q now).1) ∧ Below w.heap.size w w' := by
  have hmax := H.max
  obtain ⟨p, n, c, rfl, hn⟩ := H.form
  have HN := Lib.hid hn
  have HR := Lib.hid H
  have hn9 : n ≤ 100000 := by omega
  clear hn H
  have B0 := Lib.hid (((Below.refl w.heap.size w).alloc (Nat.le_refl _) (.cells #[.int .u8 q.a, .int .u8 q.b, .int .u8 q.c, .int .u8 q.d] 24)).alloc (by simp) (.cells #[.int .i64 0, .int .i64 0, .int .i64 0, .int .u8 0, .int .u8 0, .int .u8 0, .int .u8 0, .int .u8 0, .int .u8 0, .int .u8 0, .int .u8 0, .int .i64 0, .int .i64 0] 28))
  have Z1 := Lib.hid (show IsRow ((w.alloc (.cells #[.int .u8 q.a, .int .u8 q.b, .int .u8 q.c, .int .u8 q.d] 24)).alloc (.cells #[.int .i64 0, .int .i64 0, .int .i64 0, .int .u8 0, .int .u8 0, .int .u8 0, .int .u8 0, .int .u8 0, .int .u8 0, .int .u8 0, .int .u8 0, .int .i64 0, .int .i64 0] 28)) (w.heap.size + 1) 28 #[.int .i64 0, .int .i64 0, .int .i64 0, .int .u8 0, .int .u8 0, .int .u8 0, .int .u8 0, .int .u8 0, .int .u8 0, .int .u8 0, .int .u8 0, .int .i64 0, .int .i64 0] from by have h := IsRow.made (w.alloc (.cells #[.int .u8 q.a, .int .u8 q.b, .int .u8 q.c, .int .u8 q.d] 24)) 28 #[.int .i64 0, .int .i64 0, .int .i64 0, .int .u8 0, .int .u8 0, .int .u8 0, .int .u8 0, .int .u8 0, .int .u8 0, .int .u8 0, .int .u8 0, .int .i64 0, .int .i64 0]; rw [World.size_alloc] at h; exact h)
  have S0 := Lib.hid (show ((w.alloc (.cells #[.int .u8 q.a, .int .u8 q.b, .int .u8 q.c, .int .u8 q.d] 24)).alloc (.cells #[.int .i64 0, .int .i64 0, .int .i64 0, .int .u8 0, .int .u8 0, .int .u8 0, .int .u8 0, .int .u8 0, .int .u8 0, .int .u8 0, .int .u8 0, .int .i64 0, .int .i64 0] 28)).heap.size = w.heap.size + 2 by simp)
  have GE : Hid (w.heap.size ≤ w.heap.size + 1) := Lib.hid (Nat.le_succ _)
  rcases match_ways l port q now with ⟨hno, he⟩ | ⟨k, hk, h1, h2, he⟩
  · have HV := Lib.hid he
    have HP := Lib.hid (place_none (fun j hj => hno _ (List.getElem_mem hj)))
    clear hno he
    generalize matchL l port q now = z at *
    go_enter Try.func15, Try.ntmps15
    go_wp2_with (first
      | (go_at_call 32; refine (place_any (.slice p n c) l port q now _ (HR.out.call B0.out)).mono ?_; rintro e w1 ⟨rfl, b1⟩; have B1 := Lib.hid (B0.out.trans (b1.mono B0.out.size)); have S1 := Lib.hid (show w.heap.size + 2 ≤ w1.heap.size from by rw [← S0.out]; exact b1.size); have Z2 := Lib.hid (Z1.out.call b1); rw [HP.out]; clear b1)
      | (go_at_call 34; refine (clone_holes (.slice p n c) l hl w1 (HR.out.call B1.out)).mono ?_; rintro e w2 ⟨⟨p2, n2, c2, rfl, o2⟩, b2⟩; have B2 := Lib.hid (B1.out.trans (b2.mono B1.out.size)); have Z3 := Lib.hid (Z2.out.call b2); have O2 := Lib.hid (own_lower o2 S1.out); have z0 := Z3.out.cell 0; have z1 := Z3.out.cell 1; have z2 := Z3.out.cell 2; have z3 := Z3.out.cell 3; have z4 := Z3.out.cell 4; have z5 := Z3.out.cell 5; have z6 := Z3.out.cell 6; have z7 := Z3.out.cell 7; have z8 := Z3.out.cell 8; have z9 := Z3.out.cell 9; have z10 := Z3.out.cell 10; have z11 := Z3.out.cell 11; have z12 := Z3.out.cell 12; have zf0 := Z3.out.free 0; have zf1 := Z3.out.free 1; have zf2 := Z3.out.free 2; have zf3 := Z3.out.free 3; have zf4 := Z3.out.free 4; have zf5 := Z3.out.free 5; have zf6 := Z3.out.free 6; have zf7 := Z3.out.free 7; have zf8 := Z3.out.free 8; have zf9 := Z3.out.free 9; have zf10 := Z3.out.free 10; have zf11 := Z3.out.free 11; have zf12 := Z3.out.free 12; have zl := Z3.out.lt; clear o2 b2))
    have FR9 := Lib.hid (put_hole (u0 := (.int .i64 0)) (u1 := (.int .i64 0)) (u2 := (.int .i64 0)) (u3 := (.int .u8 0)) (u4 := (.int .u8 0)) (u5 := (.int .u8 0)) (u6 := (.int .u8 0)) (u7 := (.int .u8 0)) (u8 := (.int .u8 0)) (u9 := (.int .u8 0)) (u10 := (.int .u8 0)) (u11 := (.int .i64 0)) (u12 := (.int .i64 0)) Z3.out)
    have B9 := Lib.hid (put_below (b := w.heap.size + 1) (u0 := (.int .i64 0)) (u1 := (.int .i64 0)) (u2 := (.int .i64 0)) (u3 := (.int .u8 0)) (u4 := (.int .u8 0)) (u5 := (.int .u8 0)) (u6 := (.int .u8 0)) (u7 := (.int .u8 0)) (u8 := (.int .u8 0)) (u9 := (.int .u8 0)) (u10 := (.int .u8 0)) (u11 := (.int .i64 0)) (u12 := (.int .i64 0)) B2.out GE.out)
    have O9 := Lib.hid (own_past O2.out (fun b hb => put_past (b := w.heap.size + 1) (u0 := (.int .i64 0)) (u1 := (.int .i64 0)) (u2 := (.int .i64 0)) (u3 := (.int .u8 0)) (u4 := (.int .u8 0)) (u5 := (.int .u8 0)) (u6 := (.int .u8 0)) (u7 := (.int .u8 0)) (u8 := (.int .u8 0)) (u9 := (.int .u8 0)) (u10 := (.int .u8 0)) (u11 := (.int .i64 0)) (u12 := (.int .i64 0)) (show b ≠ w.heap.size + 1 by omega)))
    clear z0 z1 z2 z3 z4 z5 z6 z7 z8 z9 z10 z11 z12 zf0 zf1 zf2 zf3 zf4 zf5 zf6 zf7 zf8 zf9 zf10 zf11 zf12 zl
    generalize hW : World.setCell _ _ _ = W9 at *
    have z0 := FR9.out.cell 0; have z1 := FR9.out.cell 1; have z2 := FR9.out.cell 2; have z3 := FR9.out.cell 3; have z4 := FR9.out.cell 4; have z5 := FR9.out.cell 5; have z6 := FR9.out.cell 6; have z7 := FR9.out.cell 7; have z8 := FR9.out.cell 8; have z9 := FR9.out.cell 9; have z10 := FR9.out.cell 10; have z11 := FR9.out.cell 11; have z12 := FR9.out.cell 12; have zf0 := FR9.out.free 0; have zf1 := FR9.out.free 1; have zf2 := FR9.out.free 2; have zf3 := FR9.out.free 3; have zf4 := FR9.out.free 4; have zf5 := FR9.out.free 5; have zf6 := FR9.out.free 6; have zf7 := FR9.out.free 7; have zf8 := FR9.out.free 8; have zf9 := FR9.out.free 9; have zf10 := FR9.out.free 10; have zf11 := FR9.out.free 11; have zf12 := FR9.out.free 12; have zl := FR9.out.lt
    refine bodyPost_ret (v := .tuple #[.slice p2 n2 c2, holeV zeroH, .bool false]) (by simp [results, Try.results15, go_sem, z0, z1, z2, z3, z4, z5, z6, z7, z8, z9, z10, z11, z12, zeroH]) rfl ?_
    exact ⟨⟨p2, n2, c2, by rw [HV.out], by rw [HV.out]; exact O9.out⟩, B9.out⟩
  · have HV := Lib.hid he
    have HP := Lib.hid (place_at hk h1 h2)
    clear h1 h2 he
    have hkn : k < n := by rw [HN.out]; exact hk
    have L1 : Hid ((l.take k).length ≤ 100000) := Lib.hid (by rw [List.length_take]; omega)
    have L2 : Hid ((l.drop (k + 1)).length ≤ 100000) := Lib.hid (by rw [List.length_drop]; omega)
    generalize matchL l port q now = z at *
    go_enter Try.func15, Try.ntmps15
    go_wp2_with (first
      | (go_at_call 32; refine (place_any (.slice p n c) l port q now _ (HR.out.call B0.out)).mono ?_; rintro e w1 ⟨rfl, b1⟩; have B1 := Lib.hid (B0.out.trans (b1.mono B0.out.size)); have S1 := Lib.hid (show w.heap.size + 2 ≤ w1.heap.size from by rw [← S0.out]; exact b1.size); have Z2 := Lib.hid (Z1.out.call b1); rw [HP.out]; clear b1))
    have HRr := Lib.hid (HR.out.call B1.out)
    obtain ⟨p1, n1, c1, -, hs1, y1⟩ := holes_h HRr.out k (by omega)
    obtain ⟨p2, n2, c2, -, hs2, y2⟩ := holes_l HRr.out (k + 1) (by omega)
    rw [show ((k + 1 : Nat) : Int) = (k : Int) + 1 from by omega] at hs2
    obtain ⟨b1, o1, rfl, hb1, hc1⟩ := HRr.out.some (by omega)
    have T1 := hc1 k hk
    have HAt := Lib.hid T1
    have a0 := T1.c0; have a1 := T1.c1; have a2 := T1.c2; have a3 := T1.c3; have a4 := T1.c4; have a5 := T1.c5; have a6 := T1.c6; have a7 := T1.c7; have a8 := T1.c8; have a9 := T1.c9; have a10 := T1.c10; have a11 := T1.c11; have a12 := T1.c12
    have Y1 := Lib.hid y1
    have Y2 := Lib.hid y2
    clear T1 hc1 y1 y2
    have hwk : IntKind.i64.wrap ((k : Int) + 1) = (k : Int) + 1 := IntWalk.i64_in _ (by omega)
    have hs2w : ∀ W, (Instr.slice 22 (.slice (some ⟨b1, o1, none⟩) n c) (some (.int .i64 (IntKind.i64.wrap ((k : Int) + 1)))) none none).run Try.prog W = .ok (.slice p2 n2 c2) W := by rw [hwk]; exact hs2
    have BD := Lib.hid (((Below.refl w1.heap.size w1).trans (show Below w1.heap.size w1 w1.drew from ⟨rfl, rfl, rfl, Nat.le_refl _, fun _ _ => rfl⟩)).alloc (Nat.le_refl _) (.cells #[.slice p1 n1 c1, .slice p2 n2 c2] 22))
    have RB := Lib.hid (two_row w1 (.slice p1 n1 c1) (.slice p2 n2 c2))
    have hx : l[k] = (l[k]'hk) := rfl
    generalize l[k] = x at *
    clear hx
    go_region_law (first | (go_simp; go_at_call 31; refine (concat_holes (.slice p1 n1 c1) (.slice p2 n2 c2) (l.take k) (l.drop (k + 1)) L1.out L2.out w1.heap.size _ (Y1.out.call BD.out) (Y2.out.call BD.out) (RB.out.cell 0) (RB.out.cell 1)).mono ?_; rintro e w6 ⟨⟨p6, n6, c6, rfl, o6⟩, b6⟩; have B6 := Lib.hid (BD.out.trans (b6.mono BD.out.size)); have HZ6 := Lib.hid (Z2.out.call B6.out); have O6 := Lib.hid (own_lower o6 BD.out.size); have z0 := HZ6.out.cell 0; have z1 := HZ6.out.cell 1; have z2 := HZ6.out.cell 2; have z3 := HZ6.out.cell 3; have z4 := HZ6.out.cell 4; have z5 := HZ6.out.cell 5; have z6 := HZ6.out.cell 6; have z7 := HZ6.out.cell 7; have z8 := HZ6.out.cell 8; have z9 := HZ6.out.cell 9; have z10 := HZ6.out.cell 10; have z11 := HZ6.out.cell 11; have z12 := HZ6.out.cell 12; have zf0 := HZ6.out.free 0; have zf1 := HZ6.out.free 1; have zf2 := HZ6.out.free 2; have zf3 := HZ6.out.free 3; have zf4 := HZ6.out.free 4; have zf5 := HZ6.out.free 5; have zf6 := HZ6.out.free 6; have zf7 := HZ6.out.free 7; have zf8 := HZ6.out.free 8; have zf9 := HZ6.out.free 9; have zf10 := HZ6.out.free 10; have zf11 := HZ6.out.free 11; have zf12 := HZ6.out.free 12; have zl := HZ6.out.lt; have TX := HAt.out.call B6.out; have f0 := TX.c0; have f1 := TX.c1; have f2 := TX.c2; have f3 := TX.c3; have f4 := TX.c4; have f5 := TX.c5; have f6 := TX.c6; have f7 := TX.c7; have f8 := TX.c8; have f9 := TX.c9; have f10 := TX.c10; have f11 := TX.c11; have f12 := TX.c12; have fl := TX.lt; clear TX o6 b6))
    all_goals (
      clear hs1 hs2 hs2w hwk fl a0 a1 a2 a3 a4 a5 a6 a7 a8 a9 a10 a11 a12 f0 f1 f2 f3 f4 f5 f6 f7 f8 f9 f10 f11 f12 z0 z1 z2 z3 z4 z5 z6 z7 z8 z9 z10 z11 z12 zf0 zf1 zf2 zf3 zf4 zf5 zf6 zf7 zf8 zf9 zf10 zf11 zf12 zl
      have FR9 := Lib.hid (put_hole (u0 := (.int .i64 x.port)) (u1 := (.int .i64 x.sess)) (u2 := (.int .i64 x.ten)) (u3 := (.int .u8 x.a)) (u4 := (.int .u8 x.b)) (u5 := (.int .u8 x.c)) (u6 := (.int .u8 x.d)) (u7 := (.int .u8 x.e)) (u8 := (.int .u8 x.f)) (u9 := (.int .u8 x.g)) (u10 := (.int .u8 x.h)) (u11 := (.int .i64 x.tport)) (u12 := (.int .i64 x.dead)) HZ6.out)
      have B9 := Lib.hid (put_below (b := w.heap.size + 1) (u0 := (.int .i64 x.port)) (u1 := (.int .i64 x.sess)) (u2 := (.int .i64 x.ten)) (u3 := (.int .u8 x.a)) (u4 := (.int .u8 x.b)) (u5 := (.int .u8 x.c)) (u6 := (.int .u8 x.d)) (u7 := (.int .u8 x.e)) (u8 := (.int .u8 x.f)) (u9 := (.int .u8 x.g)) (u10 := (.int .u8 x.h)) (u11 := (.int .i64 x.tport)) (u12 := (.int .i64 x.dead)) (B1.out.trans (B6.out.mono B1.out.size)) GE.out)
      have O9 := Lib.hid (own_past O6.out (fun b hb => put_past (b := w.heap.size + 1) (u0 := (.int .i64 x.port)) (u1 := (.int .i64 x.sess)) (u2 := (.int .i64 x.ten)) (u3 := (.int .u8 x.a)) (u4 := (.int .u8 x.b)) (u5 := (.int .u8 x.c)) (u6 := (.int .u8 x.d)) (u7 := (.int .u8 x.e)) (u8 := (.int .u8 x.f)) (u9 := (.int .u8 x.g)) (u10 := (.int .u8 x.h)) (u11 := (.int .i64 x.tport)) (u12 := (.int .i64 x.dead)) (show b ≠ w.heap.size + 1 by have := S1.out; omega)))
      go_wp2_with fail
      generalize hX : Oper.dst _ = X
      have eX : X = some 10 := by rw [← hX]; rfl
      clear hX
      subst eX
      generalize hW : World.setCell _ _ _ = W9 at *
      have z0 := FR9.out.cell 0; have z1 := FR9.out.cell 1; have z2 := FR9.out.cell 2; have z3 := FR9.out.cell 3; have z4 := FR9.out.cell 4; have z5 := FR9.out.cell 5; have z6 := FR9.out.cell 6; have z7 := FR9.out.cell 7; have z8 := FR9.out.cell 8; have z9 := FR9.out.cell 9; have z10 := FR9.out.cell 10; have z11 := FR9.out.cell 11; have z12 := FR9.out.cell 12; have zf0 := FR9.out.free 0; have zf1 := FR9.out.free 1; have zf2 := FR9.out.free 2; have zf3 := FR9.out.free 3; have zf4 := FR9.out.free 4; have zf5 := FR9.out.free 5; have zf6 := FR9.out.free 6; have zf7 := FR9.out.free 7; have zf8 := FR9.out.free 8; have zf9 := FR9.out.free 9; have zf10 := FR9.out.free 10; have zf11 := FR9.out.free 11; have zf12 := FR9.out.free 12; have zl := FR9.out.lt
      refine bodyPost_ret (v := .tuple #[.slice p6 n6 c6, holeV x, .bool true]) (by simp [results, Try.results15, go_sem, z0, z1, z2, z3, z4, z5, z6, z7, z8, z9, z10, z11, z12]) rfl ?_
      exact ⟨⟨p6, n6, c6, by rw [HV.out], by rw [HV.out]; exact own_lower O9.out S1.out⟩, B9.out⟩)

#print axioms hgrant_any
#print axioms hmatch_any
#print axioms hsame_any
#print axioms place_any
end Go.Proofs.Ytaahghjllfkmaaa.Hl
