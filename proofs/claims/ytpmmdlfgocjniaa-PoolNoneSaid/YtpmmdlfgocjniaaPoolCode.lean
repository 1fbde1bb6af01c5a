/- The contracts of package pool: count, modulo, keyed (busy ports as keys of a map), Pick, Free. -/
import Derived.Test.YtpmmdlfgocjniaaPoolPlain
import Derived.Test.YtpmmdlfgocjniaaInts
import Derived.Test.YtpmmdlfgocjniaaEnvBare
import Derived.Maps.OwnSet
import Derived.LoopTactic
import Derived.WalkMore
import Derived.Lib.Hide
namespace Go.Proofs.Ytpmmdlfgocjniaa.Po
open Go.Proofs.Ytpmmdlfgocjniaa
open Go Go.ChangeShapes Go.WideShapes Go.ChangeAt Go.RowKit Go.Maps
set_option maxRecDepth 100000
set_option linter.unusedSimpArgs false
set_option linter.unusedVariables false

/-! ### numbers as keys of a map -/
def wfI (n : Int) : Bool := decide (-9223372036854775808 ≤ n) && decide (n ≤ 9223372036854775807)
/-- all of them are ints -/
def Wf (l : List Int) : Prop := l.all wfI = true
theorem wfI_of {n : Int} (h0 : -9223372036854775808 ≤ n) (h1 : n ≤ 9223372036854775807) : wfI n = true := by simp [wfI, h0, h1]
theorem wf_of {l : List Int} (h : ∀ x ∈ l, -9223372036854775808 ≤ x ∧ x ≤ 9223372036854775807) : Wf l := by
  unfold Wf; rw [List.all_eq_true]
  exact fun x hx => wfI_of (h x hx).1 (h x hx).2
theorem Wf.at {l : List Int} (h : Wf l) {x : Int} (hx : x ∈ l) : wfI x = true := List.all_eq_true.1 h x hx
theorem wf_more {l : List Int} (h : Wf l) {x : Int} (h0 : -9223372036854775808 ≤ x) (h1 : x ≤ 9223372036854775807) : Wf ([] ++ l ++ [x]) := by
  unfold Wf at *
  simp [h, wfI_of h0 h1]
theorem wf_all {low : Int} (h0 : 0 ≤ low) (h1 : low ≤ 100000) {k : Nat} (hk : k ≤ 100000) : Wf (allL low k) := wf_of (fun x hx => by have := mem_all.1 hx; omega)
theorem wf_most {low s : Int} (h0 : 0 ≤ low) (h1 : low ≤ 100000) {k : Nat} (hk : k ≤ 100000) : Wf (mostL low s k) := wf_of (fun x hx => by have := mem_most.1 hx; omega)

theorem keyInt : Keyed Try.prog 3 := int_keyed Try.underlying3
theorem zeroUnit (w : World) : (zeroValue 35).run Try.prog w = .ok (.agg #[]) w := by kernel_rfl
theorem make_hint (n : Int) (w : World) : (Instr.makeMap 33 (some (.int .i64 n))).run Try.prog w = .ok (.map (some w.heap.size)) (w.alloc (.map #[] 0)) := by
  simp [Instr.makeMap, run_underlying Try.underlying33, asInt, asIntOf, Result.andThen]
theorem key_of {x : Int} (h : wfI x = true) : keyOf Try.prog 3 (.int .i64 x) = some (.int .i64 x) := keyOf_int_mk Try.underlying3 h

def setD (l : List Int) : DataW Unit := setOf (.agg []) (l.map (Lit.int .i64))
theorem set_snoc (l : List Int) (x : Int) : setD (l ++ [x]) = (setD l).put (.int .i64 x) (.agg []) := by unfold setD; rw [List.map_append, List.map_singleton, setOf_snoc]
theorem any_key (x : Int) : ∀ l : List Int, l.any ((fun y : Lit => y.sameKey (.int .i64 x)) ∘ Lit.int .i64) = l.contains x
  | [] => rfl
  | a :: r => by
    rw [List.any_cons, List.contains_cons, any_key x r]
    congr 1
    show decide (IntKind.i64 = IntKind.i64 ∧ a = x) = (x == a)
    by_cases e : a = x
    · subst e; simp
    · have e' : ¬ x = a := fun h => e h.symm
      simp [e, e']
theorem has_set (l : List Int) (x : Int) : Maps.has (setD l) (.int .i64 x) = l.contains x := by
  unfold setD
  rw [has_setOf _ _ _ (fun y hy => by obtain ⟨_, _, rfl⟩ := List.mem_map.1 hy; trivial), List.any_map]
  exact any_key x _

/-- block b is a map whose keys are these numbers -/
def KeyAt (w : World) (b k : Nat) (l : List Int) : Prop := w.ownsMap Try.prog 3 unitElem b k (setD l)
theorem KeyAt.alloc {w : World} {b k : Nat} {l : List Int} (h : KeyAt w b k l) (o : Obj) : KeyAt (w.alloc o) b k l := World.ownsMap.alloc h o
theorem KeyAt.made (w : World) : KeyAt (w.alloc (.map #[] 0)) w.heap.size 0 [] := World.ownsMap_made w _ _ _
theorem KeyAt.same {w w' : World} {b k : Nat} {l : List Int} (h : KeyAt w b k l) (e : w' = w) : KeyAt w' b k l := e ▸ h

/-- x, is := m[k] -/
theorem wpList_has (w : World) {ops : Array Oper} {rest : List Oper} {o : Oper} {a : Act} {Q : Exit → Act → World → Prop} (hg : o.guard = none) (m x : Operand) (hop : o.op = Op.lookup 33 m x true)
    (b n : Nat) (l : List Int) (hm : a.eval m = .map (some b)) (hown : KeyAt w b n l) (p : Int) (hx : a.eval x = .int .i64 p) (hp : wfI p = true) (c : Bool) (hc : l.contains p = c)
    (hK : wpList Try.prog ops Q rest (a.put o.dst (.tuple #[.agg #[], .bool c])) w) : wpList Try.prog ops Q (o :: rest) a w :=
  wpList_lookup_own_unit w hg m x _ hop _ _ keyInt Try.underlying33 (zeroUnit w) b n (setD l) hm hown _ _ hx (key_of hp) (by rw [has_set, hc]; exact hK)

/-! ### the contracts -/
set_option maxHeartbeats 400000 in
theorem pool_count (low high : Int) (l0 : -9223372036854775808 ≤ low) (l1 : low ≤ 9223372036854775807) (h0 : -9223372036854775808 ≤ high) (h1 : high ≤ 9223372036854775807) (w : World) :
    Calls Try.prog 14 #[.int .i64 low, .int .i64 high] w fun e w' => e = .returned (.int .i64 (if mayB low high then num low high else 0)) ∧ w = w' := by
  by_cases a1 : 1024 ≤ low
  · by_cases a2 : high ≤ 65535
    · by_cases a3 : low ≤ high
      · have HV : Hid ((if mayB low high then num low high else 0) = high - low + 1) := Lib.hid (by rw [(may_iff _ _).2 ⟨a1, a3, a2⟩]; rfl)
        generalize (if mayB low high then num low high else 0) = V at *
        go_enter Try.func14, Try.ntmps14
        go_wp2_with fail
        go_ret
        exact ⟨by rw [HV.out] <;> rfl, rfl⟩
      · have HV : Hid ((if mayB low high then num low high else 0) = 0) := Lib.hid (by rw [may_no (fun h => a3 h.le)]; rfl)
        generalize (if mayB low high then num low high else 0) = V at *
        go_enter Try.func14, Try.ntmps14
        go_wp2_with fail
        go_ret
        exact ⟨by rw [HV.out] <;> rfl, rfl⟩
    · have HV : Hid ((if mayB low high then num low high else 0) = 0) := Lib.hid (by rw [may_no (fun h => a2 h.hi)]; rfl)
      generalize (if mayB low high then num low high else 0) = V at *
      go_enter Try.func14, Try.ntmps14
      go_wp2_with fail
      go_ret
      exact ⟨by rw [HV.out] <;> rfl, rfl⟩
  · have HV : Hid ((if mayB low high then num low high else 0) = 0) := Lib.hid (by rw [may_no (fun h => a1 h.lo)]; rfl)
    generalize (if mayB low high then num low high else 0) = V at *
    go_enter Try.func14, Try.ntmps14
    go_wp2_with fail
    go_ret
    exact ⟨by rw [HV.out] <;> rfl, rfl⟩

/-- the rest that Go tells, and the one that the document asks for -/
theorem rest_ways (d n : Int) (hn : 0 < n) : (Int.tmod d n < 0 ∧ Int.tmod d n + n = d % n) ∨ (¬ Int.tmod d n < 0 ∧ Int.tmod d n = d % n) := by
  have := rem_mend d n hn
  split at this
  · exact Or.inl ⟨by assumption, this⟩
  · exact Or.inr ⟨by assumption, this⟩
set_option maxHeartbeats 400000 in
theorem pool_modulo (draw n : Int) (h0 : 0 < n) (h1 : n ≤ 65536) (w : World) :
    Calls Try.prog 16 #[.int .i64 draw, .int .i64 n] w fun e w' => e = .returned (.int .i64 (draw % n)) ∧ w = w' := by
  have hS0 := Int.emod_nonneg draw (show n ≠ 0 by omega)
  have hS1 := Int.emod_lt_of_pos draw h0
  have hz : (n == 0) = false := by rw [beq_eq_false_iff_ne]; omega
  have hw := rest_ways draw n h0
  generalize draw % n = S at *
  obtain ⟨T, hT⟩ : ∃ T, draw.tmod n = T := ⟨_, rfl⟩
  rw [hT] at hw
  rcases hw with ⟨hT0, hT1⟩ | ⟨hT0, hT1⟩
  · have hTb : -65536 ≤ T := by omega
    have HV := Lib.hid hT1
    have hu : T + n ≤ 65536 := by omega
    have hv : 0 ≤ T + n := by omega
    clear hT1
    go_enter Try.func16, Try.ntmps16
    go_wp2_with fail
    go_ret
    exact ⟨by rw [HV.out] <;> rfl, rfl⟩
  · have HV := Lib.hid hT1
    have hTc : T ≤ 65536 := by omega
    clear hT1
    go_enter Try.func16, Try.ntmps16
    go_wp2_with fail
    go_ret
    exact ⟨by rw [HV.out] <;> rfl, rfl⟩

set_option maxHeartbeats 4000000 in
theorem pool_keyed (u : Value) (l : List Int) (hl : l.length ≤ 100000) (hwf : Wf l) (w : World) (H : IntsIs w u l) :
    Calls Try.prog 15 #[u] w fun e w' => e = .returned (.map (some w.heap.size)) ∧ KeyAt w' w.heap.size l.length l ∧ Below w.heap.size w w' := by
  have HR := Lib.hid H
  have HW := Lib.hid hwf
  obtain ⟨p0, n, c0, rfl, hn⟩ := H.form
  rw [← hn] at hl ⊢
  have HN := Lib.hid hn
  have hmm := make_hint
  clear hn H hwf
  go_enter Try.func15, Try.ntmps15
  go_wp2_with fail
  go_loopw [5, 11] (fun x5 x11 wr => ∃ k : Nat, x11 = .int .i64 (k : Int) ∧ k ≤ n ∧ Hid (KeyAt wr w.heap.size k (l.take k)) ∧ Hid (Below w.heap.size w wr)) (fun _ i _ => n - (intOf i).toNat)
  case atStart => exact ⟨0, rfl, Nat.zero_le _, Lib.hid (KeyAt.made w), Lib.hid ((Below.refl _ _).alloc (Nat.le_refl _) _)⟩
  case round =>
    obtain ⟨k, rfl, hk, HO, HB⟩ := hrel
    by_cases hlt : k < n
    · have hkl : k < l.length := by rw [← HN.out]; exact hlt
      have hji : (k : Int) < (n : Int) := by omega
      have HK : Hid (k + 1 ≤ n) := Lib.hid hlt
      obtain ⟨b, o, rfl, hbl, hcell⟩ := HR.out.plain (by omega)
      have hc : wr.cell? ⟨b, o + k, none⟩ = some (intV l[k]) := by rw [HB.out.cell (p := ⟨b, _, none⟩) hbl]; exact hcell k hkl
      have HKEY := Lib.hid (key_of (HW.out.at (List.getElem_mem hkl)))
      have HT : Hid (setD (l.take (k + 1)) = (setD (l.take k)).put (.int .i64 l[k]) (.agg [])) := Lib.hid (by rw [List.take_succ_eq_append_getElem hkl, set_snoc])
      clear hcell
      generalize l[k] = t at *
      go_wp2_with (at_mapUpdate; refine wpList_mapUpdate_own _ rfl _ _ _ 33 rfl 3 35 keyInt Try.underlying33 (unitElem (H := Unit)) w.heap.size k _ rfl HO.out (by unfold maxLen; omega) _ _ _ rfl rfl HKEY.out _ [] unitElem_mk ?_; intro w1 hown1 hgrow1; have HO1 := Lib.hid hown1; have HB1 := Lib.hid (HB.out.grown hgrow1 HB.out.size (fun j hj => by cases hj; exact Nat.le_refl _)); clear hown1 hgrow1 HO HB)
      go_roundw
      case rel => exact ⟨k + 1, by go_num, HK.out, Lib.hid (by unfold KeyAt; rw [HT.out]; exact HO1.out), HB1⟩
      case measure => have := HK.out; simp [intOf]; omega
    · have hji : ¬ (k : Int) < (n : Int) := by omega
      obtain rfl : k = n := by omega
      go_wp2_with fail
      go_ret
      have h := HO.out
      rw [List.take_of_length_le (by have := HN.out; omega)] at h
      exact ⟨rfl, h, HB.out⟩

set_option maxHeartbeats 4000000 in
theorem pool_pick (low high draw : Int) (l0 : -9223372036854775808 ≤ low) (l1 : low ≤ 9223372036854775807) (h0 : -9223372036854775808 ≤ high) (h1 : high ≤ 9223372036854775807) (dl : -9223372036854775808 ≤ draw) (dh : draw ≤ 9223372036854775807) (u : Value) (l : List Int) (hl : l.length ≤ 100000) (hwf : Wf l) (w : World) (E : Env w) (H : IntsIs w u l) :
    Calls Try.prog 9 #[.int .i64 low, .int .i64 high, .int .i64 draw, u] w fun e w' => e = .returned (.tuple #[.int .i64 (pick low high draw l).1, .bool (pick low high draw l).2]) ∧ Below w.heap.size w w' := by
  have HCC := Lib.hid (fun W => pool_count low high l0 l1 h0 h1 W)
  have HKC := Lib.hid (pool_keyed u l hl hwf w H)
  clear H hwf
  cases hm : mayB low high with
  | false =>
    have HV := Lib.hid (pick_no hm draw l)
    rw [hm] at HCC
    have HC : Hid (∀ W, Calls Try.prog 14 #[.int .i64 low, .int .i64 high] W fun e w' => e = .returned (.int .i64 0) ∧ W = w') := HCC
    clear hm HCC
    generalize pick low high draw l = z at HV ⊢
    go_enter Try.func9, Try.ntmps9
    go_wp2_with (go_at_call 14; refine (HC.out _).mono ?_; rintro e w1 ⟨rfl, rfl⟩; clear HC)
    refine bodyPost_ret (v := .tuple #[.int .i64 z.1, .bool z.2]) (by simp [results, Try.results9, go_sem, HV.out]) rfl ?_
    exact ⟨rfl, Below.refl _ _⟩
  | true =>
    have hf := (may_iff _ _).1 hm
    obtain ⟨f1, f2, f3⟩ := hf
    have HF : Hid (Fine low high) := Lib.hid ⟨f1, f2, f3⟩
    rw [hm, if_pos rfl] at HCC
    clear hm
    obtain ⟨N, hN⟩ : ∃ N : Nat, high - low + 1 = (N : Int) := ⟨(high - low + 1).toNat, by omega⟩
    have hNn : num low high = (N : Int) := hN
    have hN0 : (0 : Int) < (N : Int) := by omega
    have hNz : ((N : Int) == 0) = false := by rw [beq_eq_false_iff_ne]; omega
    have hN9 : (N : Int) ≤ 65536 := by omega
    rw [hNn] at HCC
    have HMC := Lib.hid (fun W => pool_modulo draw (N : Int) hN0 hN9 W)
    have HP : Hid (∀ k : Nat, k < N → low + (draw % (N : Int) + (k : Int)) % (N : Int) ∉ l → (∀ j : Nat, j < k → low + (draw % (N : Int) + (j : Int)) % (N : Int) ∈ l) → pick low high draw l = (low + (draw % (N : Int) + (k : Int)) % (N : Int), true)) := Lib.hid (fun k hk h1 h2 => by
      have := pick_at (draw := draw) (busy := l) HF.out (k := k) (by rw [hNn]; omega) (by rw [hNn]; exact h1) (by rw [hNn]; exact h2)
      rw [hNn] at this; exact this)
    have HE : Hid ((∀ j : Nat, j < N → low + (draw % (N : Int) + (j : Int)) % (N : Int) ∈ l) → pick low high draw l = (0, false)) := Lib.hid (fun h => pick_end (fun j hj => by rw [hNn] at hj ⊢; exact h j (by omega)))
    generalize pick low high draw l = z at HP HE ⊢
    have hS0 := Int.emod_nonneg draw (show (N : Int) ≠ 0 by omega)
    have hS1 := Int.emod_lt_of_pos draw hN0
    generalize draw % (N : Int) = S at *
    clear hNn HF
    go_enter Try.func9, Try.ntmps9
    go_wp2_with (first
      | (go_at_call 14; refine (HCC.out _).mono ?_; rintro e w1 ⟨rfl, rfl⟩; clear HCC)
      | (go_at_call 15; refine (HKC.out).mono ?_; rintro e w2 ⟨rfl, hk0, hb0⟩; have HK0 := Lib.hid hk0; have HB0 := Lib.hid hb0; clear hk0 hb0 HKC)
      | (go_at_call 16; refine (HMC.out _).mono ?_; rintro e w3 ⟨rfl, rfl⟩; clear HMC))
    go_loopw [13, 14, 15, 16, 28] (fun x13 x14 x15 x16 x28 wr => ∃ k : Nat, x28 = .int .i64 (k : Int) ∧ k ≤ N ∧ Hid (∀ j : Nat, j < k → low + (S + (j : Int)) % (N : Int) ∈ l) ∧ Hid (KeyAt wr w.heap.size l.length l) ∧ Hid (Below w.heap.size w wr)) (fun _ _ _ _ i _ => N - (intOf i).toNat)
    case atStart => exact ⟨0, rfl, Nat.zero_le _, Lib.hid (fun j hj => absurd hj (Nat.not_lt_zero j)), HK0, HB0⟩
    case round =>
      obtain ⟨k, rfl, hk, HO, HKA, HB⟩ := hrel
      by_cases hlt : k < N
      · have hji : (k : Int) < (N : Int) := by omega
        have HK : Hid (k + 1 ≤ N) := Lib.hid hlt
        have HPK := Lib.hid (fun h => HP.out k hlt h HO.out)
        have HNX : Hid (low + (S + (k : Int)) % (N : Int) ∈ l → ∀ j : Nat, j < k + 1 → low + (S + (j : Int)) % (N : Int) ∈ l) := Lib.hid (fun h j hj => by
          by_cases e : j = k
          · rw [e]; exact h
          · exact HO.out j (by omega))
        have hq0 := Int.emod_nonneg (S + (k : Int)) (show (N : Int) ≠ 0 by omega)
        have hq1 := Int.emod_lt_of_pos (S + (k : Int)) hN0
        have hq : (S + (k : Int)).tmod (N : Int) = (S + (k : Int)) % (N : Int) := Int.tmod_eq_emod_of_nonneg (by omega)
        generalize (S + (k : Int)) % (N : Int) = q at *
        have HQ : Hid (wfI (low + q) = true) := Lib.hid (wfI_of (by omega) (by omega))
        cases hc : l.contains (low + q) with
        | true =>
          have HNX2 := Lib.hid (HNX.out (List.contains_iff_mem.1 hc))
          have HC := Lib.hid hc
          clear hc HNX HO HPK
          go_wp2_with (at_lookup; refine wpList_has _ rfl _ _ rfl w.heap.size l.length l rfl HKA.out (low + q) rfl HQ.out true HC.out ?_; clear HC HQ)
          go_roundw
          case rel => exact ⟨k + 1, by go_num, HK.out, HNX2, Lib.hid (HKA.out.alloc _), Lib.hid (HB.out.alloc HB.out.size _)⟩
          case measure => have := HK.out; simp [intOf]; omega
        | false =>
          have HV := Lib.hid (HPK.out (fun h => by rw [List.contains_iff_mem.2 h] at hc; cases hc))
          have HC := Lib.hid hc
          clear hc HNX HO HPK
          go_wp2_with (at_lookup; refine wpList_has _ rfl _ _ rfl w.heap.size l.length l rfl HKA.out (low + q) rfl HQ.out false HC.out ?_; clear HC HQ)
          refine bodyPost_ret (v := .tuple #[.int .i64 z.1, .bool z.2]) (by simp [results, Try.results9, go_sem, HV.out]) rfl ?_
          exact ⟨rfl, HB.out.alloc HB.out.size _⟩
      · have hji : ¬ (k : Int) < (N : Int) := by omega
        have HV := Lib.hid (HE.out (fun j hj => HO.out j (by omega)))
        clear HO
        go_wp2_with fail
        refine bodyPost_ret (v := .tuple #[.int .i64 z.1, .bool z.2]) (by simp [results, Try.results9, go_sem, HV.out]) rfl ?_
        exact ⟨rfl, HB.out⟩

theorem free_step' {low : Int} {l : List Int} {k : Nat} (b : Bool) (h : l.contains (low + (k : Int)) = b) : freeTo low l (k + 1) = freeTo low l k + (if b then 0 else 1) := by
  rw [freeTo_next]
  unfold idle
  rw [h]
  cases b <;> rfl

set_option maxHeartbeats 4000000 in
theorem pool_free (low high : Int) (l0 : -9223372036854775808 ≤ low) (l1 : low ≤ 9223372036854775807) (h0 : -9223372036854775808 ≤ high) (h1 : high ≤ 9223372036854775807) (u : Value) (l : List Int) (hl : l.length ≤ 100000) (hwf : Wf l) (w : World) (E : Env w) (H : IntsIs w u l) :
    Calls Try.prog 11 #[.int .i64 low, .int .i64 high, u] w fun e w' => e = .returned (.int .i64 (free low high l)) ∧ Below w.heap.size w w' := by
  have HCC := Lib.hid (fun W => pool_count low high l0 l1 h0 h1 W)
  have HKC := Lib.hid (pool_keyed u l hl hwf w H)
  clear H hwf
  obtain ⟨N, hN, HV, hb⟩ : ∃ N : Nat, (if mayB low high then num low high else 0) = (N : Int) ∧ Hid (free low high l = (freeTo low l N : Int)) ∧ (0 < N → 1024 ≤ low ∧ low + (N : Int) ≤ 65536) := by
    cases hm : mayB low high with
    | false => exact ⟨0, rfl, Lib.hid (by rw [free_no hm]; rfl), fun h => absurd h (Nat.lt_irrefl _)⟩
    | true =>
      have hf := (may_iff _ _).1 hm
      obtain ⟨f1, f2, f3⟩ := hf
      exact ⟨(num low high).toNat, by rw [if_pos rfl]; unfold num; omega, Lib.hid (free_to (busy := l) ⟨f1, f2, f3⟩), fun _ => by unfold num; omega⟩
  rw [hN] at HCC
  clear hN
  generalize free low high l = z at HV ⊢
  have hN9 : (N : Int) ≤ 65536 := by
    by_cases h : 0 < N
    · have := hb h; omega
    · omega
  have HBD := Lib.hid hb
  clear hb
  go_enter Try.func11, Try.ntmps11
  go_wp2_with (first
    | (go_at_call 15; refine (HKC.out).mono ?_; rintro e w2 ⟨rfl, hk0, hb0⟩; have HK0 := Lib.hid hk0; have HB0 := Lib.hid hb0; clear hk0 hb0 HKC)
    | (go_at_call 14; refine (HCC.out _).mono ?_; rintro e w1 ⟨rfl, rfl⟩; clear HCC))
  go_loopw [8, 9, 10, 11, 17] (fun x8 x9 x10 x11 x17 wr => ∃ k c : Nat, x8 = .int .i64 (c : Int) ∧ x17 = .int .i64 (k : Int) ∧ k ≤ N ∧ Hid (c = freeTo low l k) ∧ Hid (KeyAt wr w.heap.size l.length l) ∧ Hid (Below w.heap.size w wr)) (fun _ _ _ _ i _ => N - (intOf i).toNat)
  case atStart => exact ⟨0, 0, rfl, rfl, Nat.zero_le _, Lib.hid (by unfold freeTo; rfl), HK0, HB0⟩
  case round =>
    obtain ⟨k, c, rfl, rfl, hk, HO, HKA, HB⟩ := hrel
    have hcl : c ≤ 65536 := by have := freeTo_le low l k; rw [← HO.out] at this; omega
    by_cases hlt : k < N
    · have hji : (k : Int) < (N : Int) := by omega
      have HK : Hid (k + 1 ≤ N) := Lib.hid hlt
      obtain ⟨b1, b2⟩ := HBD.out (by omega)
      have HQ : Hid (wfI (low + (k : Int)) = true) := Lib.hid (wfI_of (by omega) (by omega))
      cases hc : l.contains (low + (k : Int)) with
      | true =>
        have HC := Lib.hid hc
        have HNX : Hid (c = freeTo low l (k + 1)) := Lib.hid (by rw [free_step' _ hc, HO.out]; rfl)
        clear hc HO
        go_wp2_with (at_lookup; refine wpList_has _ rfl _ _ rfl w.heap.size l.length l rfl HKA.out (low + (k : Int)) rfl HQ.out true HC.out ?_; clear HC HQ)
        go_roundw
        case rel => exact ⟨k + 1, c, by go_num, by go_num, HK.out, HNX, Lib.hid (HKA.out.alloc _), Lib.hid (HB.out.alloc HB.out.size _)⟩
        case measure => have := HK.out; simp [intOf]; omega
      | false =>
        have HC := Lib.hid hc
        have HNX : Hid (c + 1 = freeTo low l (k + 1)) := Lib.hid (by rw [free_step' _ hc, HO.out]; rfl)
        clear hc HO
        go_wp2_with (at_lookup; refine wpList_has _ rfl _ _ rfl w.heap.size l.length l rfl HKA.out (low + (k : Int)) rfl HQ.out false HC.out ?_; clear HC HQ)
        go_roundw
        case rel => exact ⟨k + 1, c + 1, by go_num, by go_num, HK.out, HNX, Lib.hid (HKA.out.alloc _), Lib.hid (HB.out.alloc HB.out.size _)⟩
        case measure => have := HK.out; simp [intOf]; omega
    · have hji : ¬ (k : Int) < (N : Int) := by omega
      obtain rfl : k = N := by omega
      go_wp2_with fail
      go_ret
      exact ⟨by rw [HV.out, HO.out] <;> rfl, HB.out⟩

#print axioms pool_pick
#print axioms pool_free
end Go.Proofs.Ytpmmdlfgocjniaa.Po
