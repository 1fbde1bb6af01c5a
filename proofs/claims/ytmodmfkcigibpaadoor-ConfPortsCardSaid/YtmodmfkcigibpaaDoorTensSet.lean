/- Tenants of one's own in their block; other ports written into it. -/
import Derived.Test.YtmodmfkcigibpaaDoorTens
namespace Go.Proofs.YtmodmfkcigibpaaDoor.Co
open Go.Proofs.YtmodmfkcigibpaaDoor Go.Proofs.YtmodmfkcigibpaaDoor.Ac
open Go Go.ChangeShapes Go.WideShapes Go.ChangeAt Go.RowKit
set_option maxRecDepth 100000
set_option linter.unusedVariables false

/-- the block of such tenants -/
theorem OwnTens.row {base : Nat} {w : World} {v : Value} {l : List Tn} (h : OwnTens base w v l) {n : Nat} (hn : n = l.length) (hp : 0 < n) :
    ∃ g cap cur, v = .slice (Option.some ⟨g, 0, none⟩) n cap ∧ base ≤ g ∧ IsRow w g 40 cur ∧ n ≤ cap ∧ cap ≤ maxLen ∧ ∀ (j : Nat) (u : Value), (flatT l)[j]? = Option.some u → cur[j]? = Option.some u := by
  rcases h.2 with ⟨rfl, h'⟩ | ⟨g, cap, cur, hv, hg, hh, h1, hm, _⟩
  · omega
  · have hr : IsRow w g 40 cur := hh
    refine ⟨g, cap, cur, by rw [hv, hn], hg, hr, by omega, hm, fun j u hj => ?_⟩
    have := World.ownsRow.cells h (g := g) (by rw [hv]; rfl) j u hj
    rw [show (⟨g, 0, none⟩ : Addr).add j = ⟨g, j, none⟩ from by unfold Addr.add; split <;> simp_all, hr.cell] at this
    exact this
/-- tenants that a block holds -/
theorem tens_cur {w : World} {g cap : Nat} {cur : Array Value} {l : List Tn} {n : Nat} (hn : n = l.length) (h : IsRow w g 40 cur) (h1 : n ≤ cap) (h2 : cap ≤ maxLen) (hr : RulesOf w l)
    (hc : ∀ i (hi : i < l.length) j, j < 14 → cur[i * 14 + j]? = (tenCs l[i])[j]?) : TensIs w (.slice (Option.some ⟨g, 0, none⟩) n cap) l := by
  subst hn
  refine ⟨hr, Or.inr ⟨_, _, rfl, h1, h2, fun i hi j hj => ?_⟩⟩
  rw [show (⟨g, 0, none⟩ : Addr).add (i * 14 + j) = ⟨g, i * 14 + j, none⟩ from by unfold Addr.add; split <;> simp_all, h.cell]
  exact hc i hi j hj
/-- other ports written into a block -/
theorem cur_ports {cur : Array Value} {l : List Tn} (hc : ∀ (j : Nat) (u : Value), (flatT l)[j]? = Option.some u → cur[j]? = Option.some u) {i : Nat} (hi : i < l.length) (lo hh : Int) :
    ∀ k (hk : k < (l.set i (ported l[i] lo hh)).length) j, j < 14 → ((cur.setIfInBounds (i * 14 + 7) (.int .i64 lo)).setIfInBounds (i * 14 + 8) (.int .i64 hh))[k * 14 + j]? = (tenCs (l.set i (ported l[i] lo hh))[k])[j]? := by
  intro k hk j hj
  rw [List.length_set] at hk
  have h0 : ∀ m (hm : m < l.length) j, j < 14 → cur[m * 14 + j]? = (tenCs l[m])[j]? := fun m hm j hj => by
    have hx : ∃ u, (tenCs l[m])[j]? = Option.some u := ⟨_, List.getElem?_eq_getElem (by exact hj)⟩
    obtain ⟨u, hu⟩ := hx
    rw [hu]
    exact hc _ _ (by rw [flatT_at hm hj]; exact hu)
  have hs : ∀ j, j < 14 → i * 14 + j < cur.size := fun j hj => by
    have := h0 i hi j hj
    rw [List.getElem?_eq_getElem (by exact hj)] at this
    exact (Array.getElem?_eq_some_iff.1 this).1
  rw [Array.getElem?_setIfInBounds, Array.getElem?_setIfInBounds, Array.size_setIfInBounds]
  by_cases hki : k = i
  · subst hki
    rw [List.getElem_set_self]
    by_cases h8 : j = 8
    · subst h8
      rw [if_pos rfl, if_pos (hs 8 (by omega))]
      rfl
    · rw [if_neg (by omega)]
      by_cases h7 : j = 7
      · subst h7
        rw [if_pos rfl, if_pos (hs 7 (by omega))]
        rfl
      · rw [if_neg (by omega), h0 k hi j hj]
        have : j = 0 ∨ j = 1 ∨ j = 2 ∨ j = 3 ∨ j = 4 ∨ j = 5 ∨ j = 6 ∨ j = 9 ∨ j = 10 ∨ j = 11 ∨ j = 12 ∨ j = 13 := by omega
        rcases this with rfl | rfl | rfl | rfl | rfl | rfl | rfl | rfl | rfl | rfl | rfl | rfl <;> rfl
  · rw [if_neg (by omega), if_neg (by omega), h0 k hk j hj, List.getElem_set_ne (fun e => hki e.symm)]

#print axioms cur_ports
end Go.Proofs.YtmodmfkcigibpaaDoor.Co
