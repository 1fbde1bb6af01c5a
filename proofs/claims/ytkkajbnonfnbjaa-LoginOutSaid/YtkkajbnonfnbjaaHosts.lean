/- Tenants ([]api.Tenant) of which only the hosts are read: what a slice of them reads as; an argument. -/
import Derived.Test.YtkkajbnonfnbjaaMem
import Derived.Below
import Derived.Deep.Slices
import Derived.ChangeSame
import Derived.Carry
namespace Go.Proofs.Ytkkajbnonfnbjaa
open Go Go.ChangeShapes Go.WideShapes Go.ChangeAt Go.RowKit Go.Deep
set_option maxRecDepth 100000

/-- the tenants' hosts from a on -/
def HostsAt (w : World) (a : Addr) (l : List (List UInt8)) : Prop := ∀ i (h : i < l.length), (∃ u, w.cell? (a.add (i * 14)) = some u) ∧ w.cell? (a.add (i * 14 + 1)) = some (.string ⟨l[i].toArray⟩)
def HostsIs (w : World) (v : Value) (l : List (List UInt8)) : Prop :=
  (v = .slice none 0 0 ∧ l = []) ∨ ∃ a c, v = .slice (some a) l.length c ∧ l.length ≤ maxLen ∧ HostsAt w a l
theorem HostsAt.lt {w : World} {a : Addr} {l : List (List UInt8)} (h : HostsAt w a l) (hp : 0 < l.length) : a.block < w.heap.size := by
  have := World.block_lt_of_cell? w _ (h 0 hp).2
  rwa [add_block] at this
theorem HostsIs.nil (w : World) : HostsIs w (.slice none 0 0) [] := Or.inl ⟨rfl, rfl⟩
theorem HostsIs.call {w w' : World} {v : Value} {l : List (List UInt8)} (h : HostsIs w v l) (hb : Below w.heap.size w w') : HostsIs w' v l := by
  rcases h with h | ⟨a, c, rfl, h1, h2⟩
  · exact Or.inl h
  · refine Or.inr ⟨a, c, rfl, h1, fun i hi => ?_⟩
    rw [hb.cell (by rw [add_block]; exact h2.lt (by omega)), hb.cell (by rw [add_block]; exact h2.lt (by omega))]
    exact h2 i hi
theorem HostsIs.alloc {w : World} {v : Value} {l : List (List UInt8)} (h : HostsIs w v l) (o : Obj) : HostsIs (w.alloc o) v l := h.call ((Below.refl _ _).alloc (Nat.le_refl _) o)
theorem HostsIs.form {w : World} {v : Value} {l : List (List UInt8)} (h : HostsIs w v l) : ∃ p n c, v = .slice p n c ∧ n = l.length := by
  rcases h with ⟨rfl, rfl⟩ | ⟨a, c, rfl, _⟩
  · exact ⟨none, 0, 0, rfl, rfl⟩
  · exact ⟨some a, _, c, rfl, rfl⟩
theorem HostsIs.max {w : World} {v : Value} {l : List (List UInt8)} (h : HostsIs w v l) : l.length ≤ 9223372036854775807 := by
  rcases h with ⟨_, rfl⟩ | ⟨a, c, _, h1, _⟩
  · exact Nat.zero_le _
  · unfold maxLen at h1; omega
theorem HostsIs.some {w : World} {p : Option Addr} {n c : Nat} {l : List (List UInt8)} (h : HostsIs w (.slice p n c) l) (hne : 0 < l.length) :
    ∃ b o, p = some ⟨b, o, none⟩ ∧ b < w.heap.size ∧ ∀ i (h : i < l.length), w.cell? ⟨b, o + i * 14 + 1, none⟩ = some (.string ⟨l[i].toArray⟩) := by
  rcases h with ⟨_, h⟩ | ⟨a, c', e, _, h3⟩
  · rw [h] at hne; exact absurd hne (by decide)
  · injection e with e1 e2 e3
    subst e1
    have hl := h3.lt hne
    obtain ⟨u0, h0⟩ := (h3 0 hne).1
    have ha : a = ⟨a.block, a.off, none⟩ := by
      have := World.cell?_spot h0
      rw [Nat.zero_mul, add_zero'] at this
      cases a
      simp_all
    refine ⟨a.block, a.off, by rw [← ha], hl, fun i hi => ?_⟩
    have e : ∀ k, a.add k = ⟨a.block, a.off + k, none⟩ := by
      intro k
      generalize hb : a.block = b at *
      generalize ho : a.off = o at *
      rw [ha]; unfold Addr.add; split <;> simp_all
    have := (h3 i hi).2
    rw [e] at this
    exact this

variable {H : Type} {enc : TypeId × Value → H}
theorem tenant_cells : Try.prog.cellsOf 48 = 14 := by kernel_rfl
theorem laid_out : laidOutB Try.prog = true := by kernel_rfl

theorem open_hosts {r : Reach} {W : World} {b0 : Nat} {v : Value} {d : DataW H} {ps : List MemPlace} (hval : Value.okWide Try.prog W r b0 24 v)
    (hd : DataW.Trod enc Try.prog W 0 (fun _ => true) true 24 v d ps) : ∃ l, HostsIs W v l := by
  obtain ⟨a, n, c, rfl⟩ := okWide_slice Try.underlying24 hval
  obtain ⟨fuel, hf⟩ := hd
  rcases open_slice Try.underlying24 hf with ⟨hc, _⟩ | ⟨a', len, cap, m, n', D, Pl, hc, hb, hl, hm, hmm, _, hx⟩
  · have e : Value.slice a n c = .slice none 0 0 := by simpa [Value.cells] using hc
    rw [e]
    exact ⟨[], HostsIs.nil _⟩
  · have e : Value.slice a n c = .slice (some a') len cap := by simpa [Value.cells] using hc
    rw [e]
    rw [if_pos rfl] at hmm
    subst hmm
    rw [tenant_cells] at hx
    have each : ∀ i, i < m → ∃ s : List UInt8, (∃ u, W.cell? (a'.add (i * 14)) = some u) ∧ W.cell? (a'.add (i * 14 + 1)) = some (.string ⟨s.toArray⟩) := fun i hi => by
      obtain ⟨cs', h1, h2⟩ := hx i hi
      obtain ⟨_, hlen, hcell⟩ := World.cells?_some h1
      obtain ⟨xs, k, _, _, _, hll, hfl⟩ := DataW.trod_struct Try.underlying48 h2
      have h3 := hfl 1 _ rfl
      have hone : (cs'.drop 1).take 1 = [cs'[1]'(by omega)] := by
        rw [List.drop_eq_getElem_cons (by omega)]; rfl
      have hc1 := hcell 1 (by omega)
      have adds : (a'.add (i * 14)).add 1 = a'.add (i * 14 + 1) := by
        by_cases h0 : i = 0
        · subst h0; simp [add_zero']
        · exact add_add' a' (i * 14) 1 (by omega)
      rw [adds, List.getElem?_eq_getElem (by omega)] at hc1
      have h4 : DataW.trod enc Try.prog W 0 (fun _ => true) true k 9 ((cs'.drop 1).take (Try.prog.cellsOf 9)) = xs[1]? := h3
      rw [show Try.prog.cellsOf 9 = 1 from by kernel_rfl, hone] at h4
      have hxs : ∃ y, xs[1]? = some y := by
        cases hq : xs[1]? with
        | some y => exact ⟨y, rfl⟩
        | none => exact absurd hq (by rw [List.getElem?_eq_getElem (by rw [hll]; decide)]; simp)
      obtain ⟨y, hy⟩ := hxs
      rw [hy] at h4
      obtain ⟨⟨⟨s⟩⟩, e1, _, _⟩ := DataW.trod_string Try.underlying9 h4
      simp at e1
      have hc0 := hcell 0 (by omega)
      rw [add_zero', List.getElem?_eq_getElem (by omega)] at hc0
      exact ⟨s, ⟨_, hc0⟩, by rw [hc1, e1]⟩
    obtain ⟨F, hF⟩ := choose_lt each
    exact ⟨(List.range len).map F, Or.inr ⟨a', m, by simp, by simp; omega, fun i hi => by
      simp only [List.length_map, List.length_range] at hi
      obtain ⟨h1, h2⟩ := hF i (by omega)
      exact ⟨h1, by rw [h2]; simp⟩⟩⟩

#print axioms open_hosts
end Go.Proofs.Ytkkajbnonfnbjaa
