/- Small things of memory that all texts lean on: places behind one another, rows of one's own, new blocks. -/
import Derived.Test.YtfeiafjeidnmkaaBlocks
import Derived.Test.YtfeiafjeidnmkaaRows
import Derived.Laws.AppendOwn
import Derived.Laws.OwnMore
import Derived.Laws.AppendOwnNone
import Derived.Laws.Slices
import Derived.OwnWalk
import Derived.Laws.IdiomStrings
import Derived.Laws.BytesArg
import Derived.WalkKit
import Derived.ProofKit
import Derived.OpenShut
namespace Go.Proofs.Ytfeiafjeidnmkaa
open Go.ChangeShapes Go.WideShapes Go.ChangeAt Go.RowKit
set_option maxRecDepth 100000

abbrev byteV (c : UInt8) : Value := .int .u8 (c.toNat : Int)
theorem add_block (a : Addr) (i : Nat) : (a.add i).block = a.block := by unfold Addr.add; split <;> rfl
theorem add_zero' (a : Addr) : a.add 0 = a := rfl
theorem byteV_u8 (n : Int) (h0 : 0 ≤ n) (h1 : n ≤ 255) : byteV (UInt8.ofNat n.toNat) = .int .u8 n := by
  unfold byteV; rw [UInt8.toNat_ofNat_of_lt' (by show n.toNat < 256; omega)]; congr 1; omega

theorem add_add' (a : Addr) (l j : Nat) (hl : 0 < l) : (a.add l).add j = a.add (l + j) := by
  unfold Addr.add
  have h1 : ¬ l = 0 := by omega
  by_cases hj : j = 0
  · subst hj; simp [h1]
  · simp [h1, hj]; omega

theorem byte_ne {c d : UInt8} (h : c ≠ d) : ((c.toNat : Int) == (d.toNat : Int)) = false := beq_eq_false_iff_ne.2 (fun e => h (UInt8.toNat.inj (by omega)))
theorem info_u8 : (Try.prog.info? 5).map (fun i => (i.zero, i.size, i.bytes)) = some (some (.int .u8 0), 1, 1) := by kernel_rfl
theorem own_other {w : World} {base : Nat} {e : TypeId} {size : Nat} {v : Value} {n : Nat} {xs : List Value} (h : w.ownsRow base e size v n xs) {a : Addr} (ha : a.block < base) (u : Value) : (w.setCell a u).ownsRow base e size v n xs := by
  refine ⟨h.1, ?_⟩
  rcases h.2 with ⟨rfl, hn⟩ | ⟨g, cap, cur, rfl, hg, hh, hr⟩
  · exact Or.inl ⟨rfl, hn⟩
  · exact Or.inr ⟨g, cap, cur, rfl, hg, by rw [Below.heap_setCell _ _ _ _ (by omega)]; exact hh, hr⟩
theorem row_grown {w w' : World} {b : Nat} {t : TypeId} {cs : Array Value} {row : Option Nat} (h : IsRow w b t cs) (hg : w.grownBy w' row) (hne : some b ≠ row) : IsRow w' b t cs := by
  have hl := h.lt
  unfold IsRow at h ⊢; rw [hg.block b hl hne]; exact h
theorem own_ge {w : World} {base : Nat} {e : TypeId} {v : Value} {n : Nat} {xs : List Value} (h : w.ownsRow base e 1 v n xs) : ∀ k, v.ownBlock = some k → base ≤ k := by
  intro k hk
  exact (h.lt k hk).1
theorem one_new (wr : World) (x : Value) (t : TypeId) : ∀ j u, ([x] : List Value)[j]? = some u → (wr.alloc (.cells #[x] t)).cell? (Addr.add ⟨wr.heap.size, 0, none⟩ j) = some u := by
  intro j u h
  match j, h with
  | 0, h =>
    simp only [List.getElem?_cons_zero, Option.some.injEq] at h
    subst h
    exact (IsRow.made wr t #[x]).cell 0
  | j + 1, h => simp at h
theorem own_form {w : World} {base : Nat} {e : TypeId} {v : Value} {n : Nat} {xs : List Value} (h : w.ownsRow base e 1 v n xs) : ∃ p c, v = .slice p n c := by
  rcases h.2 with ⟨rfl, rfl⟩ | ⟨g, cap, cur, rfl, _⟩
  · exact ⟨none, 0, rfl⟩
  · exact ⟨_, cap, rfl⟩


#print axioms one_new
end Go.Proofs.Ytfeiafjeidnmkaa
