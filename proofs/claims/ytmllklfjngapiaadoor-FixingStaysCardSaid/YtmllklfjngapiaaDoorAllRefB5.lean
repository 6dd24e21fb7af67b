/- The holders of an asset: a row that grows. -/
import Derived.OwnWalk
import Derived.Laws.AppendOwn
import Derived.Laws.OwnMore
import Derived.Test.YtmllklfjngapiaaDoorAllRefB4
namespace Go.Proofs.YtmllklfjngapiaaDoor
open Go.RowKit
set_option linter.unusedSimpArgs false
set_option linter.unusedVariables false

/-- The cells of a row of lines. -/
def cellsL (ls : List Ln) : List Value := ls.flatMap fun x => [.string ⟨x.1.1.toArray⟩, .string ⟨x.1.2.toArray⟩, .string ⟨x.2.1.toArray⟩, .string ⟨x.2.2.toArray⟩]
theorem cellsL_cons (x : Ln) (r : List Ln) : cellsL (x :: r) = .string ⟨x.1.1.toArray⟩ :: .string ⟨x.1.2.toArray⟩ :: .string ⟨x.2.1.toArray⟩ :: .string ⟨x.2.2.toArray⟩ :: cellsL r := rfl
theorem cellsL_append (l m : List Ln) : cellsL (l ++ m) = cellsL l ++ cellsL m := List.flatMap_append
theorem cellsL_snoc (l : List Ln) (a s n d : List UInt8) : cellsL l ++ [.string ⟨a.toArray⟩, .string ⟨s.toArray⟩, .string ⟨n.toArray⟩, .string ⟨d.toArray⟩] = cellsL (l ++ [((a, s), (n, d))]) := by rw [cellsL_append]; rfl
theorem cellsL_len : ∀ l : List Ln, (cellsL l).length = l.length * 4
  | [] => rfl
  | x :: r => by
    rw [cellsL_cons]
    simp only [List.length_cons]
    rw [cellsL_len r]
    omega
theorem cellsL_get : ∀ {l : List Ln} {j : Nat} {x : Ln}, l[j]? = some x → (cellsL l)[j * 4]? = some (.string ⟨x.1.1.toArray⟩) ∧ (cellsL l)[j * 4 + 1]? = some (.string ⟨x.1.2.toArray⟩) ∧ (cellsL l)[j * 4 + 2]? = some (.string ⟨x.2.1.toArray⟩) ∧ (cellsL l)[j * 4 + 3]? = some (.string ⟨x.2.2.toArray⟩)
  | [], _, _, h => by cases h
  | y :: r, 0, x, h => by
    obtain rfl : y = x := Option.some.inj h
    rw [cellsL_cons]
    exact ⟨rfl, rfl, rfl, rfl⟩
  | y :: r, j + 1, x, h => by
    have k := cellsL_get (l := r) (j := j) (x := x) h
    rw [cellsL_cons, show (j + 1) * 4 = j * 4 + 4 by omega]
    exact k
/-- A row of lines is answered. -/
def GiveL (w : World) (ls : List Ln) (e : Ending) (w' : World) : Prop := (∃ p c, e = .returned (.slice p ls.length c) ∧ ls.length ≤ c ∧ Lns w' p ls ∧ (∀ a, p = some a → w.heap.size ≤ a.block)) ∧ Below w.heap.size w w'
theorem cell_four (w : World) (a b c d : Value) (t : TypeId) : ∀ (j : Nat) (u : Value), [a, b, c, d][j]? = some u → (w.alloc (.cells #[a, b, c, d] t)).cell? ((⟨w.heap.size, 0, none⟩ : Addr).add j) = some u := fun j u h => by
  have e : ((⟨w.heap.size, 0, none⟩ : Addr).add j) = ⟨w.heap.size, j, none⟩ := by rw [Addr.add_lit, Nat.zero_add]
  rw [e, cell_new _ _ _ _ rfl]
  rw [← h]
  exact (List.getElem?_toArray ..)
theorem take_more {ls : List Ln} {k : Nat} {x : Ln} (f : Ln → Bool) (hx : ls[k]? = some x) : (ls.take (k + 1)).filter f = (ls.take k).filter f ++ (if f x then [x] else []) := by
  rw [List.take_add_one, hx, List.filter_append]
  congr 1
  show List.filter f [x] = _
  cases e : f x <;> simp [e]
end Go.Proofs.YtmllklfjngapiaaDoor
