/- Whether rows of lines are the same; what a book has of an account and asset. -/
import Derived.Test.YtmllklfjngapiaaDoorSch
import Derived.Test.YtmllklfjngapiaaDoorAllRefB3
namespace Go.Proofs.YtmllklfjngapiaaDoor
open Go.RowKit
set_option linter.unusedSimpArgs false
set_option linter.unusedVariables false

theorem same_stop {ls ms : List Ln} {k : Nat} {x y : Ln} (hx : ls[k]? = some x) (hy : ms[k]? = some y) (h : x ≠ y) : (ls == ms) = false := beq_false_of_ne fun e => by
  subst e; rw [hx] at hy; exact h (Option.some.inj hy)
theorem same_end {ls ms : List Ln} (hl : ls.length = ms.length) (h : ∀ (j : Nat) (x : Ln), j < ls.length → ls[j]? = some x → ms[j]? = some x) : (ls == ms) = true := by
  rw [beq_iff_eq]
  refine List.ext_getElem hl fun i h1 h2 => ?_
  have := h i ls[i] h1 (List.getElem?_eq_getElem h1)
  rw [List.getElem?_eq_getElem h2] at this
  exact (Option.some.inj this).symm
theorem moreJ {ls : List Ln} {P : Nat → Ln → Prop} {k : Nat} {z : Ln} (h : ∀ (j : Nat) (x : Ln), j < k → ls[j]? = some x → P j x) (hz : ls[k]? = some z) (hp : P k z) : ∀ (j : Nat) (x : Ln), j < k + 1 → ls[j]? = some x → P j x := fun j x hj hx => by
  by_cases e : j = k
  · subst e
    rw [hz] at hx
    exact Option.some.inj hx ▸ hp
  · exact h j x (by omega) hx
theorem lineOf_at {ls : List Ln} {k : Key} {j : Nat} {x : Ln} (hx : ls[j]? = some x) (hk : x.1 = k) (h : ∀ (i : Nat) (y : Ln), i < j → ls[i]? = some y → (y.1 == k) = false) : lineOf ls k = some x := by
  obtain ⟨hj, e⟩ := List.getElem?_eq_some_iff.1 hx
  unfold lineOf
  rw [List.find?_eq_some_iff_getElem]
  refine ⟨by simpa using hk, j, hj, e, fun i hi => ?_⟩
  have := h i ls[i] hi (List.getElem?_eq_getElem (by omega))
  simpa using this
theorem lineOf_no {ls : List Ln} {k : Key} (h : ∀ (i : Nat) (y : Ln), i < ls.length → ls[i]? = some y → (y.1 == k) = false) : lineOf ls k = none := of_none fun x hx => by
  obtain ⟨i, hi, rfl⟩ := List.getElem_of_mem hx
  exact ne_of_beq_false (h i _ hi (List.getElem?_eq_getElem hi))
end Go.Proofs.YtmllklfjngapiaaDoor
