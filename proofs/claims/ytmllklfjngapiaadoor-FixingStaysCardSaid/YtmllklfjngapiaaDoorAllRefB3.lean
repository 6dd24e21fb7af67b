/- Whether a book may be. -/
import Derived.Test.YtmllklfjngapiaaDoorSch
import Derived.Test.YtmllklfjngapiaaDoorAllRefB2
namespace Go.Proofs.YtmllklfjngapiaaDoor
open Go.RowKit
set_option linter.unusedSimpArgs false
set_option linter.unusedVariables false

/-- Texts that are not too long. -/
def SzL (x : Ln) : Prop := (x.1.1.length ≤ 4611686018427387904 ∧ x.1.2.length ≤ 4611686018427387904) ∧ (x.2.1.length ≤ 20000 ∧ x.2.2.length ≤ 20000)
theorem okAt_no {ls : List Ln} {k : Nat} {x : Ln} (hx : ls[k]? = some x) (h : lineIn x = false) : okAt ls k = false := by
  unfold okAt; rw [hx]
  show (lineIn x && _) = false
  rw [h, Bool.false_and]
theorem okAt_0 {ls : List Ln} {x : Ln} (hx : ls[0]? = some x) (h : lineIn x = true) : okAt ls 0 = true := by
  unfold okAt; rw [hx]
  show (lineIn x && _) = true
  rw [h]; rfl
theorem okAt_s {ls : List Ln} {m : Nat} {x y : Ln} (hx : ls[m + 1]? = some x) (hy : ls[m]? = some y) (h : lineIn x = true) : okAt ls (m + 1) = aheadK y.1 x.1 := by
  unfold okAt; rw [hx]
  show (lineIn x && (decide (m + 1 = 0) || (match ls[m + 1 - 1]? with | some y => aheadK y.1 x.1 | none => false))) = _
  rw [h, decide_eq_false (Nat.succ_ne_zero m), Nat.add_sub_cancel, hy]; rfl
theorem line_in {a s n d : List UInt8} {v : Bool} {z : Int} (h1 : lineOk ((a, s), (n, d)) = v) (h2 : sgnR (n, d) = z) : lineIn ((a, s), (n, d)) = (v && !(z == 0)) := by
  unfold lineIn; rw [h1]; show (v && !(sgnR (n, d) == 0)) = _; rw [h2]
theorem mayB_end {ls : List Ln} (h : ∀ j, j < ls.length → okAt ls j = true) : mayB ls = true := mayB_iff.2 h
theorem less_more {P : Nat → Bool} {k : Nat} (h : ∀ j, j < k → P j = true) (hp : P k = true) : ∀ j, j < k + 1 → P j = true := fun j hj => by
  by_cases e : j = k
  · exact e ▸ hp
  · exact h j (by omega)
end Go.Proofs.YtmllklfjngapiaaDoor
