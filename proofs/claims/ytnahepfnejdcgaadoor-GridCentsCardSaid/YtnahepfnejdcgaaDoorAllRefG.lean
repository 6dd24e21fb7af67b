/- The document's answers for rounding: to plain functions. -/
import Derived.Test.YtnahepfnejdcgaaDoorAllRefQ5
import Derived.Test.YtnahepfnejdcgaaDoorGridNum2
namespace Go.Proofs.YtnahepfnejdcgaaDoor
open Go.RowKit
set_option linter.unusedSimpArgs false
set_option linter.unusedVariables false

/-- Nothing is wanted of the world. -/
structure NoW (w : World) : Prop where
  ok : True
theorem NoW.below {w w' : World} (_ : NoW w) (_ : Below w.heap.size w w') : NoW w' := ⟨trivial⟩
theorem noW (w : World) : NoW w := ⟨trivial⟩
theorem sgn_lt_zero {q : Rat} : sgnQ q < 0 ↔ q < 0 := by
  rcases rat_cases q with h | h | h
  · rw [sgnQ_neg h]; exact ⟨fun _ => h, fun _ => by decide⟩
  · subst h; exact ⟨fun k => absurd k (by decide), fun k => absurd k (Rat.lt_irrefl)⟩
  · rw [sgnQ_pos h]; exact ⟨fun k => absurd k (by decide), fun k => absurd (Rat.le_of_lt h) (Rat.not_le.2 k)⟩
theorem ne_ways {x : Rat} {n : Int} (h : (n : Rat) ≠ x) : ((wd n == rdN x) = false ∧ (rdN x == wd n) = false) ∨ ((wd n == rdN x) = true ∧ (rdD x == [49]) = false ∧ ([49] == rdD x) = false) := by
  cases e : (wd n == rdN x) with
  | false => exact .inl ⟨rfl, by rw [BEq.comm]; exact e⟩
  | true =>
    refine .inr ⟨rfl, ?_, ?_⟩
    all_goals
      refine beq_false_of_ne fun k => h (rd_inj ?_)
      have k : rdD x = [49] := by first | exact k | exact k.symm
      exact Prod.ext ((rdN_int n).trans (eq_of_beq e)) ((rdD_int n).trans k.symm)
theorem wd_odd (n : Int) : (wd (n % 2) == [48]) = decide (n % 2 = 0) := by
  have h : n % 2 = 0 ∨ n % 2 = 1 := by omega
  rcases h with h | h <;> rw [h]
  · rw [wd_0]; rfl
  · rw [wd_pos (by decide), show (1 : Int).natAbs = 1 from rfl, dig_1]; rfl
end Go.Proofs.YtnahepfnejdcgaaDoor
