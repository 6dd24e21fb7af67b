/- The document's answers for rounding: Round and Cents. -/
import Derived.Test.YtnahepfnejdcgaaDoorAllRefG
namespace Go.Proofs.YtnahepfnejdcgaaDoor
open Go.RowKit
set_option linter.unusedSimpArgs false
set_option linter.unusedVariables false

theorem wd_nil (z : Int) : (wd z == []) = false := by
  refine beq_false_of_ne fun e => ?_
  have := isW_wd z
  rw [e] at this
  cases this
theorem sgn_le_zero {q : Rat} : sgnQ q ≤ 0 ↔ ¬ 0 < q := by
  rcases rat_cases q with h | h | h
  · rw [sgnQ_neg h]; exact ⟨fun _ k => Rat.lt_irrefl (Rat.lt_of_le_of_ne (Rat.le_trans (Rat.le_of_lt h) (Rat.le_of_lt k)) (fun e => by rw [e] at h; exact Rat.not_lt.2 (Rat.le_of_lt k) h)), fun _ => by decide⟩
  · subst h; exact ⟨fun _ => Rat.lt_irrefl, fun _ => by decide⟩
  · rw [sgnQ_pos h]; exact ⟨fun k => absurd k (by decide), fun k => absurd h k⟩
theorem whS_len {x : Rat} {k : Nat} (lx : Lq x k) (m : Nat) : (whQ m x).natAbs < 10 ^ (k + 1) := by
  have lf : x.floor.natAbs < 10 ^ k := by
    rw [Rat.floor_def]
    exact Nat.lt_of_le_of_lt (natAbs_ediv _ _) lx.num
  have e : 10 ^ k * 10 = 10 ^ (k + 1) := (Nat.pow_succ 10 k).symm
  have := Nat.pow_pos (n := k) (show 0 < 10 by decide)
  rcases whQ_ways m x with h | ⟨h, _⟩ <;> rw [h] <;> omega
theorem Lq.whole {n : Int} {k : Nat} (h : n.natAbs < 10 ^ k) (hk : k ≤ 10000) (h0 : 0 < k) : Lq (n : Rat) k :=
  ⟨by rw [Rat.num_intCast]; exact h, by rw [Rat.den_intCast]; exact Nat.lt_of_lt_of_le (by decide : 1 < 10 ^ 1) (Nat.pow_le_pow_right (by decide) h0), hk, h0⟩
end Go.Proofs.YtnahepfnejdcgaaDoor
