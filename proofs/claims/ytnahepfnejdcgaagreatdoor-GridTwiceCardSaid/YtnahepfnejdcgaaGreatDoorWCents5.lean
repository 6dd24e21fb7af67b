/- The walk of GridCents. -/
import Derived.Deep.CutRange
import Derived.Test.YtnahepfnejdcgaaGreatDoorFixG
namespace Go.Proofs.YtnahepfnejdcgaaGreatDoor
open Go.RowKit
set_option linter.unusedSimpArgs false
set_option linter.unusedVariables false

theorem gd_parts5 {p : ByteArray × ByteArray} (h : gdQ p = true) : p.1.size ≤ 100 ∧ p.2.size ≤ 100 ∧ isR (p.1.data.toList, p.2.data.toList) = true := by
  unfold gdQ shQ at h
  rw [Bool.and_eq_true, Bool.and_eq_true, decide_eq_true_eq, decide_eq_true_eq] at h
  exact ⟨h.1.1, h.1.2, h.2⟩
theorem Lq.rnd {x g : Rat} {j k : Nat} (lx : Lq x j) (lg : Lq g k) (h0 : 0 < g) (m : Nat) (h : (j + k + 1 + 1) + k + 1 ≤ 10000) : Lq (rndQ m x g) ((j + k + 1 + 1) + k + 1) := by
  have lq := Lq.div lx lg (ne_of_pos h0) (by omega)
  have lw : Lq ((whQ m (x / g) : Int) : Rat) (j + k + 1 + 1) := Lq.whole (whS_len lq m) (by omega) (by omega)
  exact Lq.mul lw lg h
theorem Lq.cent : Lq (Rat.divInt 1 100) 3 := Lq.divInt (by decide) (by decide) (by decide) (by decide) (by decide)
theorem one_q (a : Int) {b : Int} (h0 : 0 < b) (hb : b ≤ 1000000) (a0 : -9223372036854775808 ≤ a) (a1 : a ≤ 9223372036854775807) (w : World) : Calls Tryz.prog 25 #[.int .i64 a, .int .i64 b] w (GiveR w (rdN (Rat.divInt a b), rdD (Rat.divInt a b))) := by
  have c := rqone_any a b w a0 a1 (by omega) (by omega)
  rw [makeR_ww (by omega)] at c
  exact c
theorem Lq.one {a b : Int} (h0 : 0 < b) (hb : b ≤ 1000000) (a0 : -1000000000000 ≤ a) (a1 : a ≤ 1000000000000) : Lq (Rat.divInt a b) 13 := Lq.divInt (by omega) (Nat.lt_of_le_of_lt (show a.natAbs ≤ 1000000000000 by omega) (by decide)) (Nat.lt_of_le_of_lt (show b.natAbs ≤ 1000000 by omega) (by decide)) (by decide) (by decide)
end Go.Proofs.YtnahepfnejdcgaaGreatDoor
