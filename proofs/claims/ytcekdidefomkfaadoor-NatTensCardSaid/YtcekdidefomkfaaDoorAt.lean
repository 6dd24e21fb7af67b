/- nat.at: the limb there, 0 beyond the end. -/
import Derived.Test.YtcekdidefomkfaaDoorRows
import Derived.Test.YtcekdidefomkfaaDoorMem
namespace Go.Proofs.YtcekdidefomkfaaDoor
open Go.RowKit

/-- The limb at place i; 0 where there is none. -/
def atL (xs : List Nat) (i : Int) : Nat := if i < 0 then 0 else gl xs i.toNat

theorem atL_nat (xs : List Nat) (k : Nat) : atL xs (k : Int) = gl xs k := by unfold atL; rw [if_neg (by omega)]; rfl
theorem atL_lt {xs : List Nat} (h : Small xs) (i : Int) : atL xs i < 1000000000 := by
  unfold atL; split
  · decide
  · exact h.gl _

set_option maxHeartbeats 400000 in
theorem at_any (w : World) (v : Value) (xs : List Nat) (i : Int) (hl : Lim w v xs) (h1 : -1 ≤ i) (h2 : i ≤ 4611686018427387904) :
    Calls Tryd.prog 75 #[v, .int .i64 i] w fun e w' => e = .returned (.int .u64 ((atL xs i : Nat) : Int)) ∧ w = w' := by
  obtain ⟨hs, ⟨rfl, rfl⟩ | ⟨b, off, cap, rfl, hcap, hm, hb, ha⟩⟩ := hl
  · have hz : atL [] i = 0 := by unfold atL; split <;> rfl
    have HZ := Lib.hid hz; clear hz
    go_enter Tryd.func75, Tryd.ntmps75
    go_wp2
    all_goals
      go_ret
      exact ⟨ret_int (by rw [HZ.out]; rfl), rfl⟩
  · rcases Int.lt_or_le i 0 with hi | hi
    · have hz : atL xs i = 0 := by unfold atL; rw [if_pos hi]
      have HZ := Lib.hid hz; clear hz
      go_enter Tryd.func75, Tryd.ntmps75
      go_wp2
      go_ret
      exact ⟨ret_int (by rw [HZ.out]; rfl), rfl⟩
    · rcases Int.lt_or_le i xs.length with hn | hn
      · have hc := ha i.toNat (by omega)
        have hz : atL xs i = gl xs i.toNat := by unfold atL; rw [if_neg (by omega)]
        have HZ := Lib.hid hz; clear hz
        go_enter Tryd.func75, Tryd.ntmps75
        go_wp2
        go_ret
        exact ⟨ret_int (by rw [HZ.out]), rfl⟩
      · have hz : atL xs i = 0 := by unfold atL; rw [if_neg (by omega)]; exact gl_beyond (by omega)
        have HZ := Lib.hid hz; clear hz
        go_enter Tryd.func75, Tryd.ntmps75
        go_wp2
        go_ret
        exact ⟨ret_int (by rw [HZ.out]; rfl), rfl⟩

theorem at_nat (w : World) (v : Value) (xs : List Nat) (k : Nat) (hl : Lim w v xs) (h2 : k ≤ 4611686018427387904) :
    Calls Tryd.prog 75 #[v, .int .i64 (k : Int)] w fun e w' => e = .returned (.int .u64 ((gl xs k : Nat) : Int)) ∧ w = w' := by
  have h := at_any w v xs k hl (by omega) (by omega)
  rw [atL_nat] at h
  exact h
theorem at_same (w : World) (v : Value) (xs : List Nat) (k : Nat) (hl : Lim w v xs) (h2 : k ≤ 4611686018427387904) :
    Calls Tryd.prog 75 #[v, .int .i64 (k : Int)] w fun e w' => e = .returned (.int .u64 ((gl xs k : Nat) : Int)) ∧ w' = w :=
  (at_nat w v xs k hl h2).mono fun _ _ ⟨he, hw⟩ => ⟨he, hw.symm⟩
end Go.Proofs.YtcekdidefomkfaaDoor
