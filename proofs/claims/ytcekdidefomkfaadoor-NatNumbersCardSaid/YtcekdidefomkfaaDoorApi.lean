/- nat's calls on texts: Add, Mul, Gcd. -/
import Derived.Test.YtcekdidefomkfaaDoorRead
import Derived.Test.YtcekdidefomkfaaDoorDigits
import Derived.Test.YtcekdidefomkfaaDoorDivisor
namespace Go.Proofs.YtcekdidefomkfaaDoor
open Go.RowKit

theorem big_of_lt {n e : Nat} (h : n < 10 ^ e) (he : e ≤ 9663676416) : Big n :=
  ⟨Nat.lt_of_lt_of_le h (by rw [← pow_nine]; exact Nat.pow_le_pow_right (by decide) (by rw [top_eq]; omega))⟩
theorem isNat_all {l : List UInt8} (h : isNat l = true) : l.all isDig = true := by
  unfold isNat at h
  simp only [Bool.and_eq_true] at h
  exact h.2
theorem isNat_pos {l : List UInt8} (h : isNat l = true) : 0 < l.length := by
  cases l with
  | nil => cases h
  | cons c r => simp
theorem nat_lt {s : ByteArray} (h : isNat s.data.toList = true) : valS s.data.toList < 10 ^ s.size := valS_lt (isNat_all h)
theorem nat_size {s : ByteArray} (h : isNat s.data.toList = true) : 0 < s.size := isNat_pos h
theorem nat_big {s : ByteArray} (h : isNat s.data.toList = true) (hs : s.size ≤ 1000000000) : Big (valS s.data.toList) := big_of_lt (nat_lt h) (by omega)
theorem add_lt {m n a b : Nat} (h1 : m < 10 ^ a) (h2 : n < 10 ^ b) : m + n < 10 ^ (a + b + 1) := by
  have e1 : 10 ^ a ≤ 10 ^ (a + b) := Nat.pow_le_pow_right (by decide) (by omega)
  have e2 : 10 ^ b ≤ 10 ^ (a + b) := Nat.pow_le_pow_right (by decide) (by omega)
  rw [Nat.pow_succ]
  omega
theorem mul_lt {m n a b : Nat} (h1 : m < 10 ^ a) (h2 : n < 10 ^ b) : m * n < 10 ^ (a + b) := by
  rw [Nat.pow_add]
  exact Nat.mul_lt_mul'' h1 h2
theorem gcd_lt {m n a b : Nat} (h1 : m < 10 ^ a) (h2 : n < 10 ^ b) : Nat.gcd m n < 10 ^ (a + b + 1) := by
  have h3 := add_lt h1 h2
  rcases Nat.eq_zero_or_pos m with h | h
  · subst h; rw [Nat.gcd_zero_left]; omega
  · have := Nat.le_of_dvd h (Nat.gcd_dvd_left m n)
    omega

/-- A text comes back; what was there is as it was. -/
def GiveS (w : World) (l : List UInt8) (e : Ending) (w' : World) : Prop := e = .returned (.string ⟨l.toArray⟩) ∧ Below w.heap.size w w'
def addS (l r : List UInt8) : List UInt8 := if isNat l && isNat r then dig (valS l + valS r) else []
def mulS (l r : List UInt8) : List UInt8 := if isNat l && isNat r then dig (valS l * valS r) else []
def gcdS (l r : List UInt8) : List UInt8 := if isNat l && isNat r then dig (Nat.gcd (valS l) (valS r)) else []

set_option maxRecDepth 100000 in
set_option maxHeartbeats 400000 in
theorem add_any (s t : ByteArray) (w : World) (hs : s.size ≤ 1000000000) (ht : t.size ≤ 1000000000) :
    Calls Tryd.prog 30 #[.string s, .string t] w (GiveS w (addS s.data.toList t.data.toList)) := by
  have c1 := fun w => may_any s w (by omega)
  have c2 := fun w => may_any t w (by omega)
  cases h1 : isNat s.data.toList with
  | false =>
    have hr : addS s.data.toList t.data.toList = [] := by unfold addS; rw [h1]; rfl
    rw [hr]
    simp only [h1] at c1
    clear hr h1 c2
    go_enter Tryd.func30, Tryd.ntmps30
    go_wp2_with fail
    refine (c1 _).mono ?_
    rintro e w' ⟨rfl, rfl⟩
    go_wp2_with fail
    go_ret
    exact ⟨rfl, Below.refl _ _⟩
  | true => cases h2 : isNat t.data.toList with
    | false =>
      have hr : addS s.data.toList t.data.toList = [] := by unfold addS; rw [h1, h2]; rfl
      rw [hr]
      simp only [h1] at c1
      simp only [h2] at c2
      clear hr h1 h2
      go_enter Tryd.func30, Tryd.ntmps30
      go_wp2_with fail
      refine (c1 _).mono ?_
      rintro e w' ⟨rfl, rfl⟩
      go_wp2_with fail
      refine (c2 _).mono ?_
      rintro e w' ⟨rfl, rfl⟩
      go_wp2_with fail
      go_ret
      exact ⟨rfl, Below.refl _ _⟩
    | true =>
      have hr : addS s.data.toList t.data.toList = dig (valS s.data.toList + valS t.data.toList) := by unfold addS; rw [h1, h2]; rfl
      rw [hr]
      have r1 := fun w => read_any s w (by omega) (nat_size h1) (isNat_all h1)
      have r2 := fun w => read_any t w (by omega) (nat_size h2) (isNat_all h2)
      have B1 := nat_big h1 hs
      have B2 := nat_big h2 ht
      have B3 : Big (valS s.data.toList + valS t.data.toList) := big_of_lt (add_lt (nat_lt h1) (nat_lt h2)) (by omega)
      simp only [h1] at c1
      simp only [h2] at c2
      clear hr h1 h2
      generalize valS s.data.toList = m at *
      generalize valS t.data.toList = n at *
      have HB := Lib.hid (And.intro B1 (And.intro B2 B3))
      clear B1 B2 B3 hs ht
      go_enter Tryd.func30, Tryd.ntmps30
      go_wp2_with fail
      refine (c1 _).mono ?_
      rintro e w' ⟨rfl, rfl⟩
      go_wp2_with fail
      refine (c2 _).mono ?_
      rintro e w' ⟨rfl, rfl⟩
      go_wp2_with fail
      refine (r1 _).mono ?_
      rintro e w1 ⟨v1, rfl, l1, b1⟩
      go_wp2_with fail
      refine (r2 _).mono ?_
      rintro e w2 ⟨v2, rfl, l2, b2⟩
      go_wp2_with fail
      refine (sum_any _ _ _ _ _ (l1.below b2) l2 HB.out.1 HB.out.2.1).mono ?_
      rintro e w3 ⟨v3, rfl, l3, b3⟩
      go_wp2_with fail
      refine (digits_any _ _ _ l3 HB.out.2.2).mono ?_
      rintro e w4 ⟨rfl, b4⟩
      go_wp2_with fail
      go_ret
      have b12 := b1.trans (b2.mono b1.size)
      have b123 := b12.trans (b3.mono b12.size)
      exact ⟨rfl, b123.trans (b4.mono b123.size)⟩

set_option maxRecDepth 100000 in
set_option maxHeartbeats 400000 in
theorem mul_any (s t : ByteArray) (w : World) (hs : s.size ≤ 1000000000) (ht : t.size ≤ 1000000000) :
    Calls Tryd.prog 32 #[.string s, .string t] w (GiveS w (mulS s.data.toList t.data.toList)) := by
  have c1 := fun w => may_any s w (by omega)
  have c2 := fun w => may_any t w (by omega)
  cases h1 : isNat s.data.toList with
  | false =>
    have hr : mulS s.data.toList t.data.toList = [] := by unfold mulS; rw [h1]; rfl
    rw [hr]
    simp only [h1] at c1
    clear hr h1 c2
    go_enter Tryd.func32, Tryd.ntmps32
    go_wp2_with fail
    refine (c1 _).mono ?_
    rintro e w' ⟨rfl, rfl⟩
    go_wp2_with fail
    go_ret
    exact ⟨rfl, Below.refl _ _⟩
  | true => cases h2 : isNat t.data.toList with
    | false =>
      have hr : mulS s.data.toList t.data.toList = [] := by unfold mulS; rw [h1, h2]; rfl
      rw [hr]
      simp only [h1] at c1
      simp only [h2] at c2
      clear hr h1 h2
      go_enter Tryd.func32, Tryd.ntmps32
      go_wp2_with fail
      refine (c1 _).mono ?_
      rintro e w' ⟨rfl, rfl⟩
      go_wp2_with fail
      refine (c2 _).mono ?_
      rintro e w' ⟨rfl, rfl⟩
      go_wp2_with fail
      go_ret
      exact ⟨rfl, Below.refl _ _⟩
    | true =>
      have hr : mulS s.data.toList t.data.toList = dig (valS s.data.toList * valS t.data.toList) := by unfold mulS; rw [h1, h2]; rfl
      rw [hr]
      have r1 := fun w => read_any s w (by omega) (nat_size h1) (isNat_all h1)
      have r2 := fun w => read_any t w (by omega) (nat_size h2) (isNat_all h2)
      have B1 := nat_big h1 hs
      have B2 := nat_big h2 ht
      have B3 : Big (valS s.data.toList * valS t.data.toList) := big_of_lt (mul_lt (nat_lt h1) (nat_lt h2)) (by omega)
      simp only [h1] at c1
      simp only [h2] at c2
      clear hr h1 h2
      generalize valS s.data.toList = m at *
      generalize valS t.data.toList = n at *
      have HB := Lib.hid (And.intro B1 (And.intro B2 B3))
      clear B1 B2 B3 hs ht
      go_enter Tryd.func32, Tryd.ntmps32
      go_wp2_with fail
      refine (c1 _).mono ?_
      rintro e w' ⟨rfl, rfl⟩
      go_wp2_with fail
      refine (c2 _).mono ?_
      rintro e w' ⟨rfl, rfl⟩
      go_wp2_with fail
      refine (r1 _).mono ?_
      rintro e w1 ⟨v1, rfl, l1, b1⟩
      go_wp2_with fail
      refine (r2 _).mono ?_
      rintro e w2 ⟨v2, rfl, l2, b2⟩
      go_wp2_with fail
      refine (product_any _ _ _ _ _ (l1.below b2) l2 HB.out.1 HB.out.2.1).mono ?_
      rintro e w3 ⟨v3, rfl, l3, b3⟩
      go_wp2_with fail
      refine (digits_any _ _ _ l3 HB.out.2.2).mono ?_
      rintro e w4 ⟨rfl, b4⟩
      go_wp2_with fail
      go_ret
      have b12 := b1.trans (b2.mono b1.size)
      have b123 := b12.trans (b3.mono b12.size)
      exact ⟨rfl, b123.trans (b4.mono b123.size)⟩

set_option maxRecDepth 100000 in
set_option maxHeartbeats 400000 in
theorem gcd_any (s t : ByteArray) (w : World) (hs : s.size ≤ 1000000000) (ht : t.size ≤ 1000000000) :
    Calls Tryd.prog 34 #[.string s, .string t] w (GiveS w (gcdS s.data.toList t.data.toList)) := by
  have c1 := fun w => may_any s w (by omega)
  have c2 := fun w => may_any t w (by omega)
  cases h1 : isNat s.data.toList with
  | false =>
    have hr : gcdS s.data.toList t.data.toList = [] := by unfold gcdS; rw [h1]; rfl
    rw [hr]
    simp only [h1] at c1
    clear hr h1 c2
    go_enter Tryd.func34, Tryd.ntmps34
    go_wp2_with fail
    refine (c1 _).mono ?_
    rintro e w' ⟨rfl, rfl⟩
    go_wp2_with fail
    go_ret
    exact ⟨rfl, Below.refl _ _⟩
  | true => cases h2 : isNat t.data.toList with
    | false =>
      have hr : gcdS s.data.toList t.data.toList = [] := by unfold gcdS; rw [h1, h2]; rfl
      rw [hr]
      simp only [h1] at c1
      simp only [h2] at c2
      clear hr h1 h2
      go_enter Tryd.func34, Tryd.ntmps34
      go_wp2_with fail
      refine (c1 _).mono ?_
      rintro e w' ⟨rfl, rfl⟩
      go_wp2_with fail
      refine (c2 _).mono ?_
      rintro e w' ⟨rfl, rfl⟩
      go_wp2_with fail
      go_ret
      exact ⟨rfl, Below.refl _ _⟩
    | true =>
      have hr : gcdS s.data.toList t.data.toList = dig (Nat.gcd (valS s.data.toList) (valS t.data.toList)) := by unfold gcdS; rw [h1, h2]; rfl
      rw [hr]
      have r1 := fun w => read_any s w (by omega) (nat_size h1) (isNat_all h1)
      have r2 := fun w => read_any t w (by omega) (nat_size h2) (isNat_all h2)
      have B1 := nat_big h1 hs
      have B2 := nat_big h2 ht
      have B3 : Big (Nat.gcd (valS s.data.toList) (valS t.data.toList)) := big_of_lt (gcd_lt (nat_lt h1) (nat_lt h2)) (by omega)
      simp only [h1] at c1
      simp only [h2] at c2
      clear hr h1 h2
      generalize valS s.data.toList = m at *
      generalize valS t.data.toList = n at *
      have HB := Lib.hid (And.intro B1 (And.intro B2 B3))
      clear B1 B2 B3 hs ht
      go_enter Tryd.func34, Tryd.ntmps34
      go_wp2_with fail
      refine (c1 _).mono ?_
      rintro e w' ⟨rfl, rfl⟩
      go_wp2_with fail
      refine (c2 _).mono ?_
      rintro e w' ⟨rfl, rfl⟩
      go_wp2_with fail
      refine (r1 _).mono ?_
      rintro e w1 ⟨v1, rfl, l1, b1⟩
      go_wp2_with fail
      refine (r2 _).mono ?_
      rintro e w2 ⟨v2, rfl, l2, b2⟩
      go_wp2_with fail
      refine (divisor_any _ _ _ _ _ (l1.below b2) l2 HB.out.1 HB.out.2.1).mono ?_
      rintro e w3 ⟨v3, rfl, l3, b3⟩
      go_wp2_with fail
      refine (digits_any _ _ _ l3 HB.out.2.2).mono ?_
      rintro e w4 ⟨rfl, b4⟩
      go_wp2_with fail
      go_ret
      have b12 := b1.trans (b2.mono b1.size)
      have b123 := b12.trans (b3.mono b12.size)
      exact ⟨rfl, b123.trans (b4.mono b123.size)⟩
end Go.Proofs.YtcekdidefomkfaaDoor
