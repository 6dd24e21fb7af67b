/- Plain numbers: the library's words for numerals are ours. Own work; no program text. -/
import Derived.Lib.ItoaNum
import Derived.Lib.AtoiAll
import Derived.Test.YtcekdidefomkfaaDoorNumT
namespace Go.Proofs.YtcekdidefomkfaaDoor

theorem decDigits_dig (n : Nat) : Lib.decDigits n = dig n := by
  induction n using Nat.strongRecOn with
  | _ n ih =>
    rw [Lib.decDigits, dig]
    by_cases h : n < 10
    · rw [dif_pos h, dif_pos h]
      unfold digN
      rw [Nat.mod_eq_of_lt h]
    · rw [dif_neg h, dif_neg h, ih (n / 10) (by omega)]
      rfl
theorem itoa_dig (n : Nat) : Lib.itoa (n : Int) = dig n := by
  unfold Lib.itoa
  rw [if_neg (by omega), Int.toNat_natCast, decDigits_dig]

theorem parse_dig (l : List UInt8) (acc : Nat) (h : l.all isDig = true) (ha : acc < 18446744073709551616) :
    Lib.parseUint10 acc l = if acc * 10 ^ l.length + valS l < 18446744073709551616 then .ok (acc * 10 ^ l.length + valS l) else .range := by
  induction l generalizing acc with
  | nil =>
    have e : acc * 10 ^ ([] : List UInt8).length + valS [] = acc := by show acc * 1 + 0 = acc; omega
    rw [e, if_pos ha]; rfl
  | cons c r ih =>
    rw [List.all_cons, Bool.and_eq_true] at h
    have hd := h.1
    unfold isDig at hd
    simp only [Bool.and_eq_true, decide_eq_true_eq] at hd
    have e : acc * 10 ^ (c :: r).length + valS (c :: r) = (acc * 10 + (c.toNat - 48)) * 10 ^ r.length + valS r := by
      rw [valS_cons, List.length_cons, Nat.pow_succ, Nat.add_mul]
      have : acc * (10 ^ r.length * 10) = acc * 10 * 10 ^ r.length := by rw [Nat.mul_comm (10 ^ r.length) 10, Nat.mul_assoc]
      omega
    have hP : 0 < 10 ^ r.length := Nat.pow_pos (by decide)
    have hge : acc * 10 + (c.toNat - 48) ≤ (acc * 10 + (c.toNat - 48)) * 10 ^ r.length := Nat.le_mul_of_pos_right _ hP
    rw [e]
    unfold Lib.parseUint10
    rw [if_pos hd]
    by_cases h1 : 1844674407370955162 ≤ acc
    · rw [if_pos h1, if_neg (by omega)]
    · rw [if_neg h1]
      by_cases h2 : 18446744073709551616 ≤ acc * 10 + (c.toNat - 48)
      · rw [if_pos h2, if_neg (by omega)]
      · rw [if_neg h2, ih _ h.2 (by omega)]
theorem atoi_nat {l : List UInt8} (h : isNat l = true) : Lib.atoiAll l = if valS l ≤ 9223372036854775807 then .ok (valS l : Int) else .range := by
  cases l with
  | nil => cases h
  | cons c r =>
    have hall : (c :: r).all isDig = true := by unfold isNat at h; simp only [Bool.and_eq_true] at h; exact h.2
    have hc := hall
    rw [List.all_cons, Bool.and_eq_true] at hc
    have hd := hc.1
    unfold isDig at hd
    simp only [Bool.and_eq_true, decide_eq_true_eq] at hd
    have hp := parse_dig (c :: r) 0 hall (by omega)
    rw [Nat.zero_mul, Nat.zero_add] at hp
    unfold Lib.atoiAll
    simp only
    rw [if_neg (by omega : ¬ (c.toNat = 43 ∨ c.toNat = 45))]
    unfold Lib.parseMag
    rw [if_neg (by simp), hp]
    have h45 : ¬ c.toNat = 45 := by omega
    generalize valS (c :: r) = V at *
    by_cases h1 : V < 18446744073709551616
    · rw [if_pos h1]
      simp only [h45]
      by_cases h2 : V ≤ 9223372036854775807
      · rw [if_pos h2, if_neg (by omega)]
        simp
      · rw [if_neg h2, if_pos ⟨fun h => h, by omega⟩]
    · rw [if_neg h1, if_neg (by omega)]
end Go.Proofs.YtcekdidefomkfaaDoor
