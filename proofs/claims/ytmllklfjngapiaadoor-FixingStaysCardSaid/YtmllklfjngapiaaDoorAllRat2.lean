/- The program's fractions: sums, differences, products, quotients, order, and what is split. -/
import Derived.Test.YtmllklfjngapiaaDoorAllRat
namespace Go.Proofs.YtmllklfjngapiaaDoor
open Go.RowKit

theorem Ltw.own {l : List UInt8} (h : isW l = true) (hk : l.length ≤ 100000) : Ltw (valW l) l.length := ⟨by rw [wd_valW h]; exact Nat.le_refl _, hk⟩
theorem isW_pos {l : List UInt8} (h : isW l = true) : 0 < l.length := by cases l with | nil => cases h | cons => exact Nat.succ_pos _
theorem mulW_len (l r : List UInt8) (h : l.length + r.length + 1 ≤ 100000) : (mulW l r).length ≤ l.length + r.length + 1 := by
  unfold mulW
  cases h1 : isW l && isW r with
  | false => exact Nat.zero_le _
  | true =>
    rw [Bool.and_eq_true] at h1
    exact (Ltw.mul (Ltw.own h1.1 (by omega)) (Ltw.own h1.2 (by omega)) h (isW_pos h1.1)).len
theorem addW_len (l r : List UInt8) (h : l.length + r.length + 2 ≤ 100000) : (addW l r).length ≤ l.length + r.length + 2 := by
  unfold addW
  cases h1 : isW l && isW r with
  | false => exact Nat.zero_le _
  | true =>
    rw [Bool.and_eq_true] at h1
    exact (Ltw.add (Ltw.own h1.1 (by omega)) (Ltw.own h1.2 (by omega)) h).len
theorem subW_len' (l r : List UInt8) (h : l.length + r.length + 2 ≤ 100000) : (subW l r).length ≤ l.length + r.length + 2 := by
  unfold subW
  cases h1 : isW l && isW r with
  | false => exact Nat.zero_le _
  | true =>
    rw [Bool.and_eq_true] at h1
    exact (Ltw.sub (Ltw.own h1.1 (by omega)) (Ltw.own h1.2 (by omega)) h).len
theorem size_of (l : List UInt8) : (⟨l.toArray⟩ : ByteArray).size = l.length := by show l.toArray.size = _; exact List.size_toArray
theorem alR_len (p q : List UInt8 × List UInt8) (h1 : p.1.length ≤ 20000) (h2 : p.2.length ≤ 20000) (h3 : q.1.length ≤ 20000) (h4 : q.2.length ≤ 20000) : (alR p q).1.length ≤ 40001 ∧ (alR p q).2.length ≤ 40001 := by
  cases h : isR p && isR q with
  | false => rw [alR_no h]; exact ⟨Nat.zero_le _, Nat.zero_le _⟩
  | true =>
    rw [Bool.and_eq_true] at h
    rw [← al_both h.1 h.2]
    exact ⟨Nat.le_trans (mulW_len _ _ (by omega)) (by omega), Nat.le_trans (mulW_len _ _ (by omega)) (by omega)⟩

end Go.Proofs.YtmllklfjngapiaaDoor
