/- The document's own answer for whole numbers: amount, with, May, Of, Sign, Abs, Neg. -/
import Derived.Test.YtcckifhloabpkaaDoorAllWhole
namespace Go.Proofs.YtcckifhloabpkaaDoor
open Go.RowKit

section
variable {a b j k : Nat}
end

/-- A text without its sign, and whether it has one. -/
def amR (l : List UInt8) : List UInt8 × Bool := if l.head? = some 45 then (l.tail, true) else (l, false)
theorem amR_yes (r : List UInt8) : amR (45 :: r) = (r, true) := rfl
theorem amR_no {l : List UInt8} (h : l.head? ≠ some 45) : amR l = (l, false) := by unfold amR; rw [if_neg h]
theorem amR_wd (z : Int) : amR (wd z) = (dig z.natAbs, decide (z < 0)) := by
  by_cases h : z < 0
  · rw [wd_neg h, amR_yes, decide_eq_true h]
  · rw [wd_pos (by omega), decide_eq_false h, amR_no]
    obtain ⟨c, r, e, hc⟩ := dig_cons z.natAbs
    rw [e]; simpa using hc
theorem amR_len (l : List UInt8) : (amR l).1.length ≤ l.length := by
  unfold amR
  split
  · rw [List.length_tail]; omega
  · exact Nat.le_refl _
theorem same_text (s : ByteArray) : s = ⟨s.data.toList.toArray⟩ := bytes_eq rfl
theorem ret_sb {s : ByteArray} {l : List UInt8} {b : Bool} (h : s.data.toList = l) : Ending.returned (.tuple #[.string s, .bool b]) = .returned (.tuple #[.string ⟨l.toArray⟩, .bool b]) := by
  rw [← h, ← same_text]
theorem head_idx {s : ByteArray} (h : 0 < s.size) : s.data.toList.head? = some s[0] := by rw [List.head?_eq_getElem?, byte_at s 0 h]

/-- A sign ahead of an amount that is not 0. -/
def wiR (l : List UInt8) (b : Bool) : List UInt8 := if b && !(l == [48]) then 45 :: l else l
theorem wiR_dig (b : Bool) (n : Nat) : wiR (dig n) b = wd (sv b n) := by
  rw [← sgW_dig]
  unfold wiR sgW
  rw [show (dig n == []) = false from beq_false_of_ne (dig_ne n)]
  rfl
theorem am_of {s : ByteArray} (h : isW s.data.toList = true) : amR s.data.toList = (dig (valW s.data.toList).natAbs, decide (valW s.data.toList < 0)) := by
  have e := amR_wd (valW s.data.toList)
  rw [wd_valW h] at e
  exact e
end Go.Proofs.YtcckifhloabpkaaDoor

/- The document's own answer for whole numbers: Add, Sub, Cmp, Mul, Div. -/
namespace Go.Proofs.YtcckifhloabpkaaDoor
open Go.RowKit

theorem sv_same (f : Bool) (m n : Nat) : sv f (m + n) = sv f m + sv f n := by cases f <;> simp [sv] <;> omega
theorem sv_left {f g : Bool} (h : f ≠ g) {m n : Nat} (hle : n ≤ m) : sv f (m - n) = sv f m + sv g n := by
  cases f <;> cases g <;> simp [sv] at h ⊢ <;> omega
theorem sv_right {f g : Bool} (h : f ≠ g) {m n : Nat} (hle : m ≤ n) : sv g (n - m) = sv f m + sv g n := by
  cases f <;> cases g <;> simp [sv] at h ⊢ <;> omega
theorem addW_neg (l r : List UInt8) : addW l (negW r) = subW l r := by
  unfold addW subW
  cases hr : isW r with
  | false =>
    have : negW r = [] := by unfold negW; rw [hr]; rfl
    rw [this, show isW [] = false from rfl, Bool.and_false]; rfl
  | true =>
    have : negW r = wd (-valW r) := by unfold negW; rw [hr]; rfl
    rw [this, isW_wd, valW_wd, ← Int.sub_eq_add_neg]
theorem sgn_sub (l r : List UInt8) : sgnW (subW l r) = cmpW l r := by
  unfold subW cmpW
  cases h : isW l && isW r with
  | false => rfl
  | true =>
    simp only [if_true]
    unfold sgnW cmpZ
    rw [isW_wd, valW_wd, if_pos rfl]
    by_cases h1 : valW l < valW r
    · rw [if_pos (by omega), if_pos h1]
    · rw [if_neg (by omega), if_neg h1]
      by_cases h2 : valW l = valW r
      · rw [if_pos (by omega), if_pos h2]
      · rw [if_neg (by omega), if_neg h2]
theorem negW_len (l : List UInt8) : (negW l).length ≤ l.length + 1 := by
  unfold negW
  split
  · rename_i h
    have h1 := wd_len h
    by_cases hz : -valW l < 0
    · rw [wd_neg hz, List.length_cons, Int.natAbs_neg]; omega
    · rw [wd_pos (by omega), Int.natAbs_neg]; omega
  · exact Nat.zero_le _
theorem wd_length (z : Int) : (wd z).length ≤ (dig z.natAbs).length + 1 := by
  unfold wd; split
  · rw [List.length_cons]; exact Nat.le_refl _
  · omega
theorem subW_len (l r : List UInt8) : (subW l r).length ≤ l.length + r.length + 2 := by
  unfold subW
  split
  · rename_i h
    rw [Bool.and_eq_true] at h
    have h1 := wd_len h.1
    have h2 := wd_len h.2
    refine Nat.le_trans (wd_length _) ?_
    have hl : (dig (valW l - valW r).natAbs).length ≤ l.length + r.length + 1 := by
      have k1 := valS_lt (dig_all (valW l).natAbs)
      have k2 := valS_lt (dig_all (valW r).natAbs)
      rw [valS_dig] at k1 k2
      have e1 : 10 ^ (dig (valW l).natAbs).length ≤ 10 ^ l.length := Nat.pow_le_pow_right (by decide) h1
      have e2 : 10 ^ (dig (valW r).natAbs).length ≤ 10 ^ r.length := Nat.pow_le_pow_right (by decide) h2
      have k3 := add_lt (Nat.lt_of_lt_of_le k1 e1) (Nat.lt_of_lt_of_le k2 e2)
      refine dig_length (Nat.succ_pos _) (Nat.lt_of_le_of_lt ?_ k3)
      omega
    omega
  · exact Nat.zero_le _
theorem sv_mul (a b : Int) : sv (decide (a < 0) != decide (b < 0)) (a.natAbs * b.natAbs) = a * b := by
  rw [← Int.natAbs_mul]
  unfold sv
  by_cases h1 : a < 0 <;> by_cases h2 : b < 0 <;> simp only [h1, h2, decide_true, decide_false, bne_self_eq_false, Bool.false_eq_true, if_false, Bool.bne_true, Bool.bne_false, Bool.not_false, if_true]
  · have := Int.mul_nonneg_of_nonpos_of_nonpos (Int.le_of_lt h1) (Int.le_of_lt h2); omega
  · have := Int.mul_nonpos_of_nonpos_of_nonneg (Int.le_of_lt h1) (Int.le_of_not_gt h2); omega
  · have := Int.mul_nonpos_of_nonneg_of_nonpos (Int.le_of_not_gt h1) (Int.le_of_lt h2); omega
  · have := Int.mul_nonneg (Int.le_of_not_gt h1) (Int.le_of_not_gt h2); omega
end Go.Proofs.YtcckifhloabpkaaDoor
