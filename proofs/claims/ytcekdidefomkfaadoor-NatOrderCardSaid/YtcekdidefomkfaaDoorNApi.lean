/- nat's calls on the digits of numbers. -/
import Derived.Test.YtcekdidefomkfaaDoorFix1
namespace Go.Proofs.YtcekdidefomkfaaDoor
open Go.RowKit

/-- A number of at most k digits, and k is not too great. -/
structure Lt (a k : Nat) : Prop where
  lt : a < 10 ^ k
  pos : 0 < k
  le : k ≤ 900000
theorem Lt.len {a k : Nat} (h : Lt a k) : (dig a).length ≤ 900000 := Nat.le_trans (dig_length h.pos h.lt) h.le
theorem Lt.size {a k : Nat} (h : Lt a k) : (⟨(dig a).toArray⟩ : ByteArray).size ≤ 900000 := by rw [size_dig]; exact h.len
theorem Lt.add {a b j k : Nat} (ha : Lt a j) (hb : Lt b k) (h : j + k + 1 ≤ 900000) : Lt (a + b) (j + k + 1) := ⟨add_lt ha.lt hb.lt, Nat.succ_pos _, h⟩
theorem Lt.mul {a b j k : Nat} (ha : Lt a j) (hb : Lt b k) (h : j + k ≤ 900000) : Lt (a * b) (j + k) := ⟨mul_lt ha.lt hb.lt, Nat.add_pos_left ha.pos _, h⟩
theorem Lt.mono {a b k : Nat} (ha : Lt a k) (h : b ≤ a) : Lt b k := ⟨Nat.lt_of_le_of_lt h ha.lt, ha.pos, ha.le⟩
theorem Lt.of_text {s : ByteArray} {k : Nat} (h : isNat s.data.toList = true) (hs : s.size ≤ k) (h0 : 0 < k) (hk : k ≤ 900000) : Lt (valS s.data.toList) k :=
  ⟨Nat.lt_of_lt_of_le (nat_lt h) (Nat.pow_le_pow_right (by decide) hs), h0, hk⟩

section
variable {a b j k : Nat}
theorem nAdd {x : Nat} (ha : Lt a j) (hb : Lt b k) (h : a + b = x) (w : World) :
    Calls Tryd.prog 30 #[.string ⟨(dig a).toArray⟩, .string ⟨(dig b).toArray⟩] w (GiveS w (dig x)) := by
  have c := add_any ⟨(dig a).toArray⟩ ⟨(dig b).toArray⟩ w (Nat.le_trans ha.size (by decide)) (Nat.le_trans hb.size (by decide))
  have e : addS (⟨(dig a).toArray⟩ : ByteArray).data.toList (⟨(dig b).toArray⟩ : ByteArray).data.toList = dig x := by
    show addS (dig a) (dig b) = _
    unfold addS; rw [isNat_dig, isNat_dig, valS_dig, valS_dig, h]; rfl
  rw [e] at c; exact c
theorem nMul {x : Nat} (ha : Lt a j) (hb : Lt b k) (h : a * b = x) (w : World) :
    Calls Tryd.prog 32 #[.string ⟨(dig a).toArray⟩, .string ⟨(dig b).toArray⟩] w (GiveS w (dig x)) := by
  have c := mul_any ⟨(dig a).toArray⟩ ⟨(dig b).toArray⟩ w (Nat.le_trans ha.size (by decide)) (Nat.le_trans hb.size (by decide))
  have e : mulS (⟨(dig a).toArray⟩ : ByteArray).data.toList (⟨(dig b).toArray⟩ : ByteArray).data.toList = dig x := by
    show mulS (dig a) (dig b) = _
    unfold mulS; rw [isNat_dig, isNat_dig, valS_dig, valS_dig, h]; rfl
  rw [e] at c; exact c
theorem nGcd {x : Nat} (ha : Lt a j) (hb : Lt b k) (h : Nat.gcd a b = x) (w : World) :
    Calls Tryd.prog 34 #[.string ⟨(dig a).toArray⟩, .string ⟨(dig b).toArray⟩] w (GiveS w (dig x)) := by
  have c := gcd_any ⟨(dig a).toArray⟩ ⟨(dig b).toArray⟩ w (Nat.le_trans ha.size (by decide)) (Nat.le_trans hb.size (by decide))
  have e : gcdS (⟨(dig a).toArray⟩ : ByteArray).data.toList (⟨(dig b).toArray⟩ : ByteArray).data.toList = dig x := by
    show gcdS (dig a) (dig b) = _
    unfold gcdS; rw [isNat_dig, isNat_dig, valS_dig, valS_dig, h]; rfl
  rw [e] at c; exact c
theorem nSub {x : Nat} (ha : Lt a j) (hb : Lt b k) (hle : b ≤ a) (h : a - b = x) (w : World) :
    Calls Tryd.prog 18 #[.string ⟨(dig a).toArray⟩, .string ⟨(dig b).toArray⟩] w (GiveSB w (dig x, true)) := by
  have c := sub_any ⟨(dig a).toArray⟩ ⟨(dig b).toArray⟩ w (Nat.le_trans ha.size (by decide)) (Nat.le_trans hb.size (by decide))
  have e : subS (⟨(dig a).toArray⟩ : ByteArray).data.toList (⟨(dig b).toArray⟩ : ByteArray).data.toList = (dig x, true) := by
    show subS (dig a) (dig b) = _
    unfold subS; rw [isNat_dig, isNat_dig, valS_dig, valS_dig, decide_eq_true hle, h]; rfl
  rw [e] at c; exact c
theorem nSubNo (ha : Lt a j) (hb : Lt b k) (hlt : a < b) (w : World) :
    Calls Tryd.prog 18 #[.string ⟨(dig a).toArray⟩, .string ⟨(dig b).toArray⟩] w (GiveSB w ([], false)) := by
  have c := sub_any ⟨(dig a).toArray⟩ ⟨(dig b).toArray⟩ w (Nat.le_trans ha.size (by decide)) (Nat.le_trans hb.size (by decide))
  have e : subS (⟨(dig a).toArray⟩ : ByteArray).data.toList (⟨(dig b).toArray⟩ : ByteArray).data.toList = ([], false) := by
    show subS (dig a) (dig b) = _
    unfold subS; rw [isNat_dig, isNat_dig, valS_dig, valS_dig, decide_eq_false (by omega)]; rfl
  rw [e] at c; exact c
theorem nDiv {q r : Nat} (ha : Lt a j) (hb : Lt b k) (h0 : 0 < b) (hq : a / b = q) (hr : a % b = r) (w : World) :
    Calls Tryd.prog 20 #[.string ⟨(dig a).toArray⟩, .string ⟨(dig b).toArray⟩] w (GiveSSB w (dig q, dig r, true)) := by
  have c := div_any ⟨(dig a).toArray⟩ ⟨(dig b).toArray⟩ w (Nat.le_trans ha.size (by decide)) (Nat.le_trans hb.size (by decide))
  have e : divS (⟨(dig a).toArray⟩ : ByteArray).data.toList (⟨(dig b).toArray⟩ : ByteArray).data.toList = (dig q, dig r, true) := by
    show divS (dig a) (dig b) = _
    unfold divS; rw [isNat_dig, isNat_dig, valS_dig, valS_dig, decide_eq_true h0, hq, hr]; rfl
  rw [e] at c; exact c
theorem nDivNo (ha : Lt a j) (hb : Lt b k) (h0 : b = 0) (w : World) :
    Calls Tryd.prog 20 #[.string ⟨(dig a).toArray⟩, .string ⟨(dig b).toArray⟩] w (GiveSSB w ([], [], false)) := by
  have c := div_any ⟨(dig a).toArray⟩ ⟨(dig b).toArray⟩ w (Nat.le_trans ha.size (by decide)) (Nat.le_trans hb.size (by decide))
  have e : divS (⟨(dig a).toArray⟩ : ByteArray).data.toList (⟨(dig b).toArray⟩ : ByteArray).data.toList = ([], [], false) := by
    show divS (dig a) (dig b) = _
    unfold divS; rw [isNat_dig, isNat_dig, valS_dig, valS_dig, decide_eq_false (by omega)]; rfl
  rw [e] at c; exact c
theorem nCmp {c : Int} (ha : Lt a j) (hb : Lt b k) (h : cmpN a b = c) (w : World) :
    Calls Tryd.prog 28 #[.string ⟨(dig a).toArray⟩, .string ⟨(dig b).toArray⟩] w fun e w' => e = .returned (.int .i64 c) ∧ w = w' := by
  have c := cmp_any ⟨(dig a).toArray⟩ ⟨(dig b).toArray⟩ w (Nat.le_trans ha.size (by decide)) (Nat.le_trans hb.size (by decide))
  have e : cmpS (⟨(dig a).toArray⟩ : ByteArray).data.toList (⟨(dig b).toArray⟩ : ByteArray).data.toList = cmpN a b := by
    show cmpS (dig a) (dig b) = _
    rw [cmpS_nat (isNat_dig a) (isNat_dig b), valS_dig, valS_dig]
  rw [e, h] at c; exact c
theorem nMay (ha : Lt a j) (w : World) :
    Calls Tryd.prog 25 #[.string ⟨(dig a).toArray⟩] w fun e w' => e = .returned (.bool true) ∧ w = w' := by
  have c := rmay_any ⟨(dig a).toArray⟩ w (Nat.le_trans ha.size (by decide))
  have e : isNat (⟨(dig a).toArray⟩ : ByteArray).data.toList = true := isNat_dig a
  rw [e] at c; exact c
end
theorem cmpN_eq (a : Nat) : cmpN a a = 0 := by unfold cmpN; simp
theorem cmpN_gt {m n : Nat} (h : n < m) : cmpN m n = 1 := by unfold cmpN; rw [if_neg (by omega), if_neg (by omega)]
theorem dig_inj {m n : Nat} (h : dig m = dig n) : m = n := by rw [← valS_dig m, h, valS_dig]
theorem dig_beq {m n : Nat} (h : m ≠ n) : (dig m == dig n) = false := beq_false_of_ne (fun e => h (dig_inj e))
theorem dig_neq {m n : Nat} (h : m ≠ n) : ¬ dig m = dig n := fun e => h (dig_inj e)
theorem dig_0 : dig 0 = [48] := by rw [dig_small (by decide)]; rfl
theorem dig_1 : dig 1 = [49] := by rw [dig_small (by decide)]; rfl
theorem dig_e (n : Nat) : (dig n).isEmpty = false := by rw [List.isEmpty_eq_false_iff]; exact dig_ne n
theorem dig_eB (n : Nat) : (dig n == []) = false := beq_false_of_ne (dig_ne n)

def two (s t : ByteArray) (j : Nat) : ByteArray := if j = 0 then s else t
theorem strs_two (w : World) (s t : ByteArray) (ty : TypeId) : Strs (w.alloc (.cells #[.string s, .string t] ty)) w.heap.size 2 (two s t) := fun j hj => by
  rw [cell_of_row _ _ _ _ _ _ (World.alloc_heap_new w _)]
  match j, hj with
  | 0, _ => rfl
  | 1, _ => rfl
theorem short_two {s t : ByteArray} (h : s.size ≤ 200 ∧ t.size ≤ 200) : shortF (two s t) 2 = true := shortF_true (fun j hj => by
  match j, hj with
  | 0, _ => exact h.1
  | 1, _ => exact h.2)
theorem long_two {s t : ByteArray} (h : ¬ (s.size ≤ 200 ∧ t.size ≤ 200)) : shortF (two s t) 2 = false := by
  by_cases h1 : s.size ≤ 200
  · exact shortF_false (j := 1) (by decide) (by show 200 < t.size; omega)
  · exact shortF_false (j := 0) (by decide) (by show 200 < s.size; omega)
/-- Short of two texts, in the block that the law has just laid. -/
theorem short2_any {s t : ByteArray} {b : Bool} (h : shortF (two s t) 2 = b) (w : World) :
    Calls Tryd.prog 16 #[.slice (some ⟨w.heap.size, 0, none⟩) 2 2] (w.alloc (.cells #[.string s, .string t] 9)) fun e w' => e = .returned (.bool b) ∧ Below w.heap.size w w' :=
  (short_any _ w.heap.size 2 2 (two s t) (by decide) (by decide) (strs_two w s t _)).mono fun _ _ ⟨he, hw⟩ => ⟨by rw [he, h], by rw [← hw]; exact (Below.refl _ w).alloc (Nat.le_refl _) _⟩

/-- Three texts. -/
def three (s t u : ByteArray) (j : Nat) : ByteArray := if j = 0 then s else if j = 1 then t else u
theorem strs_three (w : World) (s t u : ByteArray) (ty : TypeId) : Strs (w.alloc (.cells #[.string s, .string t, .string u] ty)) w.heap.size 3 (three s t u) := fun j hj => by
  rw [cell_of_row _ _ _ _ _ _ (World.alloc_heap_new w _)]
  match j, hj with
  | 0, _ => rfl
  | 1, _ => rfl
  | 2, _ => rfl
theorem short_three {s t u : ByteArray} (h : s.size ≤ 200 ∧ t.size ≤ 200 ∧ u.size ≤ 200) : shortF (three s t u) 3 = true := shortF_true (fun j hj => by
  match j, hj with
  | 0, _ => exact h.1
  | 1, _ => exact h.2.1
  | 2, _ => exact h.2.2)
theorem long_three {s t u : ByteArray} (h : ¬ (s.size ≤ 200 ∧ t.size ≤ 200 ∧ u.size ≤ 200)) : shortF (three s t u) 3 = false := by
  by_cases h1 : s.size ≤ 200
  · by_cases h2 : t.size ≤ 200
    · exact shortF_false (j := 2) (by decide) (by show 200 < u.size; omega)
    · exact shortF_false (j := 1) (by decide) (by show 200 < t.size; omega)
  · exact shortF_false (j := 0) (by decide) (by show 200 < s.size; omega)
theorem short3_any {s t u : ByteArray} {b : Bool} (h : shortF (three s t u) 3 = b) (w : World) :
    Calls Tryd.prog 16 #[.slice (some ⟨w.heap.size, 0, none⟩) 3 3] (w.alloc (.cells #[.string s, .string t, .string u] 9)) fun e w' => e = .returned (.bool b) ∧ Below w.heap.size w w' :=
  (short_any _ w.heap.size 3 3 (three s t u) (by decide) (by decide) (strs_three w s t u _)).mono fun _ _ ⟨he, hw⟩ => ⟨by rw [he, h], by rw [← hw]; exact (Below.refl _ w).alloc (Nat.le_refl _) _⟩
end Go.Proofs.YtcekdidefomkfaaDoor
