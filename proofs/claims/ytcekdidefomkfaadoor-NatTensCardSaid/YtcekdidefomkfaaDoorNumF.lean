/- Plain numbers: sums, differences and products, digit by digit. Own work; no program text. -/
import Derived.Test.YtcekdidefomkfaaDoorNumC
namespace Go.Proofs.YtcekdidefomkfaaDoor

/-- The digit at a place from behind; 0 beyond. -/
def dgS (l : List UInt8) (i : Nat) : Nat := if i < l.length then (gb l (l.length - 1 - i)).toNat - 48 else 0
theorem dgS_beyond {l : List UInt8} {i : Nat} (h : l.length ≤ i) : dgS l i = 0 := by unfold dgS; rw [if_neg (by omega)]
theorem dgS_lt {l : List UInt8} (h : l.all isDig = true) (i : Nat) : dgS l i < 10 := by
  unfold dgS
  split
  · have := gb_dig h (j := l.length - 1 - i) (by omega); omega
  · decide
theorem dgS_cons_lt (c : UInt8) (r : List UInt8) {i : Nat} (h : i < r.length) : dgS (c :: r) i = dgS r i := by
  unfold dgS
  rw [if_pos h, if_pos (by rw [List.length_cons]; omega)]
  have e : (c :: r).length - 1 - i = (r.length - 1 - i) + 1 := by rw [List.length_cons]; omega
  rw [e]; rfl
theorem dgS_cons_top (c : UInt8) (r : List UInt8) : dgS (c :: r) r.length = c.toNat - 48 := by
  unfold dgS
  rw [if_pos (by rw [List.length_cons]; omega)]
  have e : (c :: r).length - 1 - r.length = 0 := by rw [List.length_cons]; omega
  rw [e]; rfl
theorem dsum_congr {f g : Nat → Nat} {n : Nat} (h : ∀ j, j < n → f j = g j) : dsum f n = dsum g n := by
  induction n with
  | zero => rfl
  | succ n ih => rw [dsum, dsum, h n (by omega), ih (fun j hj => h j (by omega))]
theorem dsum_zero {f : Nat → Nat} {n : Nat} (h : ∀ j, j < n → f j = 0) : dsum f n = 0 := by
  induction n with
  | zero => rfl
  | succ n ih => rw [dsum, ih (fun j hj => h j (by omega)), h n (by omega), Nat.zero_mul]
theorem dsum_more {f : Nat → Nat} {n k : Nat} (h : n ≤ k) (hz : ∀ j, n ≤ j → f j = 0) : dsum f k = dsum f n := by
  obtain ⟨d, rfl⟩ := Nat.exists_eq_add_of_le h
  clear h
  induction d with
  | zero => rfl
  | succ d ih => rw [← Nat.add_assoc, dsum, ih, hz _ (by omega), Nat.zero_mul, Nat.zero_add]
theorem dsum_self (l : List UInt8) : dsum (dgS l) l.length = valS l := by
  induction l with
  | nil => rfl
  | cons c r ih =>
    rw [List.length_cons, dsum, dgS_cons_top, valS_cons, ← ih]
    congr 1
    exact dsum_congr (fun j hj => dgS_cons_lt c r hj)
theorem dsum_dgS {l : List UInt8} {n : Nat} (h : l.length ≤ n) : dsum (dgS l) n = valS l :=
  (dsum_more h (fun _ hj => dgS_beyond hj)).trans (dsum_self l)
theorem dsum_lt {f : Nat → Nat} {n : Nat} (h : ∀ j, j < n → f j < 10) : dsum f n < 10 ^ n := by
  induction n with
  | zero => exact Nat.one_pos
  | succ n ih =>
    rw [dsum, Nat.pow_succ]
    have h1 := ih (fun j hj => h j (by omega))
    have h2 : f n * 10 ^ n ≤ 9 * 10 ^ n := Nat.mul_le_mul_right _ (by have := h n (by omega); omega)
    omega

/-- Carries and digits of a sum. -/
def adC (f g : Nat → Nat) : Nat → Nat
  | 0 => 0
  | i + 1 => (f i + g i + adC f g i) / 10
def adD (f g : Nat → Nat) (i : Nat) : Nat := (f i + g i + adC f g i) % 10
theorem adD_lt (f g : Nat → Nat) (i : Nat) : adD f g i < 10 := Nat.mod_lt _ (by decide)
theorem adC_le {f g : Nat → Nat} {B : Nat} (h : ∀ i, f i + g i ≤ 9 * B) (i : Nat) : adC f g i ≤ B := by
  induction i with
  | zero => exact Nat.zero_le _
  | succ i ih => have := h i; rw [adC]; omega
theorem ad_sum (f g : Nat → Nat) (n : Nat) : dsum (adD f g) n + adC f g n * 10 ^ n = dsum f n + dsum g n := by
  induction n with
  | zero => rfl
  | succ n ih =>
    rw [dsum, dsum, dsum, adC, adD, Nat.pow_succ]
    have h : (f n + g n + adC f g n) % 10 * 10 ^ n + (f n + g n + adC f g n) / 10 * (10 ^ n * 10) = f n * 10 ^ n + g n * 10 ^ n + adC f g n * 10 ^ n := by
      rw [← Nat.add_mul, ← Nat.add_mul]
      conv => rhs; rw [← Nat.mod_add_div (f n + g n + adC f g n) 10]
      rw [Nat.add_mul, Nat.mul_comm (10 ^ n) 10, ← Nat.mul_assoc, Nat.mul_comm 10]
    omega

/-- Borrows and digits of a difference. -/
def sbC (f g : Nat → Nat) : Nat → Nat
  | 0 => 0
  | i + 1 => if f i < g i + sbC f g i then 1 else 0
def sbD (f g : Nat → Nat) (i : Nat) : Nat := f i + 10 * sbC f g (i + 1) - g i - sbC f g i
theorem sbC_le (f g : Nat → Nat) (i : Nat) : sbC f g i ≤ 1 := by
  cases i with
  | zero => exact Nat.zero_le _
  | succ i => rw [sbC]; split <;> omega
theorem sb_one {f g : Nat → Nat} {i : Nat} (hg : g i < 10) : sbD f g i + g i + sbC f g i = f i + 10 * sbC f g (i + 1) := by
  have := sbC_le f g i
  unfold sbD
  rw [sbC]
  split <;> omega
theorem sbD_lt {f g : Nat → Nat} (hf : ∀ i, f i < 10) (hg : ∀ i, g i < 10) (i : Nat) : sbD f g i < 10 := by
  have h1 := sb_one (f := f) (hg i)
  have h2 := hf i
  have h3 : f i < g i + sbC f g i ∨ sbC f g (i + 1) = 0 := by rw [sbC]; split <;> omega
  have := sbC_le f g (i + 1)
  omega
theorem sb_sum {f g : Nat → Nat} (hg : ∀ i, g i < 10) (n : Nat) : dsum (sbD f g) n + dsum g n = dsum f n + sbC f g n * 10 ^ n := by
  induction n with
  | zero => rfl
  | succ n ih =>
    have h := congrArg (· * 10 ^ n) (sb_one (f := f) (hg n))
    simp only [Nat.add_mul] at h
    rw [dsum, dsum, dsum, Nat.pow_succ]
    have e : sbC f g (n + 1) * (10 ^ n * 10) = 10 * sbC f g (n + 1) * 10 ^ n := by
      rw [Nat.mul_comm (10 ^ n) 10, ← Nat.mul_assoc, Nat.mul_comm _ 10]
    omega

/-- One cell more of a product. -/
def upd (z : Nat → Nat) (j v : Nat) : Nat → Nat := fun i => if i = j then z i + v else z i
theorem dsum_upd (z : Nat → Nat) {j n : Nat} (v : Nat) (h : j < n) : dsum (upd z j v) n = dsum z n + v * 10 ^ j := by
  induction n with
  | zero => omega
  | succ n ih =>
    rw [dsum, dsum]
    by_cases e : j = n
    · subst e
      have h1 : upd z j v j = z j + v := by unfold upd; rw [if_pos rfl]
      have h2 : dsum (upd z j v) j = dsum z j := dsum_congr (fun i hi => by unfold upd; rw [if_neg (by omega)])
      rw [h1, h2, Nat.add_mul]; omega
    · have h1 : upd z j v n = z n := by unfold upd; rw [if_neg (by omega)]
      rw [h1, ih (by omega)]; omega
/-- A product, cell by cell: i digits of the one are done, and k of the other for the next. -/
def MulRel (f g : Nat → Nat) (la lb : Nat) (z : Nat → Nat) (i k : Nat) : Prop :=
  dsum z (la + lb) = dsum f i * dsum g lb + f i * 10 ^ i * dsum g k ∧ (∀ j, z j ≤ 81 * (i * lb + k)) ∧ ∀ j, la + lb ≤ j + 1 → z j = 0
theorem MulRel.start (f g : Nat → Nat) (la lb : Nat) : MulRel f g la lb (fun _ => 0) 0 0 :=
  ⟨by rw [dsum_zero (fun _ _ => rfl)]; simp [dsum], fun _ => Nat.zero_le _, fun _ _ => rfl⟩
theorem MulRel.row {f g : Nat → Nat} {la lb : Nat} {z : Nat → Nat} {i : Nat} (h : MulRel f g la lb z i lb) : MulRel f g la lb z (i + 1) 0 := by
  obtain ⟨h1, h2, h3⟩ := h
  refine ⟨?_, fun j => ?_, h3⟩
  · rw [h1, dsum, dsum, Nat.mul_zero, Nat.add_zero, Nat.add_mul, Nat.add_comm]
  · have := h2 j
    rw [Nat.add_mul, Nat.one_mul, Nat.add_zero]; exact this
theorem MulRel.step {f g : Nat → Nat} {la lb : Nat} {z : Nat → Nat} {i k : Nat} (h : MulRel f g la lb z i k) (hf : f i < 10) (hg : g k < 10) (hi : i < la) (hk : k < lb) :
    MulRel f g la lb (upd z (i + k) (f i * g k)) i (k + 1) := by
  obtain ⟨h1, h2, h3⟩ := h
  refine ⟨?_, fun j => ?_, fun j hj => ?_⟩
  · rw [dsum_upd z _ (by omega), h1, dsum, Nat.mul_add, Nat.pow_add]
    have e : f i * g k * (10 ^ i * 10 ^ k) = f i * 10 ^ i * (g k * 10 ^ k) := by
      rw [Nat.mul_assoc, Nat.mul_assoc, Nat.mul_left_comm (g k)]
    omega
  · have h81 : f i * g k ≤ 9 * 9 := Nat.mul_le_mul (by omega) (by omega)
    have := h2 j
    unfold upd; split <;> omega
  · unfold upd; rw [if_neg (by omega)]; exact h3 j hj
/-- Digits with no carry left are the number. -/
theorem ad_done {f g : Nat → Nat} {n m : Nat} (h : dsum f n + dsum g n = m) (hm : m < 10 ^ n) : dsum (adD f g) n = m := by
  have h1 := ad_sum f g n
  rcases Nat.eq_zero_or_pos (adC f g n) with h0 | h0
  · rw [h0] at h1; omega
  · have : 1 * 10 ^ n ≤ adC f g n * 10 ^ n := Nat.mul_le_mul_right _ h0
    omega
theorem sb_done {f g : Nat → Nat} {n m : Nat} (hf : ∀ i, f i < 10) (hg : ∀ i, g i < 10) (h : dsum f n = m + dsum g n) : dsum (sbD f g) n = m := by
  have h1 := sb_sum (f := f) hg n
  have h2 := dsum_lt (n := n) (fun j _ => sbD_lt hf hg j)
  rcases Nat.eq_zero_or_pos (sbC f g n) with h0 | h0
  · rw [h0] at h1; omega
  · have : 1 * 10 ^ n ≤ sbC f g n * 10 ^ n := Nat.mul_le_mul_right _ h0
    omega

/-- Zeros ahead are taken away, but the last digit stays. -/
theorem drop_zeros {l : List UInt8} (h : l.all isDig = true) {i : Nat} (hi : i < l.length) (hz : ∀ j, j < i → gb l j = 48) (he : i + 1 = l.length ∨ gb l i ≠ 48) : l.drop i = dig (valS l) := by
  have hv : ∀ k, k ≤ i → valS (l.drop k) = valS l := fun k => by
    induction k with
    | zero => intro _; rfl
    | succ k ih =>
      intro hk
      rw [← ih (by omega)]
      have e : l.drop k = gb l k :: l.drop (k + 1) := by
        rw [List.drop_eq_getElem_cons (by omega)]
        unfold gb
        rw [List.getElem?_eq_getElem (by omega)]; rfl
      rw [e, valS_cons, hz k (by omega)]
      have : (48 : UInt8).toNat - 48 = 0 := rfl
      rw [this]; omega
  have hn : isNat (l.drop i) = true := by
    unfold isNat
    rw [all_drop h, Bool.and_true, Bool.and_eq_true]
    refine ⟨?_, ?_⟩
    · rw [Bool.not_eq_true', List.isEmpty_eq_false_iff]
      intro e
      have := congrArg List.length e
      rw [List.length_drop] at this
      simp only [List.length_nil] at this
      omega
    · rw [Bool.not_eq_true', Bool.and_eq_false_iff]
      rcases he with he | he
      · refine .inr ?_
        rw [List.length_drop, decide_eq_false_iff_not]; omega
      · refine .inl ?_
        rw [List.head?_drop, List.getElem?_eq_getElem hi]
        unfold gb at he
        rw [List.getElem?_eq_getElem hi] at he
        simpa using he
  rw [← dig_valS hn, hv i (Nat.le_refl i)]
end Go.Proofs.YtcekdidefomkfaaDoor
