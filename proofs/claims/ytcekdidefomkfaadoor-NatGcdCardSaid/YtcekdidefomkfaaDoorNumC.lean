/- Plain numbers: the order of digits is that of their numbers. Own work; no program text. -/
import Derived.Lib.Bytealg
import Derived.Test.YtcekdidefomkfaaDoorNumT
namespace Go.Proofs.YtcekdidefomkfaaDoor

def cmpN (m n : Nat) : Int := if m < n then -1 else if m = n then 0 else 1
theorem valS_head {c : UInt8} {r : List UInt8} (h : isNat (c :: r) = true) (hr : r ≠ []) : 10 ^ r.length ≤ valS (c :: r) := by
  have hc : isDig c = true ∧ c ≠ 48 := by
    unfold isNat at h
    simp only [Bool.and_eq_true, List.all_cons] at h
    obtain ⟨⟨_, h2⟩, h3, _⟩ := h
    refine ⟨h3, fun e => ?_⟩
    subst e
    simp at h2
    exact absurd h2 hr
  have hd := hc.1
  unfold isDig at hd
  simp only [Bool.and_eq_true, decide_eq_true_eq] at hd
  have h1 : c.toNat ≠ 48 := fun e => hc.2 (UInt8.toNat_inj.1 (by rw [e]; rfl))
  rw [valS_cons]
  have : 1 * 10 ^ r.length ≤ (c.toNat - 48) * 10 ^ r.length := Nat.mul_le_mul_right _ (by omega)
  omega
theorem shorter_lt {l r : List UInt8} (hl : isNat l = true) (hr : isNat r = true) (h : l.length < r.length) : valS l < valS r := by
  have hla : l.all isDig = true := by unfold isNat at hl; simp only [Bool.and_eq_true] at hl; exact hl.2
  have hl0 : 0 < l.length := by cases l with
    | nil => cases hl
    | cons c r => simp
  cases r with
  | nil => simp at h
  | cons c r =>
    have h1 := valS_head hr (by intro e; subst e; simp only [List.length_cons, List.length_nil] at h; omega)
    have h2 := valS_lt hla
    have h3 : 10 ^ l.length ≤ 10 ^ r.length := Nat.pow_le_pow_right (by decide) (by simp only [List.length_cons] at h; omega)
    omega
theorem compare_same {l r : List UInt8} (hl : l.all isDig = true) (hr : r.all isDig = true) (h : l.length = r.length) : Lib.compareBytes l r = cmpN (valS l) (valS r) := by
  induction l generalizing r with
  | nil =>
    obtain rfl : r = [] := List.length_eq_zero_iff.1 (by simpa using h.symm)
    rfl
  | cons a l ih =>
    cases r with
    | nil => simp at h
    | cons b r =>
      rw [List.all_cons, Bool.and_eq_true] at hl hr
      have hlen : l.length = r.length := by simpa using h
      have hi := ih hl.2 hr.2 hlen
      have v1 := valS_lt hl.2
      have v2 := valS_lt hr.2
      have d1 := hl.1
      have d2 := hr.1
      unfold isDig at d1 d2
      simp only [Bool.and_eq_true, decide_eq_true_eq] at d1 d2
      rw [valS_cons, valS_cons, hlen]
      rw [hlen] at v1
      unfold Lib.compareBytes
      generalize 10 ^ r.length = P at *
      have key : ∀ x y m n : Nat, x < y → m < P → x * P + m < y * P + n := fun x y m n hxy hm => by
        have : (x + 1) * P ≤ y * P := Nat.mul_le_mul_right _ hxy
        rw [Nat.add_mul, Nat.one_mul] at this
        omega
      by_cases h1 : a < b
      · have h1' : a.toNat < b.toNat := h1
        have := key (a.toNat - 48) (b.toNat - 48) (valS l) (valS r) (by omega) v1
        unfold cmpN
        simp [h1, this]
      · by_cases h2 : b < a
        · have h2' : b.toNat < a.toNat := h2
          have := key (b.toNat - 48) (a.toNat - 48) (valS r) (valS l) (by omega) v2
          unfold cmpN
          rw [if_neg h1, if_pos h2, if_neg (Nat.not_lt.2 (Nat.le_of_lt this)), if_neg (Nat.ne_of_gt this)]
        · have e : a = b := UInt8.toNat_inj.1 (by have h1' : ¬ a.toNat < b.toNat := h1; have h2' : ¬ b.toNat < a.toNat := h2; omega)
          subst e
          simp only [h1, if_false]
          rw [hi]
          unfold cmpN
          simp
end Go.Proofs.YtcekdidefomkfaaDoor
