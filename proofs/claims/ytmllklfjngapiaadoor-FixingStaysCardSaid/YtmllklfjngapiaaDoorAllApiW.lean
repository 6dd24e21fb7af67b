/- The fixed calls at the head of each statement of layer 2. -/
import Derived.Test.YtmllklfjngapiaaDoorAllRefW
namespace Go.Proofs.YtmllklfjngapiaaDoor
open Go.RowKit

theorem addW_const {a b q : List UInt8} (h : (isW a && isW b && isW q && decide (valW a + valW b = valW q)) = true) : addW a b = q := by
  simp only [Bool.and_eq_true, decide_eq_true_eq] at h
  obtain ⟨⟨⟨h1, h2⟩, h3⟩, h4⟩ := h
  unfold addW; rw [h1, h2, h4]; exact wd_valW h3
theorem subW_const {a b q : List UInt8} (h : (isW a && isW b && isW q && decide (valW a - valW b = valW q)) = true) : subW a b = q := by
  simp only [Bool.and_eq_true, decide_eq_true_eq] at h
  obtain ⟨⟨⟨h1, h2⟩, h3⟩, h4⟩ := h
  unfold subW; rw [h1, h2, h4]; exact wd_valW h3
theorem mulW_const {a b q : List UInt8} (h : (isW a && isW b && isW q && decide (valW a * valW b = valW q)) = true) : mulW a b = q := by
  simp only [Bool.and_eq_true, decide_eq_true_eq] at h
  obtain ⟨⟨⟨h1, h2⟩, h3⟩, h4⟩ := h
  unfold mulW; rw [h1, h2, h4]; exact wd_valW h3
theorem divW_const {a b q r : List UInt8} (h : (isW a && isW b && !(valW b == 0) && isW q && isW r && decide (valW a / valW b = valW q) && decide (valW a % valW b = valW r)) = true) : divW a b = (q, r, true) := by
  simp only [Bool.and_eq_true, decide_eq_true_eq] at h
  obtain ⟨⟨⟨⟨⟨⟨h1, h2⟩, h3⟩, h4⟩, h5⟩, h6⟩, h7⟩ := h
  unfold divW; rw [h1, h2, h3, h6, h7, wd_valW h4, wd_valW h5]; rfl
theorem negW_const {a q : List UInt8} (h : (isW a && isW q && decide (-valW a = valW q)) = true) : negW a = q := by
  simp only [Bool.and_eq_true, decide_eq_true_eq] at h
  obtain ⟨⟨h1, h2⟩, h3⟩ := h
  unfold negW; rw [h1, h3]; exact wd_valW h2
theorem absW_const {a q : List UInt8} (h : (isW a && isNat q && decide ((valW a).natAbs = valS q)) = true) : absW a = q := by
  simp only [Bool.and_eq_true, decide_eq_true_eq] at h
  obtain ⟨⟨h1, h2⟩, h3⟩ := h
  unfold absW; rw [h1, h3]; exact dig_valS h2
theorem wd_const {n : Int} {q : List UInt8} (h1 : isW q = true) (h2 : valW q = n) : wd n = q := by rw [← h2]; exact wd_valW h1

theorem gx9 (w : World) : Calls Tryd.prog 43 #[.string ⟨#[45, 55]⟩] w (fun e w' => e = .returned (.string ⟨[55].toArray⟩) ∧ w = w') := by
  have h := wabs_any ⟨#[45, 55]⟩ w (by decide)
  rw [show absW ((⟨#[45, 55]⟩ : ByteArray)).data.toList = [55] from absW_const (by decide)] at h
  exact h


/-- A whole number's text of at most k signs. -/
structure Ltw (a : Int) (k : Nat) : Prop where
  len : (wd a).length ≤ k
  le : k ≤ 100000
theorem Ltw.size {a : Int} {k : Nat} (h : Ltw a k) : (⟨(wd a).toArray⟩ : ByteArray).size ≤ 100000 := by show (wd a).toArray.size ≤ _; rw [List.size_toArray]; exact Nat.le_trans h.len h.le
theorem str_wd {s : ByteArray} (h : isW s.data.toList = true) : s = ⟨(wd (valW s.data.toList)).toArray⟩ := bytes_eq (wd_valW h).symm
theorem Ltw.of_text {s : ByteArray} {k : Nat} (h : isW s.data.toList = true) (hs : s.size ≤ k) (hk : k ≤ 100000) : Ltw (valW s.data.toList) k := ⟨by rw [wd_valW h]; exact hs, hk⟩
theorem wd_abs_len (a : Int) : (dig a.natAbs).length ≤ (wd a).length := by
  unfold wd; split
  · rw [List.length_cons]; omega
  · exact Nat.le_refl _
theorem Ltw.abs {a : Int} {k : Nat} (h : Ltw a k) : a.natAbs < 10 ^ k := by
  have h1 := valS_lt (dig_all a.natAbs)
  rw [valS_dig] at h1
  exact Nat.lt_of_lt_of_le h1 (Nat.pow_le_pow_right (by decide) (Nat.le_trans (wd_abs_len a) h.len))
theorem Ltw.mk' {a : Int} {k : Nat} (h : a.natAbs < 10 ^ k) (h0 : 0 < k) (hk : k + 1 ≤ 100000) : Ltw a (k + 1) :=
  ⟨Nat.le_trans (wd_length a) (Nat.succ_le_succ (dig_length h0 h)), hk⟩
theorem Ltw.add {a b : Int} {j k : Nat} (ha : Ltw a j) (hb : Ltw b k) (h : j + k + 2 ≤ 100000) : Ltw (a + b) (j + k + 2) :=
  Ltw.mk' (Nat.lt_of_le_of_lt (Int.natAbs_add_le a b) (add_lt ha.abs hb.abs)) (Nat.succ_pos _) h
theorem Ltw.neg {a : Int} {k : Nat} (ha : Ltw a k) (h : k + 1 ≤ 100000) (h0 : 0 < k) : Ltw (-a) (k + 1) := Ltw.mk' (by rw [Int.natAbs_neg]; exact ha.abs) h0 h
theorem Ltw.sub {a b : Int} {j k : Nat} (ha : Ltw a j) (hb : Ltw b k) (h : j + k + 2 ≤ 100000) : Ltw (a - b) (j + k + 2) :=
  Ltw.mk' (Nat.lt_of_le_of_lt (by rw [Int.sub_eq_add_neg]; have := Int.natAbs_add_le a (-b); rw [Int.natAbs_neg] at this; exact this) (add_lt ha.abs hb.abs)) (Nat.succ_pos _) h
theorem Ltw.mul {a b : Int} {j k : Nat} (ha : Ltw a j) (hb : Ltw b k) (h : j + k + 1 ≤ 100000) (h0 : 0 < j) : Ltw (a * b) (j + k + 1) :=
  Ltw.mk' (by rw [Int.natAbs_mul]; exact mul_lt ha.abs hb.abs) (Nat.add_pos_left h0 _) h
theorem Ltw.small {a : Int} {b : Int} {k : Nat} (hb : Ltw b k) (h : a.natAbs ≤ b.natAbs) (h0 : 0 < k) (hk : k + 1 ≤ 100000) : Ltw a (k + 1) :=
  Ltw.mk' (Nat.lt_of_le_of_lt h hb.abs) h0 hk

section
variable {a b : Int} {j k : Nat}

theorem zAbs {x : Int} (ha : Ltw a j) (h : (a.natAbs : Int) = x) (w : World) :
    Calls Tryd.prog 43 #[.string ⟨(wd a).toArray⟩] w fun e w' => e = .returned (.string ⟨(wd x).toArray⟩) ∧ w = w' := by
  have c := wabs_any ⟨(wd a).toArray⟩ w (Nat.le_trans ha.size (by decide))
  have e : absW (⟨(wd a).toArray⟩ : ByteArray).data.toList = wd x := by
    show absW (wd a) = _
    unfold absW; rw [isW_wd, valW_wd, ← h, wd_nat]; rfl
  rw [e] at c; exact c
theorem zMay (ha : Ltw a j) (w : World) :
    Calls Tryd.prog 35 #[.string ⟨(wd a).toArray⟩] w fun e w' => e = .returned (.bool true) ∧ w = w' := by
  have c := rwmay_any ⟨(wd a).toArray⟩ w (Nat.le_trans ha.size (by decide))
  have e : isW (⟨(wd a).toArray⟩ : ByteArray).data.toList = true := isW_wd a
  rw [e] at c; exact c
end
theorem cmpZ_cases (a b : Int) : (a < b ∧ cmpZ a b = -1) ∨ (a = b ∧ cmpZ a b = 0) ∨ (b < a ∧ cmpZ a b = 1) := by
  unfold cmpZ
  rcases Int.lt_trichotomy a b with h | h | h
  · exact .inl ⟨h, if_pos h⟩
  · exact .inr (.inl ⟨h, by rw [if_neg (by omega), if_pos h]⟩)
  · exact .inr (.inr ⟨h, by rw [if_neg (by omega), if_neg (by omega)]⟩)
theorem wd_0 : wd 0 = [48] := by rw [wd_pos (by decide)]; exact dig_0
theorem wd_ne48 {a : Int} (h : a ≠ 0) : ¬ wd a = [48] := fun e => h (wd_inj (e.trans wd_0.symm))
theorem wd_neB {a : Int} (h : a ≠ 0) : (wd a == [48]) = false := beq_false_of_ne (wd_ne48 h)
theorem emod_lt' (a : Int) {b : Int} (h : b ≠ 0) : a % b < (b.natAbs : Int) := by
  rcases Int.lt_or_le b 0 with hb | hb
  · have h2 : b = -(-b) := by omega
    have h3 := Int.emod_lt_of_pos a (show 0 < -b by omega)
    rw [h2, Int.emod_neg]; omega
  · have h3 := Int.emod_lt_of_pos a (show 0 < b by omega)
    omega
theorem natAbs_ediv (a b : Int) : (a / b).natAbs ≤ a.natAbs := by
  by_cases hb : b = 0
  · subst hb; rw [Int.ediv_zero]; exact Nat.zero_le _
  · have h1 := Int.mul_ediv_add_emod a b
    have h2 := Int.emod_nonneg a hb
    have h3 := emod_lt' a hb
    generalize a / b = q at *
    generalize a % b = r at *
    by_cases hq : q = 0
    · subst hq; exact Nat.zero_le _
    · rcases Int.lt_or_le a 0 with ha | ha
      · have e : (b * q).natAbs = b.natAbs * q.natAbs := Int.natAbs_mul b q
        have k1 : q.natAbs ≤ b.natAbs * q.natAbs - (b.natAbs - 1) := by
          have hb1 : 1 ≤ b.natAbs := by omega
          have hq1 : 1 ≤ q.natAbs := by omega
          generalize b.natAbs = B at *
          generalize q.natAbs = Q at *
          have : B - 1 ≤ (B - 1) * Q := Nat.le_mul_of_pos_right _ hq1
          have e2 : B * Q = (B - 1) * Q + Q := by
            rw [← Nat.succ_mul]; congr 1; omega
          omega
        have k2 : b * q ≤ 0 := by omega
        omega
      · have e : (b * q).natAbs = b.natAbs * q.natAbs := Int.natAbs_mul b q
        have k1 : q.natAbs ≤ b.natAbs * q.natAbs := Nat.le_mul_of_pos_left _ (by omega)
        by_cases h4 : 0 ≤ b * q
        · omega
        · exfalso
          have : b.natAbs ≤ b.natAbs * q.natAbs := Nat.le_mul_of_pos_right _ (by omega)
          omega

end Go.Proofs.YtmllklfjngapiaaDoor
