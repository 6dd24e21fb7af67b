/- Whole numbers as floats: what their words are, that sums of them are exact, and that they are whole again. Own work; no program text. -/
import Derived.Laws.ComplexArith
namespace Go.Proofs.YtcckifhloabpkaaDoor
set_option linter.unusedVariables false
namespace Fl
/-- The word of a whole number below 2^53. -/
def fl (n : Nat) : Nat := if n = 0 then 0 else (n.log2 + 1022) * 4503599627370496 + n * 2 ^ (52 - n.log2)
theorem log_lt {n : Nat} (h : n < 9007199254740992) : n.log2 ≤ 52 := by
  by_cases e : n = 0
  · subst e; decide
  · have := (Nat.log2_lt e (k := 53)).2 (by rw [show (2 : Nat) ^ 53 = 9007199254740992 by decide]; exact h)
    omega
theorem top {n : Nat} (h0 : n ≠ 0) (h : n < 9007199254740992) : 4503599627370496 ≤ n * 2 ^ (52 - n.log2) ∧ n * 2 ^ (52 - n.log2) < 9007199254740992 := by
  have hl := log_lt h
  have h1 : 2 ^ n.log2 ≤ n := Nat.log2_self_le h0
  have h2 : n < 2 ^ (n.log2 + 1) := Nat.lt_log2_self
  have e : 2 ^ n.log2 * 2 ^ (52 - n.log2) = (4503599627370496 : Nat) := by rw [← Nat.pow_add, show n.log2 + (52 - n.log2) = 52 by omega]
  have e2 : 2 ^ (n.log2 + 1) * 2 ^ (52 - n.log2) = (9007199254740992 : Nat) := by rw [← Nat.pow_add, show n.log2 + 1 + (52 - n.log2) = 53 by omega]
  refine ⟨?_, ?_⟩
  · rw [← e]; exact Nat.mul_le_mul_right _ h1
  · rw [← e2]; exact Nat.mul_lt_mul_of_pos_right h2 (Nat.two_pow_pos _)
theorem cut_at (n d : Nat) (way : Ieee.Toward) (hw : way = .even ∨ way = .zero) : way.cut false (n * 2 ^ d) d = n := by
  have hd : d ≤ (n * 2 ^ d).log2 + 2 ∨ n = 0 := by
    by_cases e : n = 0
    · exact .inr e
    · left
      have h : 2 ^ d ≤ n * 2 ^ d := Nat.le_mul_of_pos_left _ (Nat.pos_of_ne_zero e)
      have := (Nat.le_log2 (n := n * 2 ^ d) (k := d) (by have := Nat.two_pow_pos d; omega)).2 h
      omega
  rcases hd with hd | rfl
  · unfold Ieee.Toward.cut
    have hm : min d ((n * 2 ^ d).log2 + 2) = d := Nat.min_eq_left hd
    have hp := Nat.two_pow_pos d
    simp only [hm, Nat.shiftLeft_eq, Nat.one_mul, Nat.mul_mod_left, Nat.mul_div_cancel _ hp, Nat.mul_zero]
    rcases hw with rfl | rfl
    · have a : decide (2 ^ d < 0) = false := decide_eq_false (Nat.not_lt_zero _)
      have b : (2 ^ d == 0) = false := beq_false_of_ne (by omega)
      simp only [a, b, Bool.false_and, Bool.or_false]
      rfl
    · rfl
  · unfold Ieee.Toward.cut
    rcases hw with rfl | rfl
    · simp only [Nat.zero_mul, Nat.zero_mod, Nat.zero_div, Nat.mul_zero]
      have hp := Nat.two_pow_pos (min d (Nat.log2 0 + 2))
      have b : (1 <<< min d (Nat.log2 0 + 2) == 0) = false := beq_false_of_ne (by rw [Nat.shiftLeft_eq]; omega)
      simp only [Nat.not_lt_zero, decide_false, b, Bool.false_and, Bool.or_false]
      rfl
    · simp only [Nat.zero_mul, Nat.zero_div]
      rfl
theorem lp : Ieee.double.leastPlace = -1074 := by decide
theorem bn : Ieee.double.binade = 4503599627370496 := by decide
theorem ir : Ieee.double.infRung = 9218868437227405312 := by decide
theorem sw : Ieee.double.signWeight = 9223372036854775808 := by decide
theorem near_at (neg : Bool) (mag : Nat) (place last : Int) (kept : Nat) (h : mag ≠ 0) (hl : max (place + mag.log2 - 52) (-1074) = last) (hk : Ieee.Toward.even.cut neg (mag <<< (place - last).toNat) (last - place).toNat = kept) :
    Ieee.double.nearest neg mag place = Ieee.double.word neg (min ((last + 1074).toNat * 4503599627370496 + kept) 9218868437227405312) := by
  unfold Ieee.Format.nearest
  rw [if_neg h]
  have e1 : max (place + (mag.log2 : Int) - (Ieee.double.fractionBits : Int)) Ieee.double.leastPlace = last := by rw [lp]; exact hl
  have e2 : (last - Ieee.double.leastPlace).toNat = (last + 1074).toNat := by rw [lp, Int.sub_neg]
  simp only [e1, hk, e2, bn, ir]
theorem small {L q : Nat} (hl : L ≤ 52) (hq : q < 9007199254740992) : (L + 1022) * 4503599627370496 + q ≤ 9218868437227405312 := by
  omega
theorem back {L : Nat} : (-1074 : Int) + ((L + 1023 - 1 : Nat) : Int) = -((52 - L : Nat) : Int) ∨ 52 < L := by omega
theorem word_f (r : Nat) : Ieee.double.word false r = r := by
  unfold Ieee.Format.word
  exact if_neg (by decide)
theorem near_0 (place : Int) : Ieee.double.write (.number false 0 place) = fl 0 := by
  show Ieee.double.nearest false 0 place = _
  unfold Ieee.Format.nearest
  rw [if_pos rfl]
  unfold Ieee.Format.word fl
  rw [if_neg (by decide), if_pos rfl]
theorem kept_at (n k L : Nat) (hl : L ≤ 52) : Ieee.Toward.even.cut false ((n * 2 ^ k) <<< (-(k : Int) - ((L : Int) - 52)).toNat) (((L : Int) - 52) - (-(k : Int))).toNat = n * 2 ^ (52 - L) := by
  by_cases c : k + L ≤ 52
  · have f1 : (-(k : Int) - ((L : Int) - 52)).toNat = 52 - L - k := by omega
    have f2 : (((L : Int) - 52) - (-(k : Int))).toNat = 0 := by omega
    rw [f1, f2, Nat.shiftLeft_eq, Nat.mul_assoc, ← Nat.pow_add, show k + (52 - L - k) = 52 - L by omega]
    have := cut_at (n * 2 ^ (52 - L)) 0 .even (.inl rfl)
    rw [Nat.pow_zero, Nat.mul_one] at this
    exact this
  · have f1 : (-(k : Int) - ((L : Int) - 52)).toNat = 0 := by omega
    have f2 : (((L : Int) - 52) - (-(k : Int))).toNat = k - (52 - L) := by omega
    rw [f1, f2, Nat.shiftLeft_eq, Nat.pow_zero, Nat.mul_one]
    have e : n * 2 ^ k = n * 2 ^ (52 - L) * 2 ^ (k - (52 - L)) := by rw [Nat.mul_assoc, ← Nat.pow_add, show 52 - L + (k - (52 - L)) = k by omega]
    rw [e]
    exact cut_at _ _ .even (.inl rfl)
theorem log_at {n : Nat} (k : Nat) (h0 : n ≠ 0) (hk : n * 2 ^ k ≠ 0) : (n * 2 ^ k).log2 = n.log2 + k := by
  have a : 2 ^ (n.log2 + k) ≤ n * 2 ^ k := by rw [Nat.pow_add]; exact Nat.mul_le_mul_right _ (Nat.log2_self_le h0)
  have b : n * 2 ^ k < 2 ^ (n.log2 + k + 1) := by
    rw [show n.log2 + k + 1 = n.log2 + 1 + k by omega, Nat.pow_add]
    exact Nat.mul_lt_mul_of_pos_right Nat.lt_log2_self (Nat.two_pow_pos _)
  have a' := (Nat.le_log2 hk).2 a
  have b' := (Nat.log2_lt hk).2 b
  omega
theorem write_at (n k : Nat) (h : n < 9007199254740992) : Ieee.double.write (.number false (n * 2 ^ k) (-(k : Int))) = fl n := by
  by_cases h0 : n = 0
  · subst h0
    rw [Nat.zero_mul]
    exact near_0 _
  have hl := log_lt h
  obtain ⟨t1, t2⟩ := top h0 h
  have hk : n * 2 ^ k ≠ 0 := Nat.mul_ne_zero h0 (by have := Nat.two_pow_pos k; omega)
  have hlog := log_at k h0 hk
  have kept := kept_at n k _ hl
  have e1 : max (-(k : Int) + ((n * 2 ^ k).log2 : Int) - 52) (-1074) = (n.log2 : Int) - 52 := by
    rw [hlog]
    omega
  show Ieee.Format.nearest _ _ _ _ = _
  rw [near_at false _ _ _ _ hk e1 kept]
  have e2 : ((n.log2 : Int) - 52 + 1074).toNat = n.log2 + 1022 := by omega
  rw [e2]
  unfold fl
  rw [if_neg h0]
  rw [word_f]
  exact Nat.min_eq_left (small hl t2)
theorem read_at (n : Nat) (h : n < 9007199254740992) : ∃ k : Nat, Ieee.double.read (fl n) = .number false (n * 2 ^ k) (-(k : Int)) := by
  by_cases h0 : n = 0
  · subst h0
    have key : ∀ k : Nat, (k : Int) = 1074 → Ieee.double.read (fl 0) = .number false (0 * 2 ^ k) (-(k : Int)) := fun k e => by
      rw [Nat.zero_mul, e]; decide
    obtain ⟨k, hk⟩ : ∃ k : Nat, (k : Int) = 1074 := ⟨1074, rfl⟩
    exact ⟨k, key k hk⟩
  have hl := log_lt h
  obtain ⟨t1, t2⟩ := top h0 h
  refine ⟨52 - n.log2, ?_⟩
  have e0 : fl n = (n.log2 + 1023) * 4503599627370496 + (n * 2 ^ (52 - n.log2) - 4503599627370496) := by
    unfold fl
    rw [if_neg h0]
    omega
  have hr : n * 2 ^ (52 - n.log2) - 4503599627370496 < 4503599627370496 := by omega
  generalize hq : n * 2 ^ (52 - n.log2) - 4503599627370496 = r at *
  have hm : n * 2 ^ (52 - n.log2) = 4503599627370496 + r := by omega
  have hlt : fl n < 9218868437227405312 := by rw [e0]; omega
  unfold Ieee.Format.read
  rw [bn, ir, sw, lp]
  have d1 : fl n / 9223372036854775808 % 2 = 0 := by omega
  have d2 : fl n % 9223372036854775808 = fl n := Nat.mod_eq_of_lt (by omega)
  have d3 : fl n % 4503599627370496 = r := by omega
  have d4 : fl n / 4503599627370496 = n.log2 + 1023 := by omega
  simp only [d1, d2, d3, d4]
  rw [if_neg (by omega), if_pos hlt, hm]
  rw [back.resolve_right (by omega)]
  rfl
theorem sum_at (a b i j : Nat) : ∃ k : Nat, Ieee.Datum.sum (.number false (a * 2 ^ i) (-(i : Int))) (.number false (b * 2 ^ j) (-(j : Int))) = some (.number false ((a + b) * 2 ^ k) (-(k : Int))) := by
  refine ⟨max i j, ?_⟩
  have hb : min (-(i : Int)) (-(j : Int)) = -((max i j : Nat) : Int) := by omega
  unfold Ieee.Datum.sum
  simp only [hb]
  have f1 : (-(i : Int) - -((max i j : Nat) : Int)).toNat = max i j - i := by omega
  have f2 : (-(j : Int) - -((max i j : Nat) : Int)).toNat = max i j - j := by omega
  have g : Ieee.signed false (a * 2 ^ i) (max i j - i) + Ieee.signed false (b * 2 ^ j) (max i j - j) = (((a + b) * 2 ^ max i j : Nat) : Int) := by
    unfold Ieee.signed
    rw [if_neg (by decide), if_neg (by decide), Nat.shiftLeft_eq, Nat.shiftLeft_eq, Nat.mul_assoc, Nat.mul_assoc, ← Nat.pow_add, ← Nat.pow_add, show i + (max i j - i) = max i j by omega, show j + (max i j - j) = max i j by omega, Nat.add_mul, Int.natCast_add]
  rw [f1, f2, g]
  have hz : (if (((a + b) * 2 ^ max i j : Nat) : Int) = 0 then false && false else decide ((((a + b) * 2 ^ max i j : Nat) : Int) < 0)) = false := by
    split
    · rfl
    · exact decide_eq_false (by omega)
  rw [hz, Int.natAbs_natCast]
theorem add_fl (a b : Nat) (h : a + b < 9007199254740992) : Ieee.double.add (fl a) (fl b) = some (fl (a + b)) := by
  obtain ⟨i, hi⟩ := read_at a (by omega)
  obtain ⟨j, hj⟩ := read_at b (by omega)
  obtain ⟨k, hk⟩ := sum_at a b i j
  unfold Ieee.Format.add
  rw [hi, hj, hk]
  show some (Ieee.double.write _) = _
  rw [write_at _ _ h]
theorem int_fl (n : Nat) (h : n < 9007199254740992) : (Ieee.double.read (fl n)).toInt .zero = some (n : Int) := by
  obtain ⟨k, hk⟩ := read_at n h
  rw [hk]
  unfold Ieee.Datum.toInt Ieee.Datum.integral
  have f1 : (-(k : Int)).toNat = 0 := by omega
  have f2 : (- -(k : Int)).toNat = k := by omega
  simp only [f1, f2, Nat.shiftLeft_eq, Nat.pow_zero, Nat.mul_one]
  rw [cut_at n k .zero (.inr rfl)]
  unfold Ieee.signed
  rw [if_neg (by decide), Nat.shiftLeft_eq, Nat.pow_zero, Nat.mul_one]
theorem of_int (n : Nat) (h : n < 9007199254740992) : floatOfInt .f64 (n : Int) = fl n := by
  have e : decide ((n : Int) < 0) = false := decide_eq_false (by omega)
  have := write_at n 0 h
  rw [Nat.pow_zero, Nat.mul_one] at this
  show Ieee.double.write (.number (decide ((n : Int) < 0)) (n : Int).natAbs 0) = _
  rw [e, Int.natAbs_natCast]
  exact this
theorem sum_bits (a b : Nat) (h : a + b < 9007199254740992) : floatBits .add .f64 (fl a) (fl b) = some (fl (a + b)) := add_fl a b h
theorem csum_bits (a b c d : Nat) (h : a + c < 9007199254740992) (h' : b + d < 9007199254740992) : cSumBits .add .f64 (fl a) (fl b) (fl c) (fl d) = some (fl (a + c), fl (b + d)) := by
  unfold cSumBits
  rw [sum_bits a c h, sum_bits b d h']
  rfl
theorem int_bits (n : Nat) (h : n < 9007199254740992) : floatToIntVal .f64 (fl n) .i64 = some (n : Int) := by
  have e : (FloatKind.f64.decode (fl n)).toInt .zero = some (n : Int) := int_fl n h
  have h1 : IntKind.i64.min = -9223372036854775808 := by decide
  have h2 : IntKind.i64.max = 9223372036854775807 := by decide
  have c : IntKind.i64.min ≤ (n : Int) ∧ (n : Int) ≤ IntKind.i64.max := by rw [h1, h2]; omega
  unfold floatToIntVal
  rw [e]
  exact if_pos c
theorem fl_0 : fl 0 = 0 := by decide
theorem fl_1 : fl 1 = 4607182418800017408 := by decide +kernel
end Fl
end Go.Proofs.YtcckifhloabpkaaDoor
