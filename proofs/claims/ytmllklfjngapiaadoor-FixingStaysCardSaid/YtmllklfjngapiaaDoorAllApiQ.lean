/- The program's calls on fractions, said of rational numbers; constants. -/
import Derived.Test.YtmllklfjngapiaaDoorAllRefQ4
namespace Go.Proofs.YtmllklfjngapiaaDoor
open Go.RowKit

/-- A fraction whose parts have at most k digits. -/
structure Lq (x : Rat) (k : Nat) : Prop where
  num : x.num.natAbs < 10 ^ k
  den : x.den < 10 ^ k
  le : k ≤ 10000
  pos : 0 < k
theorem Lq.len1 {x : Rat} {k : Nat} (h : Lq x k) : (rdN x).length ≤ k + 1 := Nat.le_trans (wd_length x.num) (Nat.succ_le_succ (dig_length h.pos h.num))
theorem Lq.len2 {x : Rat} {k : Nat} (h : Lq x k) : (rdD x).length ≤ k := dig_length h.pos h.den
theorem Lq.s1 {x : Rat} {k : Nat} (h : Lq x k) : (⟨(rdN x).toArray⟩ : ByteArray).size ≤ 19000 := by rw [size_of]; exact Nat.le_trans h.len1 (by have := h.le; omega)
theorem Lq.s2 {x : Rat} {k : Nat} (h : Lq x k) : (⟨(rdD x).toArray⟩ : ByteArray).size ≤ 19000 := by rw [size_of]; exact Nat.le_trans h.len2 (by have := h.le; omega)
theorem Lq.mono {x : Rat} {j k : Nat} (h : Lq x j) (hk : j ≤ k) (hl : k ≤ 10000) : Lq x k := ⟨Nat.lt_of_lt_of_le h.num (Nat.pow_le_pow_right (by decide) hk), Nat.lt_of_lt_of_le h.den (Nat.pow_le_pow_right (by decide) hk), hl, Nat.lt_of_lt_of_le h.pos hk⟩
theorem Lq.of_text {n d : ByteArray} {k : Nat} (h : isR (n.data.toList, d.data.toList) = true) (hn : n.size ≤ k) (hd : d.size ≤ k) (hk : k ≤ 10000) : Lq (valR (n.data.toList, d.data.toList)) k := by
  have h1 := isR_isW h
  have h2 := isR_isN h
  have hp : 0 < d.data.toList.length := isW_pos (l := d.data.toList) (by
    have e : d.data.toList = dig (valR (n.data.toList, d.data.toList)).den := (isR_den h).1
    rw [e]; exact isW_dig _)
  have hd' : d.data.toList.length ≤ k := hd
  have hn' : n.data.toList.length ≤ k := hn
  refine ⟨?_, ?_, hk, by omega⟩
  · rw [valR_num h]
    exact Nat.lt_of_lt_of_le (Ltw.own h1 (by show n.data.toList.length ≤ _; omega)).abs (Nat.pow_le_pow_right (by decide) hn')
  · rw [valR_den h]
    exact Nat.lt_of_lt_of_le (nat_lt h2) (Nat.pow_le_pow_right (by decide) hd')
theorem Lq.divInt {n d : Int} {k : Nat} (h0 : d ≠ 0) (hn : n.natAbs < 10 ^ k) (hd : d.natAbs < 10 ^ k) (hk : k ≤ 10000) (hp : 0 < k) : Lq (Rat.divInt n d) k := by
  have h := divInt_le (n := n) h0
  exact ⟨Nat.lt_of_le_of_lt h.1 hn, Nat.lt_of_le_of_lt h.2 hd, hk, hp⟩
section
variable {x y : Rat} {j k : Nat}
theorem pow_next {a m : Nat} (h : a < 10 ^ m) : a < 10 ^ (m + 1) := Nat.lt_of_lt_of_le h (Nat.pow_le_pow_right (by decide) (Nat.le_succ m))
theorem den_den (hx : Lq x j) (hy : Lq y k) : ((x.den : Int) * (y.den : Int)).natAbs < 10 ^ (j + k + 1) := by
  rw [Int.natAbs_mul, Int.natAbs_natCast, Int.natAbs_natCast]
  exact pow_next (mul_lt hx.den hy.den)
theorem num_den (hx : Lq x j) (hy : Lq y k) : (x.num * (y.den : Int)).natAbs < 10 ^ (j + k) := by
  rw [Int.natAbs_mul, Int.natAbs_natCast]
  exact mul_lt hx.num hy.den
theorem two_lt {a b m : Nat} (ha : a < 10 ^ m) (hb : b < 10 ^ m) : a + b < 10 ^ (m + 1) := by
  rw [Nat.pow_succ]; omega
theorem Lq.add (hx : Lq x j) (hy : Lq y k) (h : j + k + 1 ≤ 10000) : Lq (x + y) (j + k + 1) := by
  rw [divInt_cross_add]
  refine Lq.divInt (Int.ne_of_gt (den_mul_pos _ _)) ?_ (den_den hx hy) h (Nat.succ_pos _)
  have h2 := num_den hy hx
  rw [Nat.add_comm k j] at h2
  exact Nat.lt_of_le_of_lt (Int.natAbs_add_le _ _) (two_lt (num_den hx hy) h2)
theorem Lq.sub (hx : Lq x j) (hy : Lq y k) (h : j + k + 1 ≤ 10000) : Lq (x - y) (j + k + 1) := by
  rw [divInt_cross_sub]
  refine Lq.divInt (Int.ne_of_gt (den_mul_pos _ _)) ?_ (den_den hx hy) h (Nat.succ_pos _)
  have h2 := num_den hy hx
  rw [Nat.add_comm k j] at h2
  have h3 := Int.natAbs_add_le (x.num * (y.den : Int)) (-(y.num * (x.den : Int)))
  rw [Int.natAbs_neg, ← Int.sub_eq_add_neg] at h3
  exact Nat.lt_of_le_of_lt h3 (two_lt (num_den hx hy) h2)
theorem Lq.mul (hx : Lq x j) (hy : Lq y k) (h : j + k + 1 ≤ 10000) : Lq (x * y) (j + k + 1) := by
  rw [divInt_cross_mul]
  refine Lq.divInt (Int.ne_of_gt (den_mul_pos _ _)) ?_ (den_den hx hy) h (Nat.succ_pos _)
  rw [Int.natAbs_mul]
  exact pow_next (mul_lt hx.num hy.num)
theorem Lq.div (hx : Lq x j) (hy : Lq y k) (h0 : y ≠ 0) (h : j + k + 1 ≤ 10000) : Lq (x / y) (j + k + 1) := by
  rw [divInt_cross_div]
  have hn : (x.den : Int) * y.num ≠ 0 := fun e => by
    rcases Int.mul_eq_zero.1 e with e | e
    · exact absurd e (Int.ne_of_gt (den_pos _))
    · exact num_ne h0 e
  refine Lq.divInt hn (pow_next (num_den hx hy)) ?_ h (Nat.succ_pos _)
  rw [Int.natAbs_mul, Int.natAbs_natCast]
  exact pow_next (mul_lt hx.den hy.num)
end
theorem isRq (x : Rat) : isR ((⟨(rdN x).toArray⟩ : ByteArray).data.toList, (⟨(rdD x).toArray⟩ : ByteArray).data.toList) = true := isR_rd x
theorem valRq (x : Rat) : valR ((⟨(rdN x).toArray⟩ : ByteArray).data.toList, (⟨(rdD x).toArray⟩ : ByteArray).data.toList) = x := valR_rd x
/-- A good fraction's texts are those of a rational number. -/
theorem str_rd {n d : ByteArray} (h : isR (n.data.toList, d.data.toList) = true) : n = ⟨(rdN (valR (n.data.toList, d.data.toList))).toArray⟩ ∧ d = ⟨(rdD (valR (n.data.toList, d.data.toList))).toArray⟩ := by
  have e := rd_valR h
  refine ⟨bytes_eq ?_, bytes_eq ?_⟩
  · exact (congrArg Prod.fst e).symm
  · exact (congrArg Prod.snd e).symm
section
variable {x y z : Rat} {j k : Nat}
theorem qMay (hx : Lq x j) (w : World) :
    Calls Tryd.prog 30 #[.agg #[.string ⟨(rdN x).toArray⟩, .string ⟨(rdD x).toArray⟩]] w (GiveB w true) := by
  have c := qmay_any ⟨(rdN x).toArray⟩ ⟨(rdD x).toArray⟩ w (Nat.le_trans hx.s1 (by decide)) (Nat.le_trans hx.s2 (by decide))
  rw [isRq] at c; exact c
end
theorem rdN_int (n : Int) : rdN (n : Rat) = wd n := by unfold rdN; rw [Rat.num_intCast]
theorem rdD_int (n : Int) : rdD (n : Rat) = [49] := by unfold rdD; rw [Rat.den_intCast]; exact dig_1

/-- Constants. -/
theorem one_c {a b : Int} {q : List UInt8 × List UInt8} (h : (!(b == 0) && isR q && decide (valR q = Rat.divInt a b)) = true) : (makeR (wd a) (wd b)).1 = q := by
  simp only [Bool.and_eq_true, decide_eq_true_eq, Bool.not_eq_true', beq_eq_false_iff_ne, ne_eq] at h
  rw [makeR_ww h.1.1, ← h.2]
  exact rd_valR h.1.2
theorem addR_c {p q r : List UInt8 × List UInt8} (h : (isR p && isR q && isR r && decide (valR p + valR q = valR r)) = true) : addR p q = r := by
  simp only [Bool.and_eq_true, decide_eq_true_eq] at h
  unfold addR; rw [h.1.1.1, h.1.1.2, h.2]; exact rd_valR h.1.2
theorem subR_c {p q r : List UInt8 × List UInt8} (h : (isR p && isR q && isR r && decide (valR p - valR q = valR r)) = true) : subR p q = r := by
  simp only [Bool.and_eq_true, decide_eq_true_eq] at h
  unfold subR; rw [h.1.1.1, h.1.1.2, h.2]; exact rd_valR h.1.2
theorem mulR_c {p q r : List UInt8 × List UInt8} (h : (isR p && isR q && isR r && decide (valR p * valR q = valR r)) = true) : mulR p q = r := by
  simp only [Bool.and_eq_true, decide_eq_true_eq] at h
  unfold mulR; rw [h.1.1.1, h.1.1.2, h.2]; exact rd_valR h.1.2
theorem divR_c {p q r : List UInt8 × List UInt8} (h : (isR p && isR q && isR r && !(valR q == 0) && decide (valR p / valR q = valR r)) = true) : divR p q = (r, true) := by
  simp only [Bool.and_eq_true, decide_eq_true_eq] at h
  unfold divR; rw [h.1.1.1.1, h.1.1.1.2, h.1.2, h.2]; exact congrArg (·, true) (rd_valR h.1.1.2)
theorem negR_c {p r : List UInt8 × List UInt8} (h : (isR p && isR r && decide (-valR p = valR r)) = true) : negR p = r := by
  simp only [Bool.and_eq_true, decide_eq_true_eq] at h
  unfold negR; rw [h.1.1, h.2]; exact rd_valR h.1.2
theorem makeR_c {n d : List UInt8} {r : List UInt8 × List UInt8} (h : (isW n && isW d && !(valW d == 0) && isR r && decide (valR r = Rat.divInt (valW n) (valW d))) = true) : makeR n d = (r, true) := by
  simp only [Bool.and_eq_true, decide_eq_true_eq, Bool.not_eq_true', beq_eq_false_iff_ne, ne_eq] at h
  rw [makeR_yes h.1.1.1.1 h.1.1.1.2 h.1.1.2, ← h.2]
  exact congrArg (·, true) (rd_valR h.1.2)
theorem splitR_c {p r : List UInt8 × List UInt8} {t : List UInt8} (h : (isR p && isR r && isW t && decide ((valR p).floor = valW t) && decide (valR p - (valW t : Rat) = valR r)) = true) : splitR p = (t, r) := by
  simp only [Bool.and_eq_true, decide_eq_true_eq] at h
  unfold splitR; rw [h.1.1.1.1, h.1.2, h.2, wd_valW h.1.1.2, rd_valR h.1.1.1.2]; rfl
/-- A fraction laid into a block of its own in the middle of a walk. -/
theorem lay {V w : World} (h : Below V.heap.size V w) (a b : Value) (t : TypeId) : ∃ U, w.alloc (.cells #[a, b] t) = U ∧ Below V.heap.size V U ∧ w.heap.size + 1 = U.heap.size ∧
    (∀ v, Below U.heap.size U v → v.cell? ⟨w.heap.size, 0, none⟩ = some a) ∧ (∀ v, Below U.heap.size U v → v.cell? ⟨w.heap.size, 1, none⟩ = some b) :=
  ⟨_, rfl, h.alloc h.size _, by simp, fun _ k => (zc_made k).c0, fun _ k => (zc_made k).c1⟩
end Go.Proofs.YtmllklfjngapiaaDoor
