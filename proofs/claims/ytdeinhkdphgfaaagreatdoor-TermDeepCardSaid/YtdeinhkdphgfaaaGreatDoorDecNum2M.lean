/- The document's answers for decimals: the print, without a point. -/
import Derived.Test.YtdeinhkdphgfaaaGreatDoorAllRefD2M
import Derived.Test.YtdeinhkdphgfaaaGreatDoorDecNum
namespace Go.Proofs.YtdeinhkdphgfaaaGreatDoor
open Go.RowKit
def prS (p : List UInt8 × List UInt8) : List UInt8 := if isR p then prD (valR p) else []
theorem prS_no {p : List UInt8 × List UInt8} (h : isR p = false) : prS p = [] := by unfold prS; rw [h]; rfl
theorem prS_yes {p : List UInt8 × List UInt8} (h : isR p = true) : prS p = prD (valR p) := by unfold prS; rw [h]; rfl
theorem pl_den {p : List UInt8 × List UInt8} (h : isR p = true) : plS p = plR (plc (valR p).den) := by rw [plS_yes h, valR_den h]
set_option maxRecDepth 100000 in
set_option maxHeartbeats 2000000 in
theorem rdprint_no (n d : ByteArray) (w : World) (hn : n.size ≤ 4000) (hd : d.size ≤ 4000) (h : isR (n.data.toList, d.data.toList) = false) :
  Calls Tryz.prog 79 #[.agg #[.string n, .string d]] w (GiveS w (prS (n.data.toList, d.data.toList))) := by
 have cm := fun w => rqmay_any n d w (by omega) (by omega)
 rw [h] at cm
 rw [prS_no h]
 clear h hn hd
 have CM := Lib.hid cm
 clear cm
 go_enter Tryz.func79, Tryz.ntmps79
 go_wp2_with fail
 obtain ⟨W, hW, BW, sW, k0, k1⟩ := box1 w (.string n) (.string d) 39
 have hB := Lib.hid (Nat.le_refl W.heap.size)
 rw [hW]; clear hW
 have b0 := Below.refl W.heap.size W
 refine (CM.out _).mono ?_
 rintro e w1 ⟨rfl, b⟩
 have b1 := Below.more b0 b
 clear b
 go_wp2_with fail
 go_ret
 exact ⟨rfl, Below.more BW b1⟩
set_option maxRecDepth 100000 in
set_option maxHeartbeats 2000000 in
theorem rdprint_none (n d : ByteArray) (w : World) (hn : n.size ≤ 4000) (hd : d.size ≤ 4000) (h : isR (n.data.toList, d.data.toList) = true) (hp : plc (valR (n.data.toList, d.data.toList)).den = none) :
  Calls Tryz.prog 79 #[.agg #[.string n, .string d]] w (GiveS w (prS (n.data.toList, d.data.toList))) := by
 have cm := fun w => rqmay_any n d w (by omega) (by omega)
 have cp := fun w => rdplaces_any n d w (by omega) (by omega)
 rw [h] at cm
 rw [pl_den h, hp] at cp
 have hr : n ++ (⟨#[47]⟩ : ByteArray) ++ d = ⟨(prS (n.data.toList, d.data.toList)).toArray⟩ := bytes_eq (by
  rw [ba_append, ba_append, prS_yes h, prD_none hp, ← (isR_den h).1, ← (isR_den h).2, List.append_assoc]
  rfl)
 generalize prS (n.data.toList, d.data.toList) = R at *
 clear h hp
 have CM := Lib.hid cm
 have CP := Lib.hid cp
 have HR := Lib.hid hr
 clear cm cp hr
 go_enter Tryz.func79, Tryz.ntmps79
 go_wp2_with fail
 obtain ⟨W, hW, BW, sW, k0, k1⟩ := box1 w (.string n) (.string d) 39
 have hB := Lib.hid (Nat.le_refl W.heap.size)
 rw [hW]; clear hW
 have b0 := Below.refl W.heap.size W
 refine (CM.out _).mono ?_
 rintro e w1 ⟨rfl, b⟩
 have b1 := Below.more b0 b
 clear b
 go_wp2_with fail
 refine (CP.out _).mono ?_
 rintro e w2 ⟨rfl, b⟩
 have b2 := Below.more b1 b
 clear b
 go_wp2_with fail
 go_ret
 exact ⟨ret_str HR.out, Below.more BW b2⟩
set_option maxRecDepth 100000 in
set_option maxHeartbeats 2000000 in
theorem rdprint_zero (n d : ByteArray) (w : World) (hn : n.size ≤ 4000) (hd : d.size ≤ 4000) (h : isR (n.data.toList, d.data.toList) = true) (hp : plc (valR (n.data.toList, d.data.toList)).den = some 0) :
  Calls Tryz.prog 79 #[.agg #[.string n, .string d]] w (GiveS w (prS (n.data.toList, d.data.toList))) := by
 have cm := fun w => rqmay_any n d w (by omega) (by omega)
 have cp := fun w => rdplaces_any n d w (by omega) (by omega)
 rw [h] at cm
 rw [pl_den h, hp] at cp
 have hr : n = ⟨(prS (n.data.toList, d.data.toList)).toArray⟩ := bytes_eq (by
  rw [prS_yes h, prD_zero hp, ← (isR_den h).2])
 generalize prS (n.data.toList, d.data.toList) = R at *
 clear h hp
 have CM := Lib.hid cm
 have CP := Lib.hid cp
 have HR := Lib.hid hr
 clear cm cp hr
 go_enter Tryz.func79, Tryz.ntmps79
 go_wp2_with fail
 obtain ⟨W, hW, BW, sW, k0, k1⟩ := box1 w (.string n) (.string d) 39
 have hB := Lib.hid (Nat.le_refl W.heap.size)
 rw [hW]; clear hW
 have b0 := Below.refl W.heap.size W
 refine (CM.out _).mono ?_
 rintro e w1 ⟨rfl, b⟩
 have b1 := Below.more b0 b
 clear b
 go_wp2_with fail
 refine (CP.out _).mono ?_
 rintro e w2 ⟨rfl, b⟩
 have b2 := Below.more b1 b
 clear b
 go_wp2_with fail
 go_ret
 exact ⟨ret_str HR.out, Below.more BW b2⟩
end Go.Proofs.YtdeinhkdphgfaaaGreatDoor
/- Plain facts for the program's decimals: dividing on by greater powers, padding, what a text is as digits. Own work; no program text. -/
namespace Go.Proofs.YtdeinhkdphgfaaaGreatDoor
theorem strip_pow {p : Nat} (h1 : 1 < p) {m : Nat} (hm : 0 < m) (h : m % p ≠ 0) : ∀ A, strip p (p ^ A * m) = (A, m)
 | 0 => by rw [Nat.pow_zero, Nat.one_mul, strip_no h]
 | A + 1 => by
  have hp : 0 < p := by omega
  have e : p ^ (A + 1) * m = p * (p ^ A * m) := by rw [Nat.pow_succ, Nat.mul_comm (p ^ A) p, Nat.mul_assoc]
  have hpos : 0 < p ^ A * m := Nat.mul_pos (Nat.pow_pos hp) hm
  rw [e, strip_yes h1 (Nat.mul_pos hp hpos) (Nat.mul_mod_right _ _), Nat.mul_div_cancel_left _ hp, strip_pow h1 hm h A]
theorem plc_is {A B r : Nat} (hr : 0 < r) (h2 : r % 2 ≠ 0) (h5 : r % 5 ≠ 0) : plc (2 ^ A * (5 ^ B * r)) = if r = 1 then some (max A B) else none := by
 have h3 : (5 ^ B * r) % 2 ≠ 0 := by
  rw [Nat.mul_mod, Nat.pow_mod]
  show (1 ^ B % 2) * (r % 2) % 2 ≠ 0
  rw [Nat.one_pow]
  omega
 have hp : 0 < 5 ^ B * r := Nat.mul_pos (Nat.pow_pos (by decide)) hr
 unfold plc
 rw [strip_pow (by decide) hp h3]
 show (if (strip 5 (5 ^ B * r)).2 = 1 then _ else _) = _
 rw [strip_pow (by decide) hr h5]
def onS (b e d : Nat) : Nat × Nat := ((strip b d).2, e * (strip b d).1)
theorem on_no {b e d : Nat} (h : d % b ≠ 0) : onS b e d = (d, 0) := by unfold onS; rw [strip_no h]; rfl
theorem on_yes {b e d : Nat} (h1 : 1 < b) (h2 : 0 < d) (h : d % b = 0) : onS b e d = ((onS b e (d / b)).1, e + (onS b e (d / b)).2) := by
 unfold onS
 rw [strip_yes h1 h2 h]
 exact Prod.ext rfl (by show e * ((strip b (d / b)).1 + 1) = e + e * (strip b (d / b)).1; rw [Nat.mul_succ, Nat.add_comm])
theorem on_spec {b e d : Nat} (h1 : 1 < b) (h2 : 0 < d) : d = b ^ (strip b d).1 * (onS b e d).1 ∧ (onS b e d).1 % b ≠ 0 ∧ 0 < (onS b e d).1 := strip_spec h1 d h2
theorem mod_of_mul {a b c p : Nat} (h : a = b * c) (hp : a % p ≠ 0) : c % p ≠ 0 := fun e => hp (by rw [h, Nat.mul_mod, e, Nat.mul_zero, Nat.zero_mod])
def leftS (d : Nat) : Nat := (onS 5 1 (onS 244140625 12 (onS 2 1 (onS 536870912 29 (onS 10 1 d).1).1).1).1).1
def cntS (d : Nat) : Nat := (onS 10 1 d).2 + (onS 536870912 29 (onS 10 1 d).1).2 + (onS 2 1 (onS 536870912 29 (onS 10 1 d).1).1).2 + (onS 244140625 12 (onS 2 1 (onS 536870912 29 (onS 10 1 d).1).1).1).2 + (onS 5 1 (onS 244140625 12 (onS 2 1 (onS 536870912 29 (onS 10 1 d).1).1).1).1).2
theorem walk_is {d : Nat} (hd : 0 < d) : plc d = if leftS d = 1 then some (cntS d) else none := by
 obtain ⟨z1, z2, z3⟩ := on_spec (e := 1) (show 1 < 10 by decide) hd
 have c1 : (onS 10 1 d).2 = (strip 10 d).1 := Nat.one_mul _
 obtain ⟨a1, a2, a3⟩ := on_spec (e := 29) (show 1 < 536870912 by decide) z3
 have c2 : (onS 536870912 29 (onS 10 1 d).1).2 = 29 * (strip 536870912 (onS 10 1 d).1).1 := rfl
 obtain ⟨b1, b2, b3⟩ := on_spec (e := 1) (show 1 < 2 by decide) a3
 have c3 : (onS 2 1 (onS 536870912 29 (onS 10 1 d).1).1).2 = (strip 2 (onS 536870912 29 (onS 10 1 d).1).1).1 := Nat.one_mul _
 obtain ⟨e1, e2, e3⟩ := on_spec (e := 12) (show 1 < 244140625 by decide) b3
 have c4 : (onS 244140625 12 (onS 2 1 (onS 536870912 29 (onS 10 1 d).1).1).1).2 = 12 * (strip 244140625 (onS 2 1 (onS 536870912 29 (onS 10 1 d).1).1).1).1 := rfl
 obtain ⟨f1, f2, f3⟩ := on_spec (e := 1) (show 1 < 5 by decide) e3
 have c5 : (onS 5 1 (onS 244140625 12 (onS 2 1 (onS 536870912 29 (onS 10 1 d).1).1).1).1).2 = (strip 5 (onS 244140625 12 (onS 2 1 (onS 536870912 29 (onS 10 1 d).1).1).1).1).1 := Nat.one_mul _
 unfold leftS cntS
 rw [c1, c2, c3, c4, c5]
 generalize (onS 5 1 (onS 244140625 12 (onS 2 1 (onS 536870912 29 (onS 10 1 d).1).1).1).1).1 = r at *
 generalize (strip 5 (onS 244140625 12 (onS 2 1 (onS 536870912 29 (onS 10 1 d).1).1).1).1).1 = n5 at *
 generalize (onS 244140625 12 (onS 2 1 (onS 536870912 29 (onS 10 1 d).1).1).1).1 = m4 at *
 generalize (strip 244140625 (onS 2 1 (onS 536870912 29 (onS 10 1 d).1).1).1).1 = n4 at *
 generalize (onS 2 1 (onS 536870912 29 (onS 10 1 d).1).1).1 = m3 at *
 generalize (strip 2 (onS 536870912 29 (onS 10 1 d).1).1).1 = n3 at *
 generalize (onS 536870912 29 (onS 10 1 d).1).1 = m2 at *
 generalize (strip 536870912 (onS 10 1 d).1).1 = n2 at *
 generalize (onS 10 1 d).1 = m1 at *
 generalize (strip 10 d).1 = n1 at *
 clear c1 c2 c3 c4 c5
 have hr2 : r % 2 ≠ 0 := mod_of_mul f1 (mod_of_mul e1 b2)
 have g1 : m3 = 5 ^ (12 * n4 + n5) * r := by
  rw [e1, f1, ← Nat.mul_assoc, Nat.pow_add, Nat.pow_mul]
 have g2 : m1 = 2 ^ (29 * n2 + n3) * m3 := by
  rw [a1, b1, ← Nat.mul_assoc, Nat.pow_add, Nat.pow_mul]
 obtain ⟨B, hB⟩ : ∃ B, 12 * n4 + n5 = B := ⟨_, rfl⟩
 rw [hB] at g1
 have hor : 29 * n2 + n3 = 0 ∨ B = 0 := by
  rcases Nat.eq_zero_or_pos (29 * n2 + n3) with h | h
  ·exact .inl h
  rcases Nat.eq_zero_or_pos B with k | k
  ·exact .inr k
  exfalso
  apply z2
  obtain ⟨A, hA⟩ : ∃ A, 29 * n2 + n3 = A + 1 := ⟨29 * n2 + n3 - 1, by omega⟩
  obtain ⟨C, hC⟩ : ∃ C, B = C + 1 := ⟨B - 1, by omega⟩
  rw [g2, g1, hA, hC, Nat.pow_succ, Nat.pow_succ]
  have e : 2 ^ A * 2 * (5 ^ C * 5 * r) = 10 * (2 ^ A * (5 ^ C * r)) := by
   rw [Nat.mul_comm (2 ^ A) 2, Nat.mul_comm (5 ^ C) 5, Nat.mul_assoc 5, Nat.mul_assoc 2, Nat.mul_left_comm (2 ^ A) 5, ← Nat.mul_assoc 2 5]
  rw [e, Nat.mul_mod_right]
 have g3 : d = 2 ^ (n1 + (29 * n2 + n3)) * (5 ^ (n1 + B) * r) := by
  rw [z1, ten_pow, g2, g1, Nat.pow_add 2 n1, Nat.pow_add 5 n1]
  rw [Nat.mul_assoc (2 ^ n1) (5 ^ n1), Nat.mul_assoc (2 ^ n1) (2 ^ (29 * n2 + n3)), Nat.mul_left_comm (5 ^ n1), Nat.mul_assoc (5 ^ n1)]
 rw [g3, plc_is f3 hr2 f2]
 by_cases h : r = 1
 ·rw [if_pos h, if_pos h]
  congr 1
  rcases hor with k | k <;> omega
 ·rw [if_neg h, if_neg h]
theorem dig_tens {n : Nat} (h : 0 < n) (k : Nat) : dig (n * 10 ^ k) = dig n ++ List.replicate k 48 := by
 induction k with
 | zero => rw [Nat.pow_zero, Nat.mul_one, List.replicate_zero, List.append_nil]
 | succ k ih =>
  have hp : 0 < n * 10 ^ k := Nat.mul_pos h (Nat.pow_pos (by decide))
  have e : n * 10 ^ (k + 1) = 10 * (n * 10 ^ k) := by rw [Nat.pow_succ, Nat.mul_comm (10 ^ k), Nat.mul_left_comm]
  rw [e, dig_big (by omega), Nat.mul_div_cancel_left _ (by decide), ih, List.replicate_succ', ← List.append_assoc]
  congr 2
  unfold digN
  rw [Nat.mul_mod_right]
  rfl
theorem dig_last {n : Nat} (h : n % 10 ≠ 0) : ∃ l c, dig n = l ++ [c] ∧ c ≠ 48 := by
 have hc : digN n ≠ 48 := fun e => by
  have := congrArg UInt8.toNat e
  rw [digN_toNat] at this
  have h2 : (48 : UInt8).toNat = 48 := rfl
  omega
 by_cases h1 : n < 10
 ·exact ⟨[], digN n, by rw [dig_small h1]; rfl, hc⟩
 ·exact ⟨dig (n / 10), digN n, dig_big h1, hc⟩
theorem drop_zeros_rep (k : Nat) (l : List UInt8) {c : UInt8} (hc : c ≠ 48) : (List.replicate k 48 ++ c :: l).dropWhile (· == 48) = c :: l := by
 induction k with
 | zero =>
  rw [List.replicate_zero, List.nil_append]
  exact List.dropWhile_cons_of_neg (by simpa using hc)
 | succ k ih =>
  rw [List.replicate_succ, List.cons_append, List.dropWhile_cons_of_pos (by simp), ih]
theorem trim_tens {d : Nat} (hd : 0 < d) : ((dig d).reverse.dropWhile (· == 48)).reverse = dig (onS 10 1 d).1 ∧ (dig d).length = (dig (onS 10 1 d).1).length + (onS 10 1 d).2 := by
 obtain ⟨z1, z2, z3⟩ := on_spec (e := 1) (show 1 < 10 by decide) hd
 have c1 : (onS 10 1 d).2 = (strip 10 d).1 := Nat.one_mul _
 rw [c1]
 have e : dig d = dig (onS 10 1 d).1 ++ List.replicate (strip 10 d).1 48 := by
  conv => lhs; rw [z1]
  rw [Nat.mul_comm, dig_tens z3]
 refine ⟨?_, by rw [e, List.length_append, List.length_replicate]⟩
 rw [e]
 obtain ⟨l, c, h1, h2⟩ := dig_last z2
 rw [h1, List.reverse_append, List.reverse_append, List.reverse_replicate]
 show ((List.replicate (strip 10 d).1 48 ++ c :: l.reverse).dropWhile _).reverse = _
 rw [drop_zeros_rep _ _ h2, List.reverse_cons, List.reverse_reverse]
theorem on_le {b e d : Nat} (h1 : 1 < b) (h2 : 0 < d) : (onS b e d).1 ≤ d := by
 have h := (on_spec (e := e) h1 h2).1
 conv => rhs; rw [h]
 exact Nat.le_mul_of_pos_left _ (Nat.pow_pos (by omega))
theorem den_divides {x : Rat} {k : Nat} (h : plc x.den = some k) : x.den ∣ 10 ^ k := (plc_dvd (Nat.pos_of_ne_zero x.den_nz)).2 ⟨k, h, Nat.le_refl _⟩
theorem tens_div {x : Rat} {k : Nat} (h : plc x.den = some k) : x.num.natAbs * 10 ^ k / x.den = x.num.natAbs * (10 ^ k / x.den) := Nat.mul_div_assoc _ (den_divides h)
theorem num_zero_den {x : Rat} (h : x.num = 0) : x.den = 1 := by rw [Rat.num_eq_zero.1 h]; rfl
theorem num_tens {x : Rat} {k : Nat} (h : plc x.den = some k) : dig x.num.natAbs ++ List.replicate k 48 = dig (x.num.natAbs * 10 ^ k) := by
 by_cases h0 : x.num = 0
 ·have hk : k = 0 := by
   rw [num_zero_den h0] at h
   have := (plc_dvd (d := 1) (k := 0) (by decide)).1 (Nat.dvd_refl _)
   obtain ⟨m, hm, hm0⟩ := this
   rw [hm] at h
   have := Option.some.inj h
   omega
  subst hk
  rw [List.replicate_zero, List.append_nil, Nat.pow_zero, Nat.mul_one]
 ·rw [dig_tens (by omega)]
def bodyD (k : Nat) (s : List UInt8) : List UInt8 := if k = 0 then s else ptD k (padD (k + 1) s)
theorem prD_body {x : Rat} {k : Nat} (h : plc x.den = some k) : prD x = sgnD (decide (x.num < 0)) (bodyD k (dig (x.num.natAbs * (10 ^ k / x.den)))) := by
 by_cases hk : k = 0
 ·subst hk
  have h1 : x.den = 1 := Nat.dvd_one.1 (by have := den_divides h; rwa [Nat.pow_zero] at this)
  unfold bodyD
  rw [prD_zero h, if_pos rfl, h1, Nat.pow_zero, Nat.div_one, Nat.mul_one, sgn_wd]
 ·unfold bodyD
  rw [prD_some h hk, if_neg hk]
end Go.Proofs.YtdeinhkdphgfaaaGreatDoor
