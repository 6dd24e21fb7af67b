/- Plain facts on fractions as texts: what the program's and the document's steps come to. Own work. -/
import Derived.Test.YtamibckbebifkaaGreatDoorRatNum
namespace Go.Proofs.YtamibckbebifkaaGreatDoor

/-- Both numerators above the product of both denominators. -/
def alR (p q : List UInt8 × List UInt8) : List UInt8 × List UInt8 := if isR p && isR q then (wd ((valR p).num * ((valR q).den : Int)), wd ((valR q).num * ((valR p).den : Int))) else ([], [])

theorem nat48 {d : List UInt8} (h : isNat d = true) : (d == [48]) = (valS d == 0) := by
  by_cases e : valS d = 0
  · rw [nat_zero h e]; rfl
  · rw [beq_false_of_ne e]
    refine beq_false_of_ne (fun e2 => e ?_)
    rw [e2]; rfl
theorem dig49 (g : Nat) : (dig g == [49]) = decide (g = 1) := by
  by_cases e : g = 1
  · subst e; rw [dig_1]; rfl
  · rw [decide_eq_false e]
    refine beq_false_of_ne (fun e2 => e (dig_inj ?_))
    rw [e2, dig_1]
/-- Behind a den that is not 0: the divisor tells. -/
theorem may_eq {n d : List UInt8} (h : d ≠ [48]) : (gcdS (absW n) d == [49]) = isR (n, d) := by
  unfold isR
  show _ = ((isW n && isNat d) && (!(valS d == 0) && decide (Nat.gcd (valW n).natAbs (valS d) = 1)))
  cases hn : isW n with
  | false =>
    have e : absW n = [] := by unfold absW; rw [hn]; rfl
    rw [e]; rfl
  | true =>
    have e : absW n = dig (valW n).natAbs := by unfold absW; rw [hn]; rfl
    rw [e]
    cases hd : isNat d with
    | false => unfold gcdS; rw [hd, Bool.and_false]; rfl
    | true =>
      have h0 : (valS d == 0) = false := by rw [← nat48 hd]; exact beq_false_of_ne h
      unfold gcdS
      rw [isNat_dig, hd, h0, valS_dig]
      exact dig49 _
theorem may_48 (n : List UInt8) : isR (n, [48]) = false := by
  unfold isR
  show ((isW n && isNat [48]) && (!(valS [48] == 0) && _)) = false
  rw [show (valS [48] == 0) = true from rfl, Bool.not_true, Bool.false_and, Bool.and_false]

theorem absW_len (l : List UInt8) : (absW l).length ≤ l.length := by
  unfold absW
  cases h : isW l with
  | false => exact Nat.zero_le _
  | true => exact wd_len h
theorem sgnW_zero {d : List UInt8} : sgnW d = 0 ↔ (isW d && !(valW d == 0)) = false := by
  unfold sgnW
  cases isW d with
  | false => simp
  | true =>
    rcases Int.lt_trichotomy (valW d) 0 with h | h | h
    · rw [if_pos rfl, if_pos h, beq_false_of_ne (by omega)]; decide
    · rw [h]; decide
    · rw [if_pos rfl, if_neg (by omega), if_neg (by omega), beq_false_of_ne (by omega)]; decide
theorem makeR_no {n d : List UInt8} (h : ((isW n && isW d) && !(valW d == 0)) = false) : makeR n d = (([], []), false) := by unfold makeR; rw [h]; rfl
theorem makeR_yes {n d : List UInt8} (h1 : isW n = true) (h2 : isW d = true) (h3 : valW d ≠ 0) : makeR n d = (rd (Rat.divInt (valW n) (valW d)), true) := by
  unfold makeR; rw [h1, h2, beq_false_of_ne h3]; rfl
/-- Num and den by their divisor. -/
theorem rd_divInt {n : Int} {d : Nat} (hd : d ≠ 0) : rd (Rat.divInt n (d : Int)) = (wd (n / (Nat.gcd n.natAbs d : Int)), dig (d / Nat.gcd n.natAbs d)) := by
  have h := divInt_pos (n := n) (d := (d : Int)) (by omega)
  rw [Int.natAbs_natCast] at h
  unfold rd rdN rdD
  rw [h.1]
  congr 2
  have h2 := h.2
  rw [← Int.natCast_ediv] at h2
  exact Int.ofNat.inj h2

theorem sgnQ_divInt {n d : Int} (hd : 0 < d) : sgnQ (Rat.divInt n d) = if n < 0 then -1 else if n = 0 then 0 else 1 := by
  have h := (divInt_pos (n := n) hd).1
  have hg : 0 < (Nat.gcd n.natAbs d.natAbs : Int) := by
    have : 0 < Nat.gcd n.natAbs d.natAbs := Nat.gcd_pos_of_pos_right _ (by omega)
    omega
  have hdv : (Nat.gcd n.natAbs d.natAbs : Int) ∣ n := Int.ofNat_dvd_left.2 (Nat.gcd_dvd_left _ _)
  unfold sgnQ
  rw [h]
  generalize (Nat.gcd n.natAbs d.natAbs : Int) = g at *
  obtain ⟨k, rfl⟩ := hdv
  rw [Int.mul_ediv_cancel_left _ (by omega)]
  rcases Int.lt_trichotomy k 0 with hk | hk | hk
  · rw [if_pos hk, if_pos (Int.mul_neg_of_pos_of_neg hg hk)]
  · subst hk; rw [Int.mul_zero]
  · have := Int.mul_pos hg hk
    rw [if_neg (by omega), if_neg (by omega), if_neg (by omega), if_neg (by omega)]
theorem den_pos (q : Rat) : 0 < (q.den : Int) := by have := q.den_nz; omega
theorem den_mul_pos (p q : Rat) : 0 < (p.den : Int) * (q.den : Int) := Int.mul_pos (den_pos p) (den_pos q)
theorem isR_den {p : List UInt8 × List UInt8} (h : isR p = true) : p.2 = dig (valR p).den ∧ p.1 = wd (valR p).num := by
  have e := rd_valR h
  exact ⟨(congrArg Prod.snd e).symm, (congrArg Prod.fst e).symm⟩
theorem isR_isW {p : List UInt8 × List UInt8} (h : isR p = true) : isW p.1 = true := (isR_parts h).1
theorem isR_isN {p : List UInt8 × List UInt8} (h : isR p = true) : isNat p.2 = true := (isR_parts h).2.1

theorem alR_yes {p q : List UInt8 × List UInt8} (hp : isR p = true) (hq : isR q = true) : alR p q = (wd ((valR p).num * ((valR q).den : Int)), wd ((valR q).num * ((valR p).den : Int))) := by unfold alR; rw [hp, hq]; rfl
theorem alR_no {p q : List UInt8 × List UInt8} (h : (isR p && isR q) = false) : alR p q = ([], []) := by unfold alR; rw [h]; rfl
theorem mulW_ww (a b : Int) : mulW (wd a) (wd b) = wd (a * b) := by unfold mulW; rw [isW_wd, isW_wd, valW_wd, valW_wd]; rfl
theorem mulW_wd (a : Int) (b : Nat) : mulW (wd a) (dig b) = wd (a * (b : Int)) := by unfold mulW; rw [isW_wd, isW_dig, valW_wd, valW_dig]; rfl
theorem mulW_dw (a : Nat) (b : Int) : mulW (dig a) (wd b) = wd ((a : Int) * b) := by unfold mulW; rw [isW_wd, isW_dig, valW_wd, valW_dig]; rfl
theorem mulW_dd (a b : Nat) : mulW (dig a) (dig b) = wd ((a : Int) * (b : Int)) := by unfold mulW; rw [isW_dig, isW_dig, valW_dig, valW_dig]; rfl
theorem mulS_dd (a b : Nat) : mulS (dig a) (dig b) = wd ((a : Int) * (b : Int)) := by unfold mulS; rw [isNat_dig, isNat_dig, valS_dig, valS_dig, ← Int.natCast_mul, wd_nat]; rfl
theorem addW_ww (a b : Int) : addW (wd a) (wd b) = wd (a + b) := by unfold addW; rw [isW_wd, isW_wd, valW_wd, valW_wd]; rfl
theorem subW_ww (a b : Int) : subW (wd a) (wd b) = wd (a - b) := by unfold subW; rw [isW_wd, isW_wd, valW_wd, valW_wd]; rfl
theorem makeR_ww {a b : Int} (h : b ≠ 0) : makeR (wd a) (wd b) = (rd (Rat.divInt a b), true) := by rw [makeR_yes (isW_wd a) (isW_wd b) (by rw [valW_wd]; exact h), valW_wd, valW_wd]
theorem makeR_nil (d : List UInt8) : makeR [] d = (([], []), false) := makeR_no rfl
theorem and_no {a b : Bool} (h : (a && b) = true → False) : (a && b) = false := by cases e : (a && b); rfl; exact (h e).elim

/-- The texts as alike lays them: sums, differences, quotients, order. -/
theorem al_both {p q : List UInt8 × List UInt8} (hp : isR p = true) (hq : isR q = true) : (mulW p.1 q.2, mulW q.1 p.2) = alR p q := by
  rw [alR_yes hp hq, (isR_den hp).1, (isR_den hp).2, (isR_den hq).1, (isR_den hq).2, mulW_wd, mulW_wd]
theorem al_cmp (p q : List UInt8 × List UInt8) : cmpW (alR p q).1 (alR p q).2 = cmpR p q := by
  cases h : isR p && isR q with
  | false => rw [alR_no h]; unfold cmpR; rw [h]; rfl
  | true =>
    have h' := h
    rw [Bool.and_eq_true] at h
    unfold cmpR cmpW
    rw [alR_yes h.1 h.2, h', isW_wd, isW_wd, valW_wd, valW_wd, divInt_cross_sub]
    show cmpZ _ _ = sgnQ _
    rw [sgnQ_divInt (den_mul_pos _ _)]
    generalize (valR p).num * ((valR q).den : Int) = a
    generalize (valR q).num * ((valR p).den : Int) = b
    unfold cmpZ
    by_cases h1 : a < b
    · rw [if_pos h1, if_pos (by omega)]
    · by_cases h2 : a = b
      · rw [if_neg h1, if_pos h2, if_neg (by omega), if_pos (by omega)]
      · rw [if_neg h1, if_neg h2, if_neg (by omega), if_neg (by omega)]
theorem al_add (p q : List UInt8 × List UInt8) : (makeR (addW (alR p q).1 (alR p q).2) (mulW p.2 q.2)).1 = addR p q := by
  cases h : isR p && isR q with
  | false => rw [alR_no h]; unfold addR; rw [h]; exact congrArg Prod.fst (makeR_nil _)
  | true =>
    have h' := h
    rw [Bool.and_eq_true] at h
    unfold addR
    rw [alR_yes h.1 h.2, h', addW_ww, (isR_den h.1).1, (isR_den h.2).1, mulW_dd, makeR_ww (Int.ne_of_gt (den_mul_pos _ _))]
    rw [divInt_cross_add]; rfl
theorem al_sub (p q : List UInt8 × List UInt8) : (makeR (subW (alR p q).1 (alR p q).2) (mulW p.2 q.2)).1 = subR p q := by
  cases h : isR p && isR q with
  | false => rw [alR_no h]; unfold subR; rw [h]; exact congrArg Prod.fst (makeR_nil _)
  | true =>
    have h' := h
    rw [Bool.and_eq_true] at h
    unfold subR
    rw [alR_yes h.1 h.2, h', subW_ww, (isR_den h.1).1, (isR_den h.2).1, mulW_dd, makeR_ww (Int.ne_of_gt (den_mul_pos _ _))]
    rw [divInt_cross_sub]; rfl
theorem num_ne {q : Rat} (h : q ≠ 0) : q.num ≠ 0 := fun e => h (Rat.num_eq_zero.1 e)
theorem al_div (p q : List UInt8 × List UInt8) : makeR (alR p q).1 (alR p q).2 = divR p q := by
  cases h : isR p && isR q with
  | false => rw [alR_no h]; unfold divR; rw [h]; exact makeR_nil _
  | true =>
    have h' := h
    rw [Bool.and_eq_true] at h
    unfold divR
    rw [alR_yes h.1 h.2, h']
    by_cases h0 : valR q = 0
    · rw [h0]
      refine (makeR_no ?_).trans rfl
      have e : (0 : Rat).num * ((valR p).den : Int) = 0 := by rw [show (0 : Rat).num = 0 from rfl, Int.zero_mul]
      simp only [e]
      rw [valW_wd]
      exact Bool.and_false _
    · have hn : (valR q).num * ((valR p).den : Int) ≠ 0 := fun e => by
        rcases Int.mul_eq_zero.1 e with e | e
        · exact num_ne h0 e
        · exact absurd e (Int.ne_of_gt (den_pos _))
      rw [makeR_ww hn, beq_false_of_ne h0, divInt_cross_div, Int.mul_comm (valR q).num]; rfl
theorem al_mul {p q : List UInt8 × List UInt8} (hp : isR p = true) (hq : isR q = true) : (makeR (mulW p.1 q.1) (mulW p.2 q.2)).1 = mulR p q := by
  unfold mulR
  rw [hp, hq]
  have e : makeR (mulW p.1 q.1) (mulW p.2 q.2) = (rd (Rat.divInt ((valR p).num * (valR q).num) (((valR p).den : Int) * ((valR q).den : Int))), true) := by
    conv => lhs; rw [(isR_den hp).1, (isR_den hp).2, (isR_den hq).1, (isR_den hq).2, mulW_dd, mulW_ww]
    exact makeR_ww (Int.ne_of_gt (den_mul_pos _ _))
  rw [e, divInt_cross_mul]; rfl
theorem mulR_no {p q : List UInt8 × List UInt8} (h : (isR p && isR q) = false) : mulR p q = ([], []) := by unfold mulR; rw [h]; rfl

/-- What is left by a den has no divisor with it that Num does not have. -/
theorem split_rd (x : Rat) : (wd (x.num % (x.den : Int)), dig x.den) = rd (x - (x.floor : Int)) ∧ wd (x.num / (x.den : Int)) = wd x.floor := by
  have hd := x.den_nz
  have hf : x.floor = x.num / (x.den : Int) := Rat.floor_def x
  refine ⟨?_, by rw [hf]⟩
  have hc : Nat.gcd (x.num % (x.den : Int)).natAbs x.den = 1 := by
    have h1 := x.reduced
    have h2 : Int.gcd (x.num % (x.den : Int)) (x.den : Int) = Int.gcd x.num (x.den : Int) := by
      rw [Int.emod_def, Int.sub_eq_add_neg]
      rw [show -((x.den : Int) * (x.num / (x.den : Int))) = (x.den : Int) * (-(x.num / (x.den : Int))) from (Int.mul_neg _ _).symm]
      exact Int.gcd_add_mul_left_left _ _ _
    have h3 : Int.gcd (x.num % (x.den : Int)) (x.den : Int) = Nat.gcd (x.num % (x.den : Int)).natAbs x.den := rfl
    have h4 : Int.gcd x.num (x.den : Int) = Nat.gcd x.num.natAbs x.den := rfl
    rw [← h3, h2, h4]; exact h1
  rw [← rd_mk hd hc]
  congr 1
  rw [hf]
  rw [Rat.sub_def', Rat.num_intCast, Rat.den_intCast, Int.emod_def]
  congr 1
  · rw [Int.mul_comm (x.num / (x.den : Int))]; simp
  · simp
end Go.Proofs.YtamibckbebifkaaGreatDoor
