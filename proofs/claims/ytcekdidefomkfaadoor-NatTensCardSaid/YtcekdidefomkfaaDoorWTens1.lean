/- The walk of NatTens. -/
import Derived.Test.YtcekdidefomkfaaDoorAllApi
namespace Go.Proofs.YtcekdidefomkfaaDoor
open Go.RowKit

theorem dig_ten {m : Nat} (h : 0 < m) : dig (m * 10) = dig m ++ [48] := by
  rw [dig_big (by omega), Nat.mul_div_cancel _ (by decide)]
  congr 2
  unfold digN
  rw [Nat.mul_mod_left]; rfl
theorem dig_tens {m : Nat} (h : 0 < m) (k : Nat) : dig (m * 10 ^ k) = dig m ++ List.replicate k 48 := by
  induction k with
  | zero => simp
  | succ k ih => rw [Nat.pow_succ, ← Nat.mul_assoc, dig_ten (Nat.mul_pos h (Nat.pow_pos (by decide))), ih, List.append_assoc, ← List.replicate_succ']
theorem take_dig (a k : Nat) (h : k < (dig a).length) : (dig a).take ((dig a).length - k) = dig (a / 10 ^ k) := by
  induction k generalizing a with
  | zero => rw [Nat.sub_zero, List.take_length, Nat.pow_zero, Nat.div_one]
  | succ k ih =>
    by_cases h10 : a < 10
    · rw [dig_small h10] at h; simp at h
    · rw [dig_big h10, List.length_append, List.length_singleton] at h ⊢
      rw [show (dig (a / 10)).length + 1 - (k + 1) = (dig (a / 10)).length - k from by omega, List.take_append_of_le_length (Nat.sub_le _ _), ih _ (by omega), Nat.pow_succ, Nat.mul_comm, ← Nat.div_div_eq_div_mul]
theorem lt_tens {a k : Nat} (h : (dig a).length ≤ k) : a < 10 ^ k := by
  have h1 := valS_lt (dig_all a)
  rw [valS_dig] at h1
  exact Nat.lt_of_lt_of_le h1 (Nat.pow_le_pow_right (by decide) h)
def zerosB (k : Nat) : ByteArray := ⟨(List.replicate k 48).toArray⟩
theorem zerosB_size (k : Nat) : (zerosB k).size = k := by show (List.replicate k (48 : UInt8)).toArray.size = k; simp
theorem zerosB_more (k : Nat) : zerosB k ++ ⟨#[48]⟩ = zerosB (k + 1) := bytes_eq (by rw [ba_append]; show List.replicate k 48 ++ [48] = List.replicate (k + 1) 48; rw [List.replicate_succ'])
theorem tenB_more (k : Nat) : (⟨(dig (10 ^ k)).toArray⟩ : ByteArray) ++ ⟨#[48]⟩ = ⟨(dig (10 ^ (k + 1))).toArray⟩ := bytes_eq (by
  rw [ba_append, Nat.pow_succ]; exact (dig_ten (Nat.pow_pos (by decide))).symm)
theorem tenB_len (k : Nat) : (dig (10 ^ k)).length ≤ k + 1 := dig_length (Nat.succ_pos k) (Nat.pow_lt_pow_right (by decide) (by omega))

set_option maxRecDepth 100000 in
set_option maxHeartbeats 4000000 in
theorem tens1_main (a k : Nat) (w : World) (la : Lt a 200) (za : (⟨(dig a).toArray⟩ : ByteArray).size ≤ 200) (ha : 0 < a) (hk : k ≤ 100) (ht : GoodT w) (he : GoodE w) :
    Calls Tryd.prog 8 #[.string ⟨(dig a).toArray⟩, .int .i64 (k : Int)] w (GiveB w true) := by
  have HT := Lib.hid ht; have HE := Lib.hid he
  have La := Lib.hid la
  have y1 : ¬ (200 : Int) < ((dig a).length : Int) := by rw [size_dig] at za; omega
  have hal : (dig a).length ≤ 200 := by rw [size_dig] at za; exact za
  have q2 := dig_ne48 (Nat.ne_of_gt ha)
  have q3 := dig_neB (Nat.ne_of_gt ha)
  have HA := Lib.hid ha
  have HAL := Lib.hid hal
  clear ht he la za ha hal
  go_enter Tryd.func8, Tryd.ntmps8
  go_wp2_with fail
  refine (fixed1_any _ HT.out HE.out).mono ?_
  rintro e w1 ⟨rfl, B1⟩
  go_wp2_with fail
  refine (nMay La.out _).mono ?_
  rintro e w' ⟨rfl, rfl⟩
  go_wp2_with fail
  go_loop [5, 6, 7] (fun t z i => ∃ j : Nat, j ≤ k ∧ i = .int .i64 j ∧ t = .string ⟨(dig (10 ^ j)).toArray⟩ ∧ z = .string (zerosB j)) (fun _ _ i => k - (intOf i).toNat)
  case atStart => exact ⟨0, Nat.zero_le _, rfl, by rw [Nat.pow_zero, dig_1], rfl⟩
  case round =>
    obtain ⟨j, hj, rfl, rfl, rfl⟩ := hrel
    by_cases hlt : j < k
    · have h1 := fun w => run_string_add_sum (P := Tryd.prog) w (⟨(dig (10 ^ j)).toArray⟩ : ByteArray) ⟨#[48]⟩ (by have := tenB_len j; rw [size_dig]; show (dig (10 ^ j)).length + 1 ≤ _; omega)
      have h2 := fun w => run_string_add_sum (P := Tryd.prog) w (zerosB j) ⟨#[48]⟩ (by rw [zerosB_size]; show j + 1 ≤ _; omega)
      rw [tenB_more] at h1
      rw [zerosB_more] at h2
      go_wp2
      go_round
      case rel => exact ⟨j + 1, hlt, by go_num, rfl, rfl⟩
      case measure => simp [intOf]; omega
    · obtain rfl : j = k := by omega
      obtain ⟨t, htt⟩ : ∃ t, 10 ^ j = t := ⟨_, rfl⟩
      rw [htt]
      have ht0 : 0 < t := by rw [← htt]; exact Nat.pow_pos (by decide)
      have Lt' : Hid (Lt t 102) := Lib.hid ⟨by rw [← htt]; exact Nat.pow_lt_pow_right (by decide) (by omega), by decide, by decide⟩
      obtain ⟨q, hq⟩ : ∃ q, a / t = q := ⟨_, rfl⟩
      obtain ⟨r, hr⟩ : ∃ r, a % t = r := ⟨_, rfl⟩
      obtain ⟨P, hP⟩ : ∃ P, a * t = P := ⟨_, rfl⟩
      have hz : (⟨(dig a).toArray⟩ : ByteArray) ++ zerosB j = ⟨(dig P).toArray⟩ := bytes_eq (by
        rw [ba_append, ← hP, ← htt]; exact (dig_tens HA.out j).symm)
      have h3 := fun w => run_string_add_sum (P := Tryd.prog) w (⟨(dig a).toArray⟩ : ByteArray) (zerosB j) (by rw [size_dig, zerosB_size]; have := HAL.out; omega)
      rw [hz] at h3
      have Lq : Hid (Lt q 200) := Lt.mono La.out (by rw [← hq]; exact Nat.div_le_self _ _)
      have Lr : Hid (Lt r 200) := Lt.mono La.out (by rw [← hr]; exact Nat.mod_le _ _)
      have HT0 := Lib.hid ht0; have HQ := Lib.hid hq; have HR := Lib.hid hr; have HP := Lib.hid hP; have HTT := Lib.hid htt
      by_cases hle : (dig a).length ≤ j
      · have hat := lt_tens hle
        rw [htt] at hat
        have hq0 : q = 0 := by rw [← hq]; exact Nat.div_eq_of_lt hat
        have hra : r = a := by rw [← hr]; exact Nat.mod_eq_of_lt hat
        have hle' : ((dig a).length : Int) ≤ (j : Int) := by omega
        have HQ0 : Hid (a / t = 0) := Lib.hid (by rw [hq, hq0])
        have HRA : Hid (a % t = a) := Lib.hid (by rw [hr, hra])
        have d0 := dig_0
        clear hq hr hP htt ht0 hz hle hat hq0 hra
        go_wp2_with fail
        refine (nDiv La.out Lt'.out HT0.out HQ0.out HRA.out _).mono ?_
        rintro e w2 ⟨rfl, b⟩
        have B2 := Below.more B1 b
        clear b
        go_wp2_with fail
        refine (nMul La.out Lt'.out HP.out _).mono ?_
        rintro e w3 ⟨rfl, b⟩
        have B3 := Below.more B2 b
        clear b
        go_wp2_with fail
        go_ret
        exact ⟨rfl, B3⟩
      · have hle' : ¬ ((dig a).length : Int) ≤ (j : Int) := by omega
        have htk := take_dig a j (by omega)
        rw [htt, hq] at htk
        have hrl : ((dig r).length : Int) ≤ max (j : Int) 1 := by
          have h1 : r < 10 ^ j := by rw [htt, ← hr]; exact Nat.mod_lt _ ht0
          rcases Nat.eq_zero_or_pos j with h0 | h0
          · rw [h0, Nat.pow_zero] at h1
            have : r = 0 := by omega
            rw [this, dig_0, h0]; decide
          · have := dig_length h0 h1
            omega
        obtain ⟨Q, hQ⟩ : ∃ Q, q * t = Q := ⟨_, rfl⟩
        have hqr : Q + r = a := by
          have := Nat.div_add_mod a t
          rw [hq, hr, Nat.mul_comm t q, hQ] at this
          exact this
        have LQ : Hid (Lt Q 200) := Lt.mono La.out (by omega)
        have hex : ((⟨(dig a).toArray⟩ : ByteArray).extract 0 ((dig a).length - j)).toList = dig q := by
          rw [ByteArray.toList_eq, Lib.extract_data, Nat.sub_zero, List.drop_zero]; exact htk
        have HQ2 := Lib.hid hQ; have HQR := Lib.hid hqr
        clear hq hr hP htt ht0 hz hle hQ hqr htk
        go_wp2_with fail
        refine (nDiv La.out Lt'.out HT0.out HQ.out HR.out _).mono ?_
        rintro e w2 ⟨rfl, b⟩
        have B2 := Below.more B1 b
        clear b
        go_wp2_with fail
        refine (nMul La.out Lt'.out HP.out _).mono ?_
        rintro e w3 ⟨rfl, b⟩
        have B3 := Below.more B2 b
        clear b
        go_wp2_with fail
        refine (nMul Lq.out Lt'.out HQ2.out _).mono ?_
        rintro e w4 ⟨rfl, b⟩
        have B4 := Below.more B3 b
        clear b
        go_wp2_with fail
        refine (nAdd LQ.out Lr.out HQR.out _).mono ?_
        rintro e w5 ⟨rfl, b⟩
        have B5 := Below.more B4 b
        clear b
        go_wp2_with fail
        go_ret
        exact ⟨rfl, B5⟩

set_option maxRecDepth 100000 in
set_option maxHeartbeats 2000000 in
theorem tens1_any (s : ByteArray) (n : Int) (w : World) (h0 : -9223372036854775808 ≤ n) (h1 : n ≤ 9223372036854775807) (ht : GoodT w) (he : GoodE w) :
    Calls Tryd.prog 8 #[.string s, .int .i64 n] w (GiveB w true) := by
  by_cases hS : s.size ≤ 200
  · have y1 : ¬ (200 : Int) < (s.size : Int) := by omega
    have c1 := fun w => rmay_any s w (by omega)
    cases ks : isNat s.data.toList with
    | false =>
      rw [ks] at c1
      have C1 := Lib.hid c1
      have HT := Lib.hid ht; have HE := Lib.hid he
      clear ht he c1 ks hS
      go_enter Tryd.func8, Tryd.ntmps8
      go_wp2_with fail
      refine (fixed1_any _ HT.out HE.out).mono ?_
      rintro e w1 ⟨rfl, b⟩
      have B1 := b
      clear b
      go_wp2_with fail
      refine (C1.out _).mono ?_
      rintro e w' ⟨rfl, rfl⟩
      go_wp2_with fail
      refine (fixed1_any _ (HT.out.below B1) (HE.out.below B1)).mono ?_
      rintro e w2 ⟨rfl, b⟩
      have B2 := Below.more B1 b
      clear b
      go_wp2_with fail
      go_ret
      exact ⟨rfl, B2⟩
    | true =>
      by_cases hz : valS s.data.toList = 0
      · have hz2 := nat_zero ks hz
        have e1 := eqB_true hz2
        have e2 := toList_is hz2
        rw [ks] at c1
        have C1 := Lib.hid c1
        have HT := Lib.hid ht; have HE := Lib.hid he
        clear ht he c1 ks hS hz hz2
        go_enter Tryd.func8, Tryd.ntmps8
        go_wp2_with fail
        refine (fixed1_any _ HT.out HE.out).mono ?_
        rintro e w1 ⟨rfl, b⟩
        have B1 := b
        clear b
        go_wp2_with fail
        refine (C1.out _).mono ?_
        rintro e w' ⟨rfl, rfl⟩
        go_wp2_with fail
        refine (fixed1_any _ (HT.out.below B1) (HE.out.below B1)).mono ?_
        rintro e w2 ⟨rfl, b⟩
        have B2 := Below.more B1 b
        clear b
        go_wp2_with fail
        go_ret
        exact ⟨rfl, B2⟩
      · by_cases hn : 0 ≤ n ∧ n ≤ 100
        · obtain ⟨k, rfl⟩ : ∃ k : Nat, n = (k : Int) := ⟨n.toNat, by omega⟩
          have es := str_dig ks
          have ls := Lt.of_text ks hS (by decide) (by decide)
          generalize valS s.data.toList = a at *
          clear ks c1 y1
          subst es
          exact tens1_main a k w ls hS (Nat.pos_of_ne_zero hz) (by omega) ht he
        · have hne : s.data.toList ≠ [48] := fun e => hz (by rw [e]; rfl)
          have e1 := eqB_false hne
          have e2 := eqS_false hne
          have hn2 : n < 0 ∨ (¬ n < 0 ∧ 100 < n) := by omega
          rw [ks] at c1
          have C1 := Lib.hid c1
          have HT := Lib.hid ht; have HE := Lib.hid he
          clear ht he c1 ks hS hz hne hn
          rcases hn2 with hn | ⟨hn, hn2⟩
          all_goals
            go_enter Tryd.func8, Tryd.ntmps8
            go_wp2_with fail
            refine (fixed1_any _ HT.out HE.out).mono ?_
            rintro e w1 ⟨rfl, b⟩
            have B1 := b
            clear b
            go_wp2_with fail
            refine (C1.out _).mono ?_
            rintro e w' ⟨rfl, rfl⟩
            go_wp2_with fail
            refine (fixed1_any _ (HT.out.below B1) (HE.out.below B1)).mono ?_
            rintro e w2 ⟨rfl, b⟩
            have B2 := Below.more B1 b
            clear b
            go_wp2_with fail
            go_ret
            exact ⟨rfl, B2⟩
  · have y1 : (200 : Int) < (s.size : Int) := by omega
    have HT := Lib.hid ht; have HE := Lib.hid he
    clear ht he hS
    go_enter Tryd.func8, Tryd.ntmps8
    go_wp2_with fail
    refine (fixed1_any _ HT.out HE.out).mono ?_
    rintro e w1 ⟨rfl, b⟩
    have B1 := b
    clear b
    go_wp2_with fail
    refine (fixed1_any _ (HT.out.below B1) (HE.out.below B1)).mono ?_
    rintro e w2 ⟨rfl, b⟩
    have B2 := Below.more B1 b
    clear b
    go_wp2_with fail
    go_ret
    exact ⟨rfl, B2⟩

end Go.Proofs.YtcekdidefomkfaaDoor
