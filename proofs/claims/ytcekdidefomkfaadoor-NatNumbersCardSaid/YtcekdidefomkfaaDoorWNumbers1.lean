/- The walk of NatNumbers. -/
import Derived.Test.YtcekdidefomkfaaDoorAllApi
namespace Go.Proofs.YtcekdidefomkfaaDoor
open Go.RowKit

theorem nOf {n : Int} {x : Nat} (h : n = (x : Int)) (hx : n ≤ 9223372036854775807) (w : World) (ht : GoodT w) :
    Calls Tryd.prog 26 #[.int .i64 n] w (GiveS w (dig x)) := by
  have c := of_any n w (by omega) hx ht
  have e : ofS n = dig x := by unfold ofS; rw [if_neg (by omega), h]; rfl
  rw [e] at c; exact c
theorem nSmall {a : Nat} {j : Nat} (ha : Lt a j) (hx : a ≤ 9223372036854775807) (w : World) (he : GoodE w) :
    Calls Tryd.prog 22 #[.string ⟨(dig a).toArray⟩] w (GiveIB w ((a : Int), true)) := by
  obtain ⟨tp, p, hv⟩ := he
  have c := small_any ⟨(dig a).toArray⟩ w (Nat.le_trans ha.size (by decide)) tp p hv
  have e : smallS (⟨(dig a).toArray⟩ : ByteArray).data.toList = ((a : Int), true) := by
    show smallS (dig a) = _
    unfold smallS; rw [isNat_dig, valS_dig, decide_eq_true hx]; rfl
  rw [e] at c; exact c

set_option maxRecDepth 100000 in
set_option maxHeartbeats 4000000 in
theorem numbers1_main (a b : Nat) (w : World) (ha : a ≤ 1073741824) (hb : b ≤ 1073741824) (ht : GoodT w) (he : GoodE w) :
    Calls Tryd.prog 9 #[.int .i64 (a : Int), .int .i64 (b : Int)] w (GiveB w true) := by
  have HT := Lib.hid ht; have HE := Lib.hid he
  have La : Hid (Lt a 10) := Lib.hid ⟨Nat.lt_of_le_of_lt ha (by decide), by decide, by decide⟩
  have Lb : Hid (Lt b 10) := Lib.hid ⟨Nat.lt_of_le_of_lt hb (by decide), by decide, by decide⟩
  obtain ⟨P, hP⟩ : ∃ P, a * b = P := ⟨_, rfl⟩
  have hPb : P ≤ 1152921504606846976 := by rw [← hP]; exact Nat.mul_le_mul ha hb
  have hPi : (a : Int) * (b : Int) = (P : Int) := by rw [← hP, Int.natCast_mul]
  have hP1 : 0 ≤ (a : Int) * (b : Int) := by omega
  have hP2 : (a : Int) * (b : Int) ≤ 1152921504606846976 := by omega
  have HPI := Lib.hid hPi; have HP := Lib.hid hP
  have oA : Hid (∀ w, GoodT w → Calls Tryd.prog 26 #[.int .i64 (a : Int)] w (GiveS w (dig a))) := Lib.hid (fun w h => nOf rfl (by omega) w h)
  have oB : Hid (∀ w, GoodT w → Calls Tryd.prog 26 #[.int .i64 (b : Int)] w (GiveS w (dig b))) := Lib.hid (fun w h => nOf rfl (by omega) w h)
  have oS : Hid (∀ w, GoodT w → Calls Tryd.prog 26 #[.int .i64 ((a : Int) + (b : Int))] w (GiveS w (dig (a + b)))) := Lib.hid (fun w h => nOf (by omega) (by omega) w h)
  have oP : Hid (∀ w, GoodT w → Calls Tryd.prog 26 #[.int .i64 ((a : Int) * (b : Int))] w (GiveS w (dig P))) := Lib.hid (fun w h => nOf HPI.out (by omega) w h)
  have HA1 : Hid (a ≤ 9223372036854775807) := Lib.hid (by omega)
  clear ht he hP hPi hPb
  by_cases hb0 : b = 0
  · have HB0 := Lib.hid hb0
    have hbi : (b : Int) = 0 ∧ True := ⟨by omega, trivial⟩
    have hbi2 : ¬ (0 : Int) < (b : Int) := by omega
    have hbB : ((b : Int) == 0) = true := by simp [hb0]
    rcases (by omega : (a = b) ∨ b < a) with h | h
    · have hc : cmpN a b = 0 := by rw [h]; exact cmpN_eq _
      have HC := Lib.hid hc
      have h1 : ¬ (a : Int) < (b : Int) := by omega
      have h2 : ¬ (b : Int) < (a : Int) := by omega
      clear hb0 hbi h hc
      go_enter Tryd.func9, Tryd.ntmps9
      go_wp2_with fail
      refine (fixed1_any _ HT.out HE.out).mono ?_
      rintro e w1 ⟨rfl, b⟩
      have B1 := b
      clear b
      go_wp2_with fail
      refine (oA.out _ (HT.out.below B1)).mono ?_
      rintro e w2 ⟨rfl, b⟩
      have B2 := Below.more B1 b
      clear b
      go_wp2_with fail
      refine (oB.out _ (HT.out.below B2)).mono ?_
      rintro e w3 ⟨rfl, b⟩
      have B3 := Below.more B2 b
      clear b
      go_wp2_with fail
      refine (nSmall La.out HA1.out _ (HE.out.below B3)).mono ?_
      rintro e w4 ⟨rfl, b⟩
      have B4 := Below.more B3 b
      clear b
      go_wp2_with fail
      refine (nAdd La.out Lb.out rfl _).mono ?_
      rintro e w5 ⟨rfl, b⟩
      have B5 := Below.more B4 b
      clear b
      go_wp2_with fail
      refine (oS.out _ (HT.out.below B5)).mono ?_
      rintro e w6 ⟨rfl, b⟩
      have B6 := Below.more B5 b
      clear b
      go_wp2_with fail
      refine (nMul La.out Lb.out HP.out _).mono ?_
      rintro e w7 ⟨rfl, b⟩
      have B7 := Below.more B6 b
      clear b
      go_wp2_with fail
      refine (oP.out _ (HT.out.below B7)).mono ?_
      rintro e w8 ⟨rfl, b⟩
      have B8 := Below.more B7 b
      clear b
      go_wp2_with fail
      refine (nCmp La.out Lb.out HC.out _).mono ?_
      rintro e w' ⟨rfl, rfl⟩
      go_wp2_with fail
      refine (nDivNo La.out Lb.out HB0.out _).mono ?_
      rintro e w9 ⟨rfl, b⟩
      have B9 := Below.more B8 b
      clear b
      go_wp2_with fail
      go_ret
      exact ⟨rfl, B9⟩
    · have HC : Hid (cmpN a b = 1) := Lib.hid (cmpN_gt h)
      have h1 : ¬ (a : Int) < (b : Int) := by omega
      have h2 : (b : Int) < (a : Int) := by omega
      clear hb0 hbi h
      go_enter Tryd.func9, Tryd.ntmps9
      go_wp2_with fail
      refine (fixed1_any _ HT.out HE.out).mono ?_
      rintro e w1 ⟨rfl, b⟩
      have B1 := b
      clear b
      go_wp2_with fail
      refine (oA.out _ (HT.out.below B1)).mono ?_
      rintro e w2 ⟨rfl, b⟩
      have B2 := Below.more B1 b
      clear b
      go_wp2_with fail
      refine (oB.out _ (HT.out.below B2)).mono ?_
      rintro e w3 ⟨rfl, b⟩
      have B3 := Below.more B2 b
      clear b
      go_wp2_with fail
      refine (nSmall La.out HA1.out _ (HE.out.below B3)).mono ?_
      rintro e w4 ⟨rfl, b⟩
      have B4 := Below.more B3 b
      clear b
      go_wp2_with fail
      refine (nAdd La.out Lb.out rfl _).mono ?_
      rintro e w5 ⟨rfl, b⟩
      have B5 := Below.more B4 b
      clear b
      go_wp2_with fail
      refine (oS.out _ (HT.out.below B5)).mono ?_
      rintro e w6 ⟨rfl, b⟩
      have B6 := Below.more B5 b
      clear b
      go_wp2_with fail
      refine (nMul La.out Lb.out HP.out _).mono ?_
      rintro e w7 ⟨rfl, b⟩
      have B7 := Below.more B6 b
      clear b
      go_wp2_with fail
      refine (oP.out _ (HT.out.below B7)).mono ?_
      rintro e w8 ⟨rfl, b⟩
      have B8 := Below.more B7 b
      clear b
      go_wp2_with fail
      refine (nCmp La.out Lb.out HC.out _).mono ?_
      rintro e w' ⟨rfl, rfl⟩
      go_wp2_with fail
      refine (nDivNo La.out Lb.out HB0.out _).mono ?_
      rintro e w9 ⟨rfl, b⟩
      have B9 := Below.more B8 b
      clear b
      go_wp2_with fail
      go_ret
      exact ⟨rfl, B9⟩
  · have HB0 : Hid (0 < b) := Lib.hid (Nat.pos_of_ne_zero hb0)
    have hbi : (0 : Int) < (b : Int) := by omega
    have hbB : ((b : Int) == 0) = false := beq_false_of_ne (by omega)
    have hmx : max (b : Int) 1 = (b : Int) := by omega
    have hq1 : 0 ≤ (a : Int) / (b : Int) := by rw [← Int.natCast_ediv]; exact Int.natCast_nonneg _
    have hq2 : (a : Int) / (b : Int) ≤ 1073741824 := by have := Nat.div_le_self a b; rw [← Int.natCast_ediv]; omega
    have oQ : Hid (∀ w, GoodT w → Calls Tryd.prog 26 #[.int .i64 ((a : Int) / (b : Int))] w (GiveS w (dig (a / b)))) := Lib.hid (fun w h => nOf (Int.natCast_ediv a b).symm (by have := Nat.div_le_self a b; rw [← Int.natCast_ediv]; omega) w h)
    have oR : Hid (∀ w, GoodT w → Calls Tryd.prog 26 #[.int .i64 ((a : Int) % (b : Int))] w (GiveS w (dig (a % b)))) := Lib.hid (fun w h => nOf (Int.natCast_emod a b).symm (by have := Nat.mod_le a b; rw [← Int.natCast_emod]; omega) w h)
    rcases Nat.lt_trichotomy a b with h | h | h
    · have HC : Hid (cmpN a b = -1) := Lib.hid (cmpN_lt h)
      have h1 : (a : Int) < (b : Int) := by omega
      clear hb0 h
      go_enter Tryd.func9, Tryd.ntmps9
      go_wp2_with fail
      refine (fixed1_any _ HT.out HE.out).mono ?_
      rintro e w1 ⟨rfl, b⟩
      have B1 := b
      clear b
      go_wp2_with fail
      refine (oA.out _ (HT.out.below B1)).mono ?_
      rintro e w2 ⟨rfl, b⟩
      have B2 := Below.more B1 b
      clear b
      go_wp2_with fail
      refine (oB.out _ (HT.out.below B2)).mono ?_
      rintro e w3 ⟨rfl, b⟩
      have B3 := Below.more B2 b
      clear b
      go_wp2_with fail
      refine (nSmall La.out HA1.out _ (HE.out.below B3)).mono ?_
      rintro e w4 ⟨rfl, b⟩
      have B4 := Below.more B3 b
      clear b
      go_wp2_with fail
      refine (nAdd La.out Lb.out rfl _).mono ?_
      rintro e w5 ⟨rfl, b⟩
      have B5 := Below.more B4 b
      clear b
      go_wp2_with fail
      refine (oS.out _ (HT.out.below B5)).mono ?_
      rintro e w6 ⟨rfl, b⟩
      have B6 := Below.more B5 b
      clear b
      go_wp2_with fail
      refine (nMul La.out Lb.out HP.out _).mono ?_
      rintro e w7 ⟨rfl, b⟩
      have B7 := Below.more B6 b
      clear b
      go_wp2_with fail
      refine (oP.out _ (HT.out.below B7)).mono ?_
      rintro e w8 ⟨rfl, b⟩
      have B8 := Below.more B7 b
      clear b
      go_wp2_with fail
      refine (nCmp La.out Lb.out HC.out _).mono ?_
      rintro e w' ⟨rfl, rfl⟩
      go_wp2_with fail
      refine (nDiv La.out Lb.out HB0.out rfl rfl _).mono ?_
      rintro e w9 ⟨rfl, b⟩
      have B9 := Below.more B8 b
      clear b
      go_wp2_with fail
      refine (oQ.out _ (HT.out.below B9)).mono ?_
      rintro e w10 ⟨rfl, b⟩
      have B10 := Below.more B9 b
      clear b
      go_wp2_with fail
      refine (oR.out _ (HT.out.below B10)).mono ?_
      rintro e w11 ⟨rfl, b⟩
      have B11 := Below.more B10 b
      clear b
      go_wp2_with fail
      go_ret
      exact ⟨rfl, B11⟩
    · have HC : Hid (cmpN a b = 0) := Lib.hid (by rw [h]; exact cmpN_eq _)
      have h1 : ¬ (a : Int) < (b : Int) := by omega
      have h2 : ¬ (b : Int) < (a : Int) := by omega
      clear hb0 h
      go_enter Tryd.func9, Tryd.ntmps9
      go_wp2_with fail
      refine (fixed1_any _ HT.out HE.out).mono ?_
      rintro e w1 ⟨rfl, b⟩
      have B1 := b
      clear b
      go_wp2_with fail
      refine (oA.out _ (HT.out.below B1)).mono ?_
      rintro e w2 ⟨rfl, b⟩
      have B2 := Below.more B1 b
      clear b
      go_wp2_with fail
      refine (oB.out _ (HT.out.below B2)).mono ?_
      rintro e w3 ⟨rfl, b⟩
      have B3 := Below.more B2 b
      clear b
      go_wp2_with fail
      refine (nSmall La.out HA1.out _ (HE.out.below B3)).mono ?_
      rintro e w4 ⟨rfl, b⟩
      have B4 := Below.more B3 b
      clear b
      go_wp2_with fail
      refine (nAdd La.out Lb.out rfl _).mono ?_
      rintro e w5 ⟨rfl, b⟩
      have B5 := Below.more B4 b
      clear b
      go_wp2_with fail
      refine (oS.out _ (HT.out.below B5)).mono ?_
      rintro e w6 ⟨rfl, b⟩
      have B6 := Below.more B5 b
      clear b
      go_wp2_with fail
      refine (nMul La.out Lb.out HP.out _).mono ?_
      rintro e w7 ⟨rfl, b⟩
      have B7 := Below.more B6 b
      clear b
      go_wp2_with fail
      refine (oP.out _ (HT.out.below B7)).mono ?_
      rintro e w8 ⟨rfl, b⟩
      have B8 := Below.more B7 b
      clear b
      go_wp2_with fail
      refine (nCmp La.out Lb.out HC.out _).mono ?_
      rintro e w' ⟨rfl, rfl⟩
      go_wp2_with fail
      refine (nDiv La.out Lb.out HB0.out rfl rfl _).mono ?_
      rintro e w9 ⟨rfl, b⟩
      have B9 := Below.more B8 b
      clear b
      go_wp2_with fail
      refine (oQ.out _ (HT.out.below B9)).mono ?_
      rintro e w10 ⟨rfl, b⟩
      have B10 := Below.more B9 b
      clear b
      go_wp2_with fail
      refine (oR.out _ (HT.out.below B10)).mono ?_
      rintro e w11 ⟨rfl, b⟩
      have B11 := Below.more B10 b
      clear b
      go_wp2_with fail
      go_ret
      exact ⟨rfl, B11⟩
    · have HC : Hid (cmpN a b = 1) := Lib.hid (cmpN_gt h)
      have h1 : ¬ (a : Int) < (b : Int) := by omega
      have h2 : (b : Int) < (a : Int) := by omega
      clear hb0 h
      go_enter Tryd.func9, Tryd.ntmps9
      go_wp2_with fail
      refine (fixed1_any _ HT.out HE.out).mono ?_
      rintro e w1 ⟨rfl, b⟩
      have B1 := b
      clear b
      go_wp2_with fail
      refine (oA.out _ (HT.out.below B1)).mono ?_
      rintro e w2 ⟨rfl, b⟩
      have B2 := Below.more B1 b
      clear b
      go_wp2_with fail
      refine (oB.out _ (HT.out.below B2)).mono ?_
      rintro e w3 ⟨rfl, b⟩
      have B3 := Below.more B2 b
      clear b
      go_wp2_with fail
      refine (nSmall La.out HA1.out _ (HE.out.below B3)).mono ?_
      rintro e w4 ⟨rfl, b⟩
      have B4 := Below.more B3 b
      clear b
      go_wp2_with fail
      refine (nAdd La.out Lb.out rfl _).mono ?_
      rintro e w5 ⟨rfl, b⟩
      have B5 := Below.more B4 b
      clear b
      go_wp2_with fail
      refine (oS.out _ (HT.out.below B5)).mono ?_
      rintro e w6 ⟨rfl, b⟩
      have B6 := Below.more B5 b
      clear b
      go_wp2_with fail
      refine (nMul La.out Lb.out HP.out _).mono ?_
      rintro e w7 ⟨rfl, b⟩
      have B7 := Below.more B6 b
      clear b
      go_wp2_with fail
      refine (oP.out _ (HT.out.below B7)).mono ?_
      rintro e w8 ⟨rfl, b⟩
      have B8 := Below.more B7 b
      clear b
      go_wp2_with fail
      refine (nCmp La.out Lb.out HC.out _).mono ?_
      rintro e w' ⟨rfl, rfl⟩
      go_wp2_with fail
      refine (nDiv La.out Lb.out HB0.out rfl rfl _).mono ?_
      rintro e w9 ⟨rfl, b⟩
      have B9 := Below.more B8 b
      clear b
      go_wp2_with fail
      refine (oQ.out _ (HT.out.below B9)).mono ?_
      rintro e w10 ⟨rfl, b⟩
      have B10 := Below.more B9 b
      clear b
      go_wp2_with fail
      refine (oR.out _ (HT.out.below B10)).mono ?_
      rintro e w11 ⟨rfl, b⟩
      have B11 := Below.more B10 b
      clear b
      go_wp2_with fail
      go_ret
      exact ⟨rfl, B11⟩

set_option maxRecDepth 100000 in
set_option maxHeartbeats 2000000 in
theorem numbers1_any (a b : Int) (w : World) (g0 : -9223372036854775808 ≤ a) (g1 : a ≤ 9223372036854775807) (g2 : -9223372036854775808 ≤ b) (g3 : b ≤ 9223372036854775807) (ht : GoodT w) (he : GoodE w) :
    Calls Tryd.prog 9 #[.int .i64 a, .int .i64 b] w (GiveB w true) := by
  by_cases hS : 0 ≤ a ∧ 0 ≤ b ∧ a ≤ 1073741824 ∧ b ≤ 1073741824
  · obtain ⟨m, rfl⟩ : ∃ m : Nat, a = (m : Int) := ⟨a.toNat, by omega⟩
    obtain ⟨n, rfl⟩ : ∃ n : Nat, b = (n : Int) := ⟨b.toNat, by omega⟩
    exact numbers1_main m n w (by omega) (by omega) ht he
  · have hC : a < 0 ∨ (¬ a < 0 ∧ b < 0) ∨ (¬ a < 0 ∧ ¬ b < 0 ∧ 1073741824 < a) ∨ (¬ a < 0 ∧ ¬ b < 0 ∧ ¬ 1073741824 < a ∧ 1073741824 < b) := by omega
    have HT := Lib.hid ht; have HE := Lib.hid he
    clear ht he hS
    rcases hC with h1 | ⟨h1, h2⟩ | ⟨h1, h2, h3⟩ | ⟨h1, h2, h3, h4⟩
    all_goals
      go_enter Tryd.func9, Tryd.ntmps9
      go_wp2_with fail
      refine (fixed1_any _ HT.out HE.out).mono ?_
      rintro e w1 ⟨rfl, b⟩
      have B1 := b
      clear b
      go_wp2_with fail
      refine (fixed1_any _ (HT.out.below B1) (HE.out.below B1)).mono ?_
      rintro e w2 ⟨rfl, b⟩
      have B2 := Below.more B1 b
      clear b
      go_wp2_with fail
      go_ret
      exact ⟨rfl, B2⟩
end Go.Proofs.YtcekdidefomkfaaDoor
