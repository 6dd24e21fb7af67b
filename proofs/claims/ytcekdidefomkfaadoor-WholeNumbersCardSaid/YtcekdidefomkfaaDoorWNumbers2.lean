/- The walk of WholeNumbers. -/
import Derived.Test.YtcekdidefomkfaaDoorAllApiW
namespace Go.Proofs.YtcekdidefomkfaaDoor
open Go.RowKit

theorem Ltw.int {a : Int} (h1 : -1073741824 ≤ a) (h2 : a ≤ 1073741824) : Ltw a 11 := Ltw.mk' (Nat.lt_of_le_of_lt (show a.natAbs ≤ 1073741824 by omega) (by decide)) (by decide) (by decide)
theorem max_abs (a : Int) : max a (-a) = (a.natAbs : Int) := by omega
theorem mul_bound {a b : Int} (a1 : -1073741824 ≤ a) (a2 : a ≤ 1073741824) (b1 : -1073741824 ≤ b) (b2 : b ≤ 1073741824) : -1152921504606846976 ≤ a * b ∧ a * b ≤ 1152921504606846976 := by
  have h : (a * b).natAbs ≤ 1073741824 * 1073741824 := by rw [Int.natAbs_mul]; exact Nat.mul_le_mul (by omega) (by omega)
  omega

set_option maxRecDepth 100000 in
set_option maxHeartbeats 4000000 in
theorem numbers2_main (a b : Int) (w : World) (a1 : -1073741824 ≤ a) (a2 : a ≤ 1073741824) (b1 : -1073741824 ≤ b) (b2 : b ≤ 1073741824) (ht : GoodT w) :
    Calls Tryd.prog 14 #[.int .i64 a, .int .i64 b] w (GiveB w true) := by
  have HT := Lib.hid ht
  have La := Lib.hid (Ltw.int a1 a2)
  have Lb := Lib.hid (Ltw.int b1 b2)
  obtain ⟨p1, p2⟩ := mul_bound a1 a2 b1 b2
  have oA : Hid (∀ w, GoodT w → Calls Tryd.prog 41 #[.int .i64 (a)] w (GiveS w (wd (a)))) := Lib.hid (fun w h => wof_any _ w (by omega) (by omega) h)
  have oB : Hid (∀ w, GoodT w → Calls Tryd.prog 41 #[.int .i64 (b)] w (GiveS w (wd (b)))) := Lib.hid (fun w h => wof_any _ w (by omega) (by omega) h)
  have oS : Hid (∀ w, GoodT w → Calls Tryd.prog 41 #[.int .i64 (a + b)] w (GiveS w (wd (a + b)))) := Lib.hid (fun w h => wof_any _ w (by omega) (by omega) h)
  have oD : Hid (∀ w, GoodT w → Calls Tryd.prog 41 #[.int .i64 (a - b)] w (GiveS w (wd (a - b)))) := Lib.hid (fun w h => wof_any _ w (by omega) (by omega) h)
  have oP : Hid (∀ w, GoodT w → Calls Tryd.prog 41 #[.int .i64 (a * b)] w (GiveS w (wd (a * b)))) := Lib.hid (fun w h => wof_any _ w (by omega) (by omega) h)
  have oN : Hid (∀ w, GoodT w → Calls Tryd.prog 41 #[.int .i64 (-a)] w (GiveS w (wd (-a)))) := Lib.hid (fun w h => wof_any _ w (by omega) (by omega) h)
  have oM : Hid (∀ w, GoodT w → Calls Tryd.prog 41 #[.int .i64 (max a (-a))] w (GiveS w (wd (a.natAbs : Int)))) := Lib.hid (fun w h => by
    have c := wof_any (max a (-a)) w (by omega) (by omega) h
    rw [max_abs] at c ⊢
    exact c)
  clear ht
  rcases cmpZ_cases a b with ⟨h, hc⟩ | ⟨h, hc⟩ | ⟨h, hc⟩
  · have HC := Lib.hid hc
    clear hc
    go_enter Tryd.func14, Tryd.ntmps14
    go_wp2_with fail
    refine (fixed2_any _ HT.out).mono ?_
    rintro e w1 ⟨rfl, b⟩
    have B1 := b
    clear b
    go_wp2_with fail
    refine (oA.out _ (HT.out.below B1)).mono ?_
    rintro e w2 ⟨rfl, b⟩
    have B2 := Below.more B1 b
    clear b
    go_wp2_with fail
    refine (oB.out _ (HT.out.below B2)).mono ?_
    rintro e w3 ⟨rfl, b⟩
    have B3 := Below.more B2 b
    clear b
    go_wp2_with fail
    refine (zAdd La.out Lb.out rfl _).mono ?_
    rintro e w4 ⟨rfl, b⟩
    have B4 := Below.more B3 b
    clear b
    go_wp2_with fail
    refine (oS.out _ (HT.out.below B4)).mono ?_
    rintro e w5 ⟨rfl, b⟩
    have B5 := Below.more B4 b
    clear b
    go_wp2_with fail
    refine (zSub La.out Lb.out rfl _).mono ?_
    rintro e w6 ⟨rfl, b⟩
    have B6 := Below.more B5 b
    clear b
    go_wp2_with fail
    refine (oD.out _ (HT.out.below B6)).mono ?_
    rintro e w7 ⟨rfl, b⟩
    have B7 := Below.more B6 b
    clear b
    go_wp2_with fail
    refine (zMul La.out Lb.out rfl _).mono ?_
    rintro e w8 ⟨rfl, b⟩
    have B8 := Below.more B7 b
    clear b
    go_wp2_with fail
    refine (oP.out _ (HT.out.below B8)).mono ?_
    rintro e w9 ⟨rfl, b⟩
    have B9 := Below.more B8 b
    clear b
    go_wp2_with fail
    refine (zCmp La.out Lb.out HC.out _).mono ?_
    rintro e w' ⟨rfl, rfl⟩
    go_wp2_with fail
    refine (zNeg La.out rfl _).mono ?_
    rintro e w' ⟨rfl, rfl⟩
    go_wp2_with fail
    refine (oN.out _ (HT.out.below B9)).mono ?_
    rintro e w10 ⟨rfl, b⟩
    have B10 := Below.more B9 b
    clear b
    go_wp2_with fail
    refine (zAbs La.out rfl _).mono ?_
    rintro e w' ⟨rfl, rfl⟩
    go_wp2_with fail
    refine (oM.out _ (HT.out.below B10)).mono ?_
    rintro e w11 ⟨rfl, b⟩
    have B11 := Below.more B10 b
    clear b
    go_wp2_with fail
    go_ret
    exact ⟨rfl, B11⟩
  · have HC := Lib.hid hc
    have h1 : ¬ a < b := by omega
    have h2 : ¬ b < a := by omega
    clear hc h
    go_enter Tryd.func14, Tryd.ntmps14
    go_wp2_with fail
    refine (fixed2_any _ HT.out).mono ?_
    rintro e w1 ⟨rfl, b⟩
    have B1 := b
    clear b
    go_wp2_with fail
    refine (oA.out _ (HT.out.below B1)).mono ?_
    rintro e w2 ⟨rfl, b⟩
    have B2 := Below.more B1 b
    clear b
    go_wp2_with fail
    refine (oB.out _ (HT.out.below B2)).mono ?_
    rintro e w3 ⟨rfl, b⟩
    have B3 := Below.more B2 b
    clear b
    go_wp2_with fail
    refine (zAdd La.out Lb.out rfl _).mono ?_
    rintro e w4 ⟨rfl, b⟩
    have B4 := Below.more B3 b
    clear b
    go_wp2_with fail
    refine (oS.out _ (HT.out.below B4)).mono ?_
    rintro e w5 ⟨rfl, b⟩
    have B5 := Below.more B4 b
    clear b
    go_wp2_with fail
    refine (zSub La.out Lb.out rfl _).mono ?_
    rintro e w6 ⟨rfl, b⟩
    have B6 := Below.more B5 b
    clear b
    go_wp2_with fail
    refine (oD.out _ (HT.out.below B6)).mono ?_
    rintro e w7 ⟨rfl, b⟩
    have B7 := Below.more B6 b
    clear b
    go_wp2_with fail
    refine (zMul La.out Lb.out rfl _).mono ?_
    rintro e w8 ⟨rfl, b⟩
    have B8 := Below.more B7 b
    clear b
    go_wp2_with fail
    refine (oP.out _ (HT.out.below B8)).mono ?_
    rintro e w9 ⟨rfl, b⟩
    have B9 := Below.more B8 b
    clear b
    go_wp2_with fail
    refine (zCmp La.out Lb.out HC.out _).mono ?_
    rintro e w' ⟨rfl, rfl⟩
    go_wp2_with fail
    refine (zNeg La.out rfl _).mono ?_
    rintro e w' ⟨rfl, rfl⟩
    go_wp2_with fail
    refine (oN.out _ (HT.out.below B9)).mono ?_
    rintro e w10 ⟨rfl, b⟩
    have B10 := Below.more B9 b
    clear b
    go_wp2_with fail
    refine (zAbs La.out rfl _).mono ?_
    rintro e w' ⟨rfl, rfl⟩
    go_wp2_with fail
    refine (oM.out _ (HT.out.below B10)).mono ?_
    rintro e w11 ⟨rfl, b⟩
    have B11 := Below.more B10 b
    clear b
    go_wp2_with fail
    go_ret
    exact ⟨rfl, B11⟩
  · have HC := Lib.hid hc
    have h1 : ¬ a < b := by omega
    clear hc
    go_enter Tryd.func14, Tryd.ntmps14
    go_wp2_with fail
    refine (fixed2_any _ HT.out).mono ?_
    rintro e w1 ⟨rfl, b⟩
    have B1 := b
    clear b
    go_wp2_with fail
    refine (oA.out _ (HT.out.below B1)).mono ?_
    rintro e w2 ⟨rfl, b⟩
    have B2 := Below.more B1 b
    clear b
    go_wp2_with fail
    refine (oB.out _ (HT.out.below B2)).mono ?_
    rintro e w3 ⟨rfl, b⟩
    have B3 := Below.more B2 b
    clear b
    go_wp2_with fail
    refine (zAdd La.out Lb.out rfl _).mono ?_
    rintro e w4 ⟨rfl, b⟩
    have B4 := Below.more B3 b
    clear b
    go_wp2_with fail
    refine (oS.out _ (HT.out.below B4)).mono ?_
    rintro e w5 ⟨rfl, b⟩
    have B5 := Below.more B4 b
    clear b
    go_wp2_with fail
    refine (zSub La.out Lb.out rfl _).mono ?_
    rintro e w6 ⟨rfl, b⟩
    have B6 := Below.more B5 b
    clear b
    go_wp2_with fail
    refine (oD.out _ (HT.out.below B6)).mono ?_
    rintro e w7 ⟨rfl, b⟩
    have B7 := Below.more B6 b
    clear b
    go_wp2_with fail
    refine (zMul La.out Lb.out rfl _).mono ?_
    rintro e w8 ⟨rfl, b⟩
    have B8 := Below.more B7 b
    clear b
    go_wp2_with fail
    refine (oP.out _ (HT.out.below B8)).mono ?_
    rintro e w9 ⟨rfl, b⟩
    have B9 := Below.more B8 b
    clear b
    go_wp2_with fail
    refine (zCmp La.out Lb.out HC.out _).mono ?_
    rintro e w' ⟨rfl, rfl⟩
    go_wp2_with fail
    refine (zNeg La.out rfl _).mono ?_
    rintro e w' ⟨rfl, rfl⟩
    go_wp2_with fail
    refine (oN.out _ (HT.out.below B9)).mono ?_
    rintro e w10 ⟨rfl, b⟩
    have B10 := Below.more B9 b
    clear b
    go_wp2_with fail
    refine (zAbs La.out rfl _).mono ?_
    rintro e w' ⟨rfl, rfl⟩
    go_wp2_with fail
    refine (oM.out _ (HT.out.below B10)).mono ?_
    rintro e w11 ⟨rfl, b⟩
    have B11 := Below.more B10 b
    clear b
    go_wp2_with fail
    go_ret
    exact ⟨rfl, B11⟩

set_option maxRecDepth 100000 in
set_option maxHeartbeats 2000000 in
theorem numbers2_any (a b : Int) (w : World) (g0 : -9223372036854775808 ≤ a) (g1 : a ≤ 9223372036854775807) (g2 : -9223372036854775808 ≤ b) (g3 : b ≤ 9223372036854775807) (ht : GoodT w) :
    Calls Tryd.prog 14 #[.int .i64 a, .int .i64 b] w (GiveB w true) := by
  by_cases hS : -1073741824 ≤ a ∧ -1073741824 ≤ b ∧ a ≤ 1073741824 ∧ b ≤ 1073741824
  · exact numbers2_main a b w (by omega) (by omega) (by omega) (by omega) ht
  · have hC : a < -1073741824 ∨ (¬ a < -1073741824 ∧ b < -1073741824) ∨ (¬ a < -1073741824 ∧ ¬ b < -1073741824 ∧ 1073741824 < a) ∨ (¬ a < -1073741824 ∧ ¬ b < -1073741824 ∧ ¬ 1073741824 < a ∧ 1073741824 < b) := by omega
    have HT := Lib.hid ht
    clear ht hS
    rcases hC with h1 | ⟨h1, h2⟩ | ⟨h1, h2, h3⟩ | ⟨h1, h2, h3, h4⟩
    all_goals
      go_enter Tryd.func14, Tryd.ntmps14
      go_wp2_with fail
      refine (fixed2_any _ HT.out).mono ?_
      rintro e w1 ⟨rfl, b⟩
      have B1 := b
      clear b
      go_wp2_with fail
      refine (fixed2_any _ (HT.out.below B1)).mono ?_
      rintro e w2 ⟨rfl, b⟩
      have B2 := Below.more B1 b
      clear b
      go_wp2_with fail
      go_ret
      exact ⟨rfl, B2⟩
end Go.Proofs.YtcekdidefomkfaaDoor
