/- The walk of NatDivides. -/
import Derived.Test.YtcekdidefomkfaaDoorAllApi
namespace Go.Proofs.YtcekdidefomkfaaDoor
open Go.RowKit

set_option maxRecDepth 100000 in
set_option maxHeartbeats 2000000 in
theorem divides1_main (a b : Nat) (w : World) (la : Lt a 200) (lb : Lt b 200) (za : (⟨(dig a).toArray⟩ : ByteArray).size ≤ 200) (zb : (⟨(dig b).toArray⟩ : ByteArray).size ≤ 200) (ht : GoodT w) (he : GoodE w) :
    Calls Tryd.prog 5 #[.string ⟨(dig a).toArray⟩, .string ⟨(dig b).toArray⟩] w (GiveB w true) := by
  have HT := Lib.hid ht; have HE := Lib.hid he
  have La := Lib.hid la
  have Lb := Lib.hid lb
  have HS := Lib.hid (fun w => short2_any (short_two ⟨za, zb⟩) w)
  clear ht he la za lb zb
  obtain ⟨S, hS⟩ : ∃ S, a + b = S := ⟨_, rfl⟩
  have hS1 : S - b = a := by omega
  have hS2 : b ≤ S := by omega
  have HS0 := Lib.hid hS; have HS1 := Lib.hid hS1; have HS2 := Lib.hid hS2
  have LS : Hid (Lt S 401) := Lib.hid (by rw [← hS]; exact Lt.add La.out Lb.out (by decide))
  clear hS hS1 hS2
  by_cases h0 : b = 0
  · have H0 := Lib.hid h0
    clear h0
    go_enter Tryd.func5, Tryd.ntmps5
    go_wp2_with fail
    refine (fixed1_any _ HT.out HE.out).mono ?_
    rintro e w1 ⟨rfl, b⟩
    have B1 := b
    clear b
    go_wp2_with fail
    refine (HS.out _).mono ?_
    rintro e w2 ⟨rfl, b⟩
    have B2 := Below.more B1 b
    clear b
    go_wp2_with fail
    refine (nMay La.out _).mono ?_
    rintro e w' ⟨rfl, rfl⟩
    go_wp2_with fail
    refine (nMay Lb.out _).mono ?_
    rintro e w' ⟨rfl, rfl⟩
    go_wp2_with fail
    refine (nAdd La.out Lb.out HS0.out _).mono ?_
    rintro e w3 ⟨rfl, b⟩
    have B3 := Below.more B2 b
    clear b
    go_wp2_with fail
    refine (nSub LS.out Lb.out HS2.out HS1.out _).mono ?_
    rintro e w4 ⟨rfl, b⟩
    have B4 := Below.more B3 b
    clear b
    have e0 : dig b = [48] := by rw [H0.out]; exact dig_0
    go_wp2_with fail
    go_ret
    exact ⟨rfl, B4⟩
  · have e0 := dig_ne48 h0
    have e1 := dig_neB h0
    have hb := Nat.pos_of_ne_zero h0
    obtain ⟨q, hq⟩ : ∃ q, a / b = q := ⟨_, rfl⟩
    obtain ⟨r, hr⟩ : ∃ r, a % b = r := ⟨_, rfl⟩
    obtain ⟨P, hP⟩ : ∃ P, a * b = P := ⟨_, rfl⟩
    obtain ⟨Q, hQ⟩ : ∃ Q, q * b = Q := ⟨_, rfl⟩
    have hrb : r < b := by rw [← hr]; exact Nat.mod_lt a hb
    have hqr : Q + r = a := by
      have := Nat.div_add_mod a b
      rw [hq, hr, Nat.mul_comm b q, hQ] at this
      exact this
    have LP : Hid (Lt P 400) := Lib.hid (by rw [← hP]; exact Lt.mul La.out Lb.out (by decide))
    have Lq : Hid (Lt q 200) := Lt.mono La.out (by rw [← hq]; exact Nat.div_le_self _ _)
    have Lr : Hid (Lt r 200) := Lt.mono La.out (by rw [← hr]; exact Nat.mod_le _ _)
    have LQ : Hid (Lt Q 200) := Lt.mono La.out (by omega)
    have hPq : P / b = a := by rw [← hP]; exact Nat.mul_div_cancel _ hb
    have hPr : P % b = 0 := by rw [← hP]; exact Nat.mul_mod_left _ _
    have HQ := Lib.hid hq; have HR := Lib.hid hr; have HP := Lib.hid hP; have HQ2 := Lib.hid hQ; have HRB := Lib.hid hrb; have HQR := Lib.hid hqr; have HPQ := Lib.hid hPq; have HPR := Lib.hid hPr; have HB := Lib.hid hb
    have d0 := dig_0
    clear h0 hb hq hr hP hQ hrb hqr hPq hPr
    go_enter Tryd.func5, Tryd.ntmps5
    go_wp2_with fail
    refine (fixed1_any _ HT.out HE.out).mono ?_
    rintro e w1 ⟨rfl, b⟩
    have B1 := b
    clear b
    go_wp2_with fail
    refine (HS.out _).mono ?_
    rintro e w2 ⟨rfl, b⟩
    have B2 := Below.more B1 b
    clear b
    go_wp2_with fail
    refine (nMay La.out _).mono ?_
    rintro e w' ⟨rfl, rfl⟩
    go_wp2_with fail
    refine (nMay Lb.out _).mono ?_
    rintro e w' ⟨rfl, rfl⟩
    go_wp2_with fail
    refine (nAdd La.out Lb.out HS0.out _).mono ?_
    rintro e w3 ⟨rfl, b⟩
    have B3 := Below.more B2 b
    clear b
    go_wp2_with fail
    refine (nSub LS.out Lb.out HS2.out HS1.out _).mono ?_
    rintro e w4 ⟨rfl, b⟩
    have B4 := Below.more B3 b
    clear b
    go_wp2_with fail
    refine (nDiv La.out Lb.out HB.out HQ.out HR.out _).mono ?_
    rintro e w5 ⟨rfl, b⟩
    have B5 := Below.more B4 b
    clear b
    go_wp2_with fail
    refine (nMul La.out Lb.out HP.out _).mono ?_
    rintro e w6 ⟨rfl, b⟩
    have B6 := Below.more B5 b
    clear b
    go_wp2_with fail
    refine (nDiv LP.out Lb.out HB.out HPQ.out HPR.out _).mono ?_
    rintro e w7 ⟨rfl, b⟩
    have B7 := Below.more B6 b
    clear b
    go_wp2_with fail
    refine (nMul Lq.out Lb.out HQ2.out _).mono ?_
    rintro e w8 ⟨rfl, b⟩
    have B8 := Below.more B7 b
    clear b
    go_wp2_with fail
    refine (nAdd LQ.out Lr.out HQR.out _).mono ?_
    rintro e w9 ⟨rfl, b⟩
    have B9 := Below.more B8 b
    clear b
    go_wp2_with fail
    refine (nCmp Lr.out Lb.out (cmpN_lt HRB.out) _).mono ?_
    rintro e w' ⟨rfl, rfl⟩
    go_wp2_with fail
    go_ret
    exact ⟨rfl, B9⟩

set_option maxRecDepth 100000 in
set_option maxHeartbeats 2000000 in
theorem divides1_any (s t : ByteArray) (w : World) (ht : GoodT w) (he : GoodE w) :
    Calls Tryd.prog 5 #[.string s, .string t] w (GiveB w true) := by
  by_cases hS : s.size ≤ 200 ∧ t.size ≤ 200
  · have HS := Lib.hid (fun w => short2_any (short_two hS) w)
    obtain ⟨zs, zt⟩ := hS
    cases ks : isNat s.data.toList with
    | false =>
      have HT := Lib.hid ht; have HE := Lib.hid he; clear ht he
      have cs := fun w => rmay_any s w (by omega)
      rw [ks] at cs
      have Cs := Lib.hid cs; clear cs
      clear ks zs zt
      go_enter Tryd.func5, Tryd.ntmps5
      go_wp2_with fail
      refine (fixed1_any _ HT.out HE.out).mono ?_
      rintro e w1 ⟨rfl, b⟩
      have B1 := b
      clear b
      go_wp2_with fail
      refine (HS.out _).mono ?_
      rintro e w2 ⟨rfl, b⟩
      have B2 := Below.more B1 b
      clear b
      go_wp2_with fail
      refine (Cs.out _).mono ?_
      rintro e w' ⟨rfl, rfl⟩
      go_wp2_with fail
      refine (fixed1_any _ (HT.out.below B2) (HE.out.below B2)).mono ?_
      rintro e w3 ⟨rfl, b⟩
      have B3 := Below.more B2 b
      clear b
      go_wp2_with fail
      go_ret
      exact ⟨rfl, B3⟩
    | true =>
      cases kt : isNat t.data.toList with
      | false =>
        have HT := Lib.hid ht; have HE := Lib.hid he; clear ht he
        have cs := fun w => rmay_any s w (by omega)
        rw [ks] at cs
        have Cs := Lib.hid cs; clear cs
        have ct := fun w => rmay_any t w (by omega)
        rw [kt] at ct
        have Ct := Lib.hid ct; clear ct
        clear ks kt zs zt
        go_enter Tryd.func5, Tryd.ntmps5
        go_wp2_with fail
        refine (fixed1_any _ HT.out HE.out).mono ?_
        rintro e w1 ⟨rfl, b⟩
        have B1 := b
        clear b
        go_wp2_with fail
        refine (HS.out _).mono ?_
        rintro e w2 ⟨rfl, b⟩
        have B2 := Below.more B1 b
        clear b
        go_wp2_with fail
        refine (Cs.out _).mono ?_
        rintro e w' ⟨rfl, rfl⟩
        go_wp2_with fail
        refine (Ct.out _).mono ?_
        rintro e w' ⟨rfl, rfl⟩
        go_wp2_with fail
        refine (fixed1_any _ (HT.out.below B2) (HE.out.below B2)).mono ?_
        rintro e w3 ⟨rfl, b⟩
        have B3 := Below.more B2 b
        clear b
        go_wp2_with fail
        go_ret
        exact ⟨rfl, B3⟩
      | true =>
        have es := str_dig ks
        have ls := Lt.of_text ks zs (by decide) (by decide)
        have et := str_dig kt
        have lt := Lt.of_text kt zt (by decide) (by decide)
        generalize valS s.data.toList = a at *
        generalize valS t.data.toList = b at *
        clear HS ks kt
        subst es
        subst et
        exact divides1_main a b w ls lt zs zt ht he
  · have HS := Lib.hid (fun w => short2_any (long_two hS) w)
    have HT := Lib.hid ht; have HE := Lib.hid he; clear ht he hS
    go_enter Tryd.func5, Tryd.ntmps5
    go_wp2_with fail
    refine (fixed1_any _ HT.out HE.out).mono ?_
    rintro e w1 ⟨rfl, b⟩
    have B1 := b
    clear b
    go_wp2_with fail
    refine (HS.out _).mono ?_
    rintro e w2 ⟨rfl, b⟩
    have B2 := Below.more B1 b
    clear b
    go_wp2_with fail
    refine (fixed1_any _ (HT.out.below B2) (HE.out.below B2)).mono ?_
    rintro e w3 ⟨rfl, b⟩
    have B3 := Below.more B2 b
    clear b
    go_wp2_with fail
    go_ret
    exact ⟨rfl, B3⟩
end Go.Proofs.YtcekdidefomkfaaDoor
