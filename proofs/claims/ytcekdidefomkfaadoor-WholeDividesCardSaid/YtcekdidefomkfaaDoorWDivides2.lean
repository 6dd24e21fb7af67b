/- The walk of WholeDivides. -/
import Derived.Test.YtcekdidefomkfaaDoorAllApiW
namespace Go.Proofs.YtcekdidefomkfaaDoor
open Go.RowKit

set_option maxRecDepth 100000 in
set_option maxHeartbeats 4000000 in
theorem divides2_main (a b : Int) (w : World) (la : Ltw a 200) (lb : Ltw b 200) (za : (⟨(wd a).toArray⟩ : ByteArray).size ≤ 200) (zb : (⟨(wd b).toArray⟩ : ByteArray).size ≤ 200) (h0 : b ≠ 0) (ht : GoodT w) :
    Calls Tryd.prog 12 #[.string ⟨(wd a).toArray⟩, .string ⟨(wd b).toArray⟩] w (GiveB w true) := by
  have HT := Lib.hid ht
  have La := Lib.hid la
  have Lb := Lib.hid lb
  have HS := Lib.hid (fun w => short2_any (short_two ⟨za, zb⟩) w)
  clear ht la za lb zb
  obtain ⟨q, hq⟩ : ∃ q, a / b = q := ⟨_, rfl⟩
  obtain ⟨r, hr⟩ : ∃ r, a % b = r := ⟨_, rfl⟩
  obtain ⟨Q, hQ⟩ : ∃ Q, q * b = Q := ⟨_, rfl⟩
  obtain ⟨B, hB⟩ : ∃ B, (b.natAbs : Int) = B := ⟨_, rfl⟩
  have hr0 : 0 ≤ r := by rw [← hr]; exact Int.emod_nonneg a h0
  have hrB : r < B := by rw [← hr, ← hB]; exact emod_lt' a h0
  have hqr : Q + r = a := by
    have := Int.mul_ediv_add_emod a b
    rw [hq, hr, Int.mul_comm b q, hQ] at this
    exact this
  have hql : Ltw q 201 := Ltw.small La.out (by rw [← hq]; exact natAbs_ediv a b) (by decide) (by decide)
  have hrl : Ltw r 201 := Ltw.small Lb.out (by omega) (by decide) (by decide)
  have hQl : Ltw Q 402 := by rw [← hQ]; exact Ltw.mul hql Lb.out (by decide) (by decide)
  have hBl : Ltw B 201 := Ltw.small Lb.out (by omega) (by decide) (by decide)
  have hc : cmpZ r B = -1 := by unfold cmpZ; rw [if_pos hrB]
  obtain ⟨z, hz⟩ : ∃ z : Int, (if r < 0 then -1 else if r = 0 then 0 else 1) = z := ⟨_, rfl⟩
  have hz0 : 0 ≤ z := by rw [← hz, if_neg (by omega)]; split <;> decide
  have e0 := wd_neB h0
  have e1 := wd_ne48 h0
  have Hq := Lib.hid hq
  have Hr := Lib.hid hr
  have HQ := Lib.hid hQ
  have HB := Lib.hid hB
  have Hqr := Lib.hid hqr
  have Hql := Lib.hid hql
  have Hrl := Lib.hid hrl
  have HQl := Lib.hid hQl
  have HBl := Lib.hid hBl
  have Hc := Lib.hid hc
  have Hz := Lib.hid hz
  have H0 := Lib.hid h0
  clear hq hr hQ hB hr0 hrB hqr hql hrl hQl hBl hc hz h0
  go_enter Tryd.func12, Tryd.ntmps12
  go_wp2_with fail
  refine (fixed2_any _ HT.out).mono ?_
  rintro e w1 ⟨rfl, b⟩
  have B1 := b
  clear b
  go_wp2_with fail
  refine (HS.out _).mono ?_
  rintro e w2 ⟨rfl, b⟩
  have B2 := Below.more B1 b
  clear b
  go_wp2_with fail
  refine (zMay La.out _).mono ?_
  rintro e w' ⟨rfl, rfl⟩
  go_wp2_with fail
  refine (zMay Lb.out _).mono ?_
  rintro e w' ⟨rfl, rfl⟩
  go_wp2_with fail
  refine (zDiv La.out Lb.out H0.out Hq.out Hr.out _).mono ?_
  rintro e w3 ⟨rfl, b⟩
  have B3 := Below.more B2 b
  clear b
  go_wp2_with fail
  refine (zMul Hql.out Lb.out HQ.out _).mono ?_
  rintro e w4 ⟨rfl, b⟩
  have B4 := Below.more B3 b
  clear b
  go_wp2_with fail
  refine (zAdd HQl.out Hrl.out Hqr.out _).mono ?_
  rintro e w5 ⟨rfl, b⟩
  have B5 := Below.more B4 b
  clear b
  go_wp2_with fail
  refine (zSign Hrl.out Hz.out _).mono ?_
  rintro e w' ⟨rfl, rfl⟩
  go_wp2_with fail
  refine (zAbs Lb.out HB.out _).mono ?_
  rintro e w' ⟨rfl, rfl⟩
  go_wp2_with fail
  refine (zCmp Hrl.out HBl.out Hc.out _).mono ?_
  rintro e w' ⟨rfl, rfl⟩
  go_wp2_with fail
  go_ret
  exact ⟨rfl, B5⟩

set_option maxRecDepth 100000 in
set_option maxHeartbeats 4000000 in
theorem divides2_any (s t : ByteArray) (w : World) (ht : GoodT w) :
    Calls Tryd.prog 12 #[.string s, .string t] w (GiveB w true) := by
  by_cases hS : s.size ≤ 200 ∧ t.size ≤ 200
  · have HS := Lib.hid (fun w => short2_any (short_two hS) w)
    obtain ⟨zs, zt⟩ := hS
    cases ks : isW s.data.toList with
    | false =>
      have HT := Lib.hid ht; clear ht
      have cs := fun w => rwmay_any s w (by omega)
      rw [ks] at cs
      have Cs := Lib.hid cs; clear cs
      clear ks zs zt
      go_enter Tryd.func12, Tryd.ntmps12
      go_wp2_with fail
      refine (fixed2_any _ HT.out).mono ?_
      rintro e w1 ⟨rfl, b⟩
      have B1 := b
      clear b
      go_wp2_with fail
      refine (HS.out _).mono ?_
      rintro e w2 ⟨rfl, b⟩
      have B2 := Below.more B1 b
      clear b
      go_wp2_with fail
      refine (Cs.out _).mono ?_
      rintro e w' ⟨rfl, rfl⟩
      go_wp2_with fail
      refine (fixed2_any _ (HT.out.below B2)).mono ?_
      rintro e w3 ⟨rfl, b⟩
      have B3 := Below.more B2 b
      clear b
      go_wp2_with fail
      go_ret
      exact ⟨rfl, B3⟩
    | true =>
      cases kt : isW t.data.toList with
      | false =>
        have HT := Lib.hid ht; clear ht
        have cs := fun w => rwmay_any s w (by omega)
        rw [ks] at cs
        have Cs := Lib.hid cs; clear cs
        have ct := fun w => rwmay_any t w (by omega)
        rw [kt] at ct
        have Ct := Lib.hid ct; clear ct
        clear ks kt zs zt
        go_enter Tryd.func12, Tryd.ntmps12
        go_wp2_with fail
        refine (fixed2_any _ HT.out).mono ?_
        rintro e w1 ⟨rfl, b⟩
        have B1 := b
        clear b
        go_wp2_with fail
        refine (HS.out _).mono ?_
        rintro e w2 ⟨rfl, b⟩
        have B2 := Below.more B1 b
        clear b
        go_wp2_with fail
        refine (Cs.out _).mono ?_
        rintro e w' ⟨rfl, rfl⟩
        go_wp2_with fail
        refine (Ct.out _).mono ?_
        rintro e w' ⟨rfl, rfl⟩
        go_wp2_with fail
        refine (fixed2_any _ (HT.out.below B2)).mono ?_
        rintro e w3 ⟨rfl, b⟩
        have B3 := Below.more B2 b
        clear b
        go_wp2_with fail
        go_ret
        exact ⟨rfl, B3⟩
      | true =>
        by_cases h0 : valW t.data.toList = 0
        · have hz : t.data.toList = [48] := by rw [← wd_valW kt, h0]; exact wd_0
          have e1 := eqB_true hz
          have HT := Lib.hid ht; clear ht
          have cs := fun w => rwmay_any s w (by omega)
          rw [ks] at cs
          have Cs := Lib.hid cs; clear cs
          have ct := fun w => rwmay_any t w (by omega)
          rw [kt] at ct
          have Ct := Lib.hid ct; clear ct
          clear h0 hz ks kt zs zt
          go_enter Tryd.func12, Tryd.ntmps12
          go_wp2_with fail
          refine (fixed2_any _ HT.out).mono ?_
          rintro e w1 ⟨rfl, b⟩
          have B1 := b
          clear b
          go_wp2_with fail
          refine (HS.out _).mono ?_
          rintro e w2 ⟨rfl, b⟩
          have B2 := Below.more B1 b
          clear b
          go_wp2_with fail
          refine (Cs.out _).mono ?_
          rintro e w' ⟨rfl, rfl⟩
          go_wp2_with fail
          refine (Ct.out _).mono ?_
          rintro e w' ⟨rfl, rfl⟩
          go_wp2_with fail
          refine (fixed2_any _ (HT.out.below B2)).mono ?_
          rintro e w3 ⟨rfl, b⟩
          have B3 := Below.more B2 b
          clear b
          go_wp2_with fail
          go_ret
          exact ⟨rfl, B3⟩
        · skip
          have es := str_wd ks
          have ls := Ltw.of_text ks zs (by decide)
          have et := str_wd kt
          have lt := Ltw.of_text kt zt (by decide)
          generalize valW s.data.toList = a at *
          generalize valW t.data.toList = b at *
          clear HS ks kt
          subst es
          subst et
          exact divides2_main a b w ls lt zs zt h0 ht
  · have HS := Lib.hid (fun w => short2_any (long_two hS) w)
    have HT := Lib.hid ht; clear ht hS
    go_enter Tryd.func12, Tryd.ntmps12
    go_wp2_with fail
    refine (fixed2_any _ HT.out).mono ?_
    rintro e w1 ⟨rfl, b⟩
    have B1 := b
    clear b
    go_wp2_with fail
    refine (HS.out _).mono ?_
    rintro e w2 ⟨rfl, b⟩
    have B2 := Below.more B1 b
    clear b
    go_wp2_with fail
    refine (fixed2_any _ (HT.out.below B2)).mono ?_
    rintro e w3 ⟨rfl, b⟩
    have B3 := Below.more B2 b
    clear b
    go_wp2_with fail
    go_ret
    exact ⟨rfl, B3⟩
end Go.Proofs.YtcekdidefomkfaaDoor
