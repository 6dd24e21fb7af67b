/- The walk of WholeHalves. -/
import Derived.Test.YtcekdidefomkfaaDoorAllApiW
namespace Go.Proofs.YtcekdidefomkfaaDoor
open Go.RowKit

set_option maxRecDepth 100000 in
set_option maxHeartbeats 4000000 in
theorem halves2_main (a b : Int) (w : World) (la : Ltw a 200) (lb : Ltw b 200) (za : (⟨(wd a).toArray⟩ : ByteArray).size ≤ 200) (zb : (⟨(wd b).toArray⟩ : ByteArray).size ≤ 200) (h0 : b ≠ 0) (ht : GoodT w) :
    Calls Tryd.prog 15 #[.string ⟨(wd a).toArray⟩, .string ⟨(wd b).toArray⟩] w (GiveB w true) := by
  have HT := Lib.hid ht
  have La := Lib.hid la
  have Lb := Lib.hid lb
  have HS := Lib.hid (fun w => short2_any (short_two ⟨za, zb⟩) w)
  clear ht la za lb zb
  obtain ⟨q, hq⟩ : ∃ q, a / 2 = q := ⟨_, rfl⟩
  obtain ⟨r, hr⟩ : ∃ r, a % 2 = r := ⟨_, rfl⟩
  obtain ⟨u, hu⟩ : ∃ u, a / b = u := ⟨_, rfl⟩
  obtain ⟨v, hv⟩ : ∃ v, a % b = v := ⟨_, rfl⟩
  obtain ⟨Q, hQ⟩ : ∃ Q, q + q = Q := ⟨_, rfl⟩
  have hqr : Q + r = a := by omega
  have hx : a / -b = -u := by rw [Int.ediv_neg, hu]
  have hy : a % -b = v := by rw [Int.emod_neg, hv]
  have hnb : -b ≠ 0 := by omega
  have hl2 : Ltw 2 1 := ⟨by rw [wd_pos (by decide)]; exact dig_length (by decide) (by decide), by decide⟩
  have hql : Ltw q 201 := Ltw.small La.out (by omega) (by decide) (by decide)
  have hrl : Ltw r 2 := Ltw.small hl2 (by show r.natAbs ≤ 2; omega) (by decide) (by decide)
  have hul : Ltw u 201 := Ltw.small La.out (by rw [← hu]; exact natAbs_ediv a b) (by decide) (by decide)
  have hQl : Ltw Q 404 := by rw [← hQ]; exact Ltw.add hql hql (by decide)
  have e0 := wd_neB h0
  have e1 := wd_ne48 h0
  have d2 : wd 2 = [50] := by rw [wd_pos (by decide)]; exact dig_valS (l := [50]) (by decide)
  have cD : ∀ w, Calls Tryd.prog 37 #[.string ⟨(wd a).toArray⟩, .string ⟨#[50]⟩] w (GiveSSB w (wd q, wd r, true)) := fun w => by
    have c := zDiv La.out hl2 (by decide) hq hr w
    rw [d2] at c
    exact c
  have CD := Lib.hid cD
  have hrc : r = 0 ∨ r = 1 := by omega
  have Hu := Lib.hid hu
  have Hv := Lib.hid hv
  have HQ := Lib.hid hQ
  have Hqr := Lib.hid hqr
  have Hx := Lib.hid hx
  have Hy := Lib.hid hy
  have Hnb := Lib.hid hnb
  have Hql := Lib.hid hql
  have Hrl := Lib.hid hrl
  have Hul := Lib.hid hul
  have HQl := Lib.hid hQl
  have H0 := Lib.hid h0
  have Lnb : Hid (Ltw (-b) 201) := Lib.hid (Ltw.neg Lb.out (by decide) (by decide))
  have f1 : wd 1 = [49] := by rw [wd_pos (by decide)]; exact dig_valS (l := [49]) (by decide)
  have hrr : ((wd r == [48]) = true) ∨ ((wd r == [48]) = false ∧ (wd r == [49]) = true) := by
    rcases hrc with h | h
    · rw [h, wd_0]; exact .inl rfl
    · rw [h, f1]; exact .inr ⟨rfl, rfl⟩
  clear hq hr hu hv hQ hqr hx hy hnb hl2 hql hrl hul hQl d2 cD hrc h0 f1
  rcases hrr with g1 | ⟨g1, g2⟩
  all_goals
    go_enter Tryd.func15, Tryd.ntmps15
    go_wp2_with fail
    refine (fixed2_any _ HT.out).mono ?_
    rintro e w1 ⟨rfl, b⟩
    have B1 := b
    clear b
    go_wp2_with fail
    refine (HS.out _).mono ?_
    rintro e w2 ⟨rfl, b⟩
    have B2 := Below.more B1 b
    clear b
    go_wp2_with fail
    refine (zMay La.out _).mono ?_
    rintro e w' ⟨rfl, rfl⟩
    go_wp2_with fail
    refine (zMay Lb.out _).mono ?_
    rintro e w' ⟨rfl, rfl⟩
    go_wp2_with fail
    refine (CD.out _).mono ?_
    rintro e w3 ⟨rfl, b⟩
    have B3 := Below.more B2 b
    clear b
    go_wp2_with fail
    refine (zDiv La.out Lb.out H0.out Hu.out Hv.out _).mono ?_
    rintro e w4 ⟨rfl, b⟩
    have B4 := Below.more B3 b
    clear b
    go_wp2_with fail
    refine (zNeg Lb.out rfl _).mono ?_
    rintro e w' ⟨rfl, rfl⟩
    go_wp2_with fail
    refine (zDiv La.out Lnb.out Hnb.out Hx.out Hy.out _).mono ?_
    rintro e w5 ⟨rfl, b⟩
    have B5 := Below.more B4 b
    clear b
    go_wp2_with fail
    refine (zAdd Hql.out Hql.out HQ.out _).mono ?_
    rintro e w6 ⟨rfl, b⟩
    have B6 := Below.more B5 b
    clear b
    go_wp2_with fail
    refine (zAdd HQl.out Hrl.out Hqr.out _).mono ?_
    rintro e w7 ⟨rfl, b⟩
    have B7 := Below.more B6 b
    clear b
    go_wp2_with fail
    refine (zNeg Hul.out rfl _).mono ?_
    rintro e w' ⟨rfl, rfl⟩
    go_wp2_with fail
    go_ret
    exact ⟨rfl, B7⟩

set_option maxRecDepth 100000 in
set_option maxHeartbeats 4000000 in
theorem halves2_any (s t : ByteArray) (w : World) (ht : GoodT w) :
    Calls Tryd.prog 15 #[.string s, .string t] w (GiveB w true) := by
  by_cases hS : s.size ≤ 200 ∧ t.size ≤ 200
  · have HS := Lib.hid (fun w => short2_any (short_two hS) w)
    obtain ⟨zs, zt⟩ := hS
    cases ks : isW s.data.toList with
    | false =>
      have HT := Lib.hid ht; clear ht
      have cs := fun w => rwmay_any s w (by omega)
      rw [ks] at cs
      have Cs := Lib.hid cs; clear cs
      clear ks zs zt
      go_enter Tryd.func15, Tryd.ntmps15
      go_wp2_with fail
      refine (fixed2_any _ HT.out).mono ?_
      rintro e w1 ⟨rfl, b⟩
      have B1 := b
      clear b
      go_wp2_with fail
      refine (HS.out _).mono ?_
      rintro e w2 ⟨rfl, b⟩
      have B2 := Below.more B1 b
      clear b
      go_wp2_with fail
      refine (Cs.out _).mono ?_
      rintro e w' ⟨rfl, rfl⟩
      go_wp2_with fail
      refine (fixed2_any _ (HT.out.below B2)).mono ?_
      rintro e w3 ⟨rfl, b⟩
      have B3 := Below.more B2 b
      clear b
      go_wp2_with fail
      go_ret
      exact ⟨rfl, B3⟩
    | true =>
      cases kt : isW t.data.toList with
      | false =>
        have HT := Lib.hid ht; clear ht
        have cs := fun w => rwmay_any s w (by omega)
        rw [ks] at cs
        have Cs := Lib.hid cs; clear cs
        have ct := fun w => rwmay_any t w (by omega)
        rw [kt] at ct
        have Ct := Lib.hid ct; clear ct
        clear ks kt zs zt
        go_enter Tryd.func15, Tryd.ntmps15
        go_wp2_with fail
        refine (fixed2_any _ HT.out).mono ?_
        rintro e w1 ⟨rfl, b⟩
        have B1 := b
        clear b
        go_wp2_with fail
        refine (HS.out _).mono ?_
        rintro e w2 ⟨rfl, b⟩
        have B2 := Below.more B1 b
        clear b
        go_wp2_with fail
        refine (Cs.out _).mono ?_
        rintro e w' ⟨rfl, rfl⟩
        go_wp2_with fail
        refine (Ct.out _).mono ?_
        rintro e w' ⟨rfl, rfl⟩
        go_wp2_with fail
        refine (fixed2_any _ (HT.out.below B2)).mono ?_
        rintro e w3 ⟨rfl, b⟩
        have B3 := Below.more B2 b
        clear b
        go_wp2_with fail
        go_ret
        exact ⟨rfl, B3⟩
      | true =>
        by_cases h0 : valW t.data.toList = 0
        · have hz : t.data.toList = [48] := by rw [← wd_valW kt, h0]; exact wd_0
          have e1 := eqB_true hz
          have HT := Lib.hid ht; clear ht
          have cs := fun w => rwmay_any s w (by omega)
          rw [ks] at cs
          have Cs := Lib.hid cs; clear cs
          have ct := fun w => rwmay_any t w (by omega)
          rw [kt] at ct
          have Ct := Lib.hid ct; clear ct
          clear h0 hz ks kt zs zt
          go_enter Tryd.func15, Tryd.ntmps15
          go_wp2_with fail
          refine (fixed2_any _ HT.out).mono ?_
          rintro e w1 ⟨rfl, b⟩
          have B1 := b
          clear b
          go_wp2_with fail
          refine (HS.out _).mono ?_
          rintro e w2 ⟨rfl, b⟩
          have B2 := Below.more B1 b
          clear b
          go_wp2_with fail
          refine (Cs.out _).mono ?_
          rintro e w' ⟨rfl, rfl⟩
          go_wp2_with fail
          refine (Ct.out _).mono ?_
          rintro e w' ⟨rfl, rfl⟩
          go_wp2_with fail
          refine (fixed2_any _ (HT.out.below B2)).mono ?_
          rintro e w3 ⟨rfl, b⟩
          have B3 := Below.more B2 b
          clear b
          go_wp2_with fail
          go_ret
          exact ⟨rfl, B3⟩
        · skip
          have es := str_wd ks
          have ls := Ltw.of_text ks zs (by decide)
          have et := str_wd kt
          have lt := Ltw.of_text kt zt (by decide)
          generalize valW s.data.toList = a at *
          generalize valW t.data.toList = b at *
          clear HS ks kt
          subst es
          subst et
          exact halves2_main a b w ls lt zs zt h0 ht
  · have HS := Lib.hid (fun w => short2_any (long_two hS) w)
    have HT := Lib.hid ht; clear ht hS
    go_enter Tryd.func15, Tryd.ntmps15
    go_wp2_with fail
    refine (fixed2_any _ HT.out).mono ?_
    rintro e w1 ⟨rfl, b⟩
    have B1 := b
    clear b
    go_wp2_with fail
    refine (HS.out _).mono ?_
    rintro e w2 ⟨rfl, b⟩
    have B2 := Below.more B1 b
    clear b
    go_wp2_with fail
    refine (fixed2_any _ (HT.out.below B2)).mono ?_
    rintro e w3 ⟨rfl, b⟩
    have B3 := Below.more B2 b
    clear b
    go_wp2_with fail
    go_ret
    exact ⟨rfl, B3⟩
end Go.Proofs.YtcekdidefomkfaaDoor
