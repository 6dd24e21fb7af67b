/- The walk of WholeOrder. -/
import Derived.Test.YtcekdidefomkfaaDoorAllApiW
namespace Go.Proofs.YtcekdidefomkfaaDoor
open Go.RowKit

set_option maxRecDepth 100000 in
set_option maxHeartbeats 4000000 in
theorem order2_main (a b c : Int) (w : World) (la : Ltw a 200) (lb : Ltw b 200) (lc : Ltw c 200) (za : (⟨(wd a).toArray⟩ : ByteArray).size ≤ 200) (zb : (⟨(wd b).toArray⟩ : ByteArray).size ≤ 200) (zc : (⟨(wd c).toArray⟩ : ByteArray).size ≤ 200) (ht : GoodT w) :
    Calls Tryd.prog 13 #[.string ⟨(wd a).toArray⟩, .string ⟨(wd b).toArray⟩, .string ⟨(wd c).toArray⟩] w (GiveB w true) := by
  have HT := Lib.hid ht
  have La := Lib.hid la
  have Lb := Lib.hid lb
  have Lc := Lib.hid lc
  have HS := Lib.hid (fun w => short3_any (short_three ⟨za, zb, zc⟩) w)
  clear ht la za lb zb lc zc
  obtain ⟨E, hE⟩ : ∃ E, a - b = E := ⟨_, rfl⟩
  obtain ⟨U, hU⟩ : ∃ U, a + c = U := ⟨_, rfl⟩
  obtain ⟨V, hV⟩ : ∃ V, b + c = V := ⟨_, rfl⟩
  obtain ⟨x, hx⟩ : ∃ x : Int, cmpZ a b = x := ⟨_, rfl⟩
  have hx1 : (if E < 0 then -1 else if E = 0 then 0 else 1 : Int) = x := by
    rw [← hx, ← hE]; unfold cmpZ
    by_cases h1 : a < b
    · rw [if_pos (by omega), if_pos h1]
    · rw [if_neg (by omega), if_neg h1]
      by_cases h2 : a = b
      · rw [if_pos (by omega), if_pos h2]
      · rw [if_neg (by omega), if_neg h2]
  have hx2 : cmpZ b a = -x := by
    rw [← hx]
    rcases cmpZ_cases a b with ⟨h, e⟩ | ⟨h, e⟩ | ⟨h, e⟩ <;> rw [e] <;> unfold cmpZ
    · rw [if_neg (by omega), if_neg (by omega)]; rfl
    · rw [if_neg (by omega), if_pos h.symm]; rfl
    · rw [if_pos h]
  have hx3 : cmpZ U V = x := by
    rw [← hx, ← hU, ← hV]; unfold cmpZ
    by_cases h1 : a < b
    · rw [if_pos (by omega), if_pos h1]
    · rw [if_neg (by omega), if_neg h1]
      by_cases h2 : a = b
      · rw [if_pos (by omega), if_pos h2]
      · rw [if_neg (by omega), if_neg h2]
  have hx4 : cmpZ (-b) (-a) = x := by
    rw [← hx]; unfold cmpZ
    by_cases h1 : a < b
    · rw [if_pos (by omega), if_pos h1]
    · rw [if_neg (by omega), if_neg h1]
      by_cases h2 : a = b
      · rw [if_pos (by omega), if_pos h2]
      · rw [if_neg (by omega), if_neg h2]
  have hxb : -1 ≤ x ∧ x ≤ 1 := by rcases cmpZ_cases a b with ⟨h, e⟩ | ⟨h, e⟩ | ⟨h, e⟩ <;> omega
  have hxe : (x == 0) = (wd a == wd b) := by
    rcases cmpZ_cases a b with ⟨h, e⟩ | ⟨h, e⟩ | ⟨h, e⟩
    · rw [wd_beq (by omega), ← hx, e]; rfl
    · rw [h, beq_self_eq_true, ← hx, e]; rfl
    · rw [wd_beq (by omega), ← hx, e]; rfl
  obtain ⟨hxa, hxb⟩ := hxb
  have HE := Lib.hid hE
  have HU := Lib.hid hU
  have HV := Lib.hid hV
  have Hx := Lib.hid hx
  have Hx1 := Lib.hid hx1
  have Hx2 := Lib.hid hx2
  have Hx3 := Lib.hid hx3
  have Hx4 := Lib.hid hx4
  have Hxe := Lib.hid hxe
  have LsE : Hid (Ltw (E) 402) := Lib.hid (by rw [← hE]; exact Ltw.sub La.out Lb.out (by decide))
  have LsU : Hid (Ltw (U) 402) := Lib.hid (by rw [← hU]; exact Ltw.add La.out Lc.out (by decide))
  have LsV : Hid (Ltw (V) 402) := Lib.hid (by rw [← hV]; exact Ltw.add Lb.out Lc.out (by decide))
  have Lna : Hid (Ltw (-a) 201) := Lib.hid (Ltw.neg La.out (by decide) (by decide))
  have Lnb : Hid (Ltw (-b) 201) := Lib.hid (Ltw.neg Lb.out (by decide) (by decide))
  clear hE hU hV hx hx1 hx2 hx3 hx4 hxe
  go_enter Tryd.func13, Tryd.ntmps13
  go_wp2_with fail
  refine (fixed2_any _ HT.out).mono ?_
  rintro e w1 ⟨rfl, b⟩
  have B1 := b
  clear b
  go_wp2_with fail
  refine (HS.out _).mono ?_
  rintro e w2 ⟨rfl, b⟩
  have B2 := Below.more B1 b
  clear b
  go_wp2_with fail
  refine (zMay La.out _).mono ?_
  rintro e w' ⟨rfl, rfl⟩
  go_wp2_with fail
  refine (zMay Lb.out _).mono ?_
  rintro e w' ⟨rfl, rfl⟩
  go_wp2_with fail
  refine (zMay Lc.out _).mono ?_
  rintro e w' ⟨rfl, rfl⟩
  go_wp2_with fail
  refine (zCmp La.out Lb.out Hx.out _).mono ?_
  rintro e w' ⟨rfl, rfl⟩
  go_wp2_with fail
  refine (zSub La.out Lb.out HE.out _).mono ?_
  rintro e w3 ⟨rfl, b⟩
  have B3 := Below.more B2 b
  clear b
  go_wp2_with fail
  refine (zSign LsE.out Hx1.out _).mono ?_
  rintro e w' ⟨rfl, rfl⟩
  go_wp2_with fail
  refine (zCmp Lb.out La.out Hx2.out _).mono ?_
  rintro e w' ⟨rfl, rfl⟩
  go_wp2_with fail
  refine (zAdd La.out Lc.out HU.out _).mono ?_
  rintro e w4 ⟨rfl, b⟩
  have B4 := Below.more B3 b
  clear b
  go_wp2_with fail
  refine (zAdd Lb.out Lc.out HV.out _).mono ?_
  rintro e w5 ⟨rfl, b⟩
  have B5 := Below.more B4 b
  clear b
  go_wp2_with fail
  refine (zCmp LsU.out LsV.out Hx3.out _).mono ?_
  rintro e w' ⟨rfl, rfl⟩
  go_wp2_with fail
  refine (zNeg Lb.out rfl _).mono ?_
  rintro e w' ⟨rfl, rfl⟩
  go_wp2_with fail
  refine (zNeg La.out rfl _).mono ?_
  rintro e w' ⟨rfl, rfl⟩
  go_wp2_with fail
  refine (zCmp Lnb.out Lna.out Hx4.out _).mono ?_
  rintro e w' ⟨rfl, rfl⟩
  have hxe := Hxe.out
  go_wp2_with fail
  go_ret
  exact ⟨rfl, B5⟩

set_option maxRecDepth 100000 in
set_option maxHeartbeats 4000000 in
theorem order2_any (s t u : ByteArray) (w : World) (ht : GoodT w) :
    Calls Tryd.prog 13 #[.string s, .string t, .string u] w (GiveB w true) := by
  by_cases hS : s.size ≤ 200 ∧ t.size ≤ 200 ∧ u.size ≤ 200
  · have HS := Lib.hid (fun w => short3_any (short_three hS) w)
    obtain ⟨zs, zt, zu⟩ := hS
    cases ks : isW s.data.toList with
    | false =>
      have HT := Lib.hid ht; clear ht
      have cs := fun w => rwmay_any s w (by omega)
      rw [ks] at cs
      have Cs := Lib.hid cs; clear cs
      clear ks zs zt zu
      go_enter Tryd.func13, Tryd.ntmps13
      go_wp2_with fail
      refine (fixed2_any _ HT.out).mono ?_
      rintro e w1 ⟨rfl, b⟩
      have B1 := b
      clear b
      go_wp2_with fail
      refine (HS.out _).mono ?_
      rintro e w2 ⟨rfl, b⟩
      have B2 := Below.more B1 b
      clear b
      go_wp2_with fail
      refine (Cs.out _).mono ?_
      rintro e w' ⟨rfl, rfl⟩
      go_wp2_with fail
      refine (fixed2_any _ (HT.out.below B2)).mono ?_
      rintro e w3 ⟨rfl, b⟩
      have B3 := Below.more B2 b
      clear b
      go_wp2_with fail
      go_ret
      exact ⟨rfl, B3⟩
    | true =>
      cases kt : isW t.data.toList with
      | false =>
        have HT := Lib.hid ht; clear ht
        have cs := fun w => rwmay_any s w (by omega)
        rw [ks] at cs
        have Cs := Lib.hid cs; clear cs
        have ct := fun w => rwmay_any t w (by omega)
        rw [kt] at ct
        have Ct := Lib.hid ct; clear ct
        clear ks kt zs zt zu
        go_enter Tryd.func13, Tryd.ntmps13
        go_wp2_with fail
        refine (fixed2_any _ HT.out).mono ?_
        rintro e w1 ⟨rfl, b⟩
        have B1 := b
        clear b
        go_wp2_with fail
        refine (HS.out _).mono ?_
        rintro e w2 ⟨rfl, b⟩
        have B2 := Below.more B1 b
        clear b
        go_wp2_with fail
        refine (Cs.out _).mono ?_
        rintro e w' ⟨rfl, rfl⟩
        go_wp2_with fail
        refine (Ct.out _).mono ?_
        rintro e w' ⟨rfl, rfl⟩
        go_wp2_with fail
        refine (fixed2_any _ (HT.out.below B2)).mono ?_
        rintro e w3 ⟨rfl, b⟩
        have B3 := Below.more B2 b
        clear b
        go_wp2_with fail
        go_ret
        exact ⟨rfl, B3⟩
      | true =>
        cases ku : isW u.data.toList with
        | false =>
          have HT := Lib.hid ht; clear ht
          have cs := fun w => rwmay_any s w (by omega)
          rw [ks] at cs
          have Cs := Lib.hid cs; clear cs
          have ct := fun w => rwmay_any t w (by omega)
          rw [kt] at ct
          have Ct := Lib.hid ct; clear ct
          have cu := fun w => rwmay_any u w (by omega)
          rw [ku] at cu
          have Cu := Lib.hid cu; clear cu
          clear ks kt ku zs zt zu
          go_enter Tryd.func13, Tryd.ntmps13
          go_wp2_with fail
          refine (fixed2_any _ HT.out).mono ?_
          rintro e w1 ⟨rfl, b⟩
          have B1 := b
          clear b
          go_wp2_with fail
          refine (HS.out _).mono ?_
          rintro e w2 ⟨rfl, b⟩
          have B2 := Below.more B1 b
          clear b
          go_wp2_with fail
          refine (Cs.out _).mono ?_
          rintro e w' ⟨rfl, rfl⟩
          go_wp2_with fail
          refine (Ct.out _).mono ?_
          rintro e w' ⟨rfl, rfl⟩
          go_wp2_with fail
          refine (Cu.out _).mono ?_
          rintro e w' ⟨rfl, rfl⟩
          go_wp2_with fail
          refine (fixed2_any _ (HT.out.below B2)).mono ?_
          rintro e w3 ⟨rfl, b⟩
          have B3 := Below.more B2 b
          clear b
          go_wp2_with fail
          go_ret
          exact ⟨rfl, B3⟩
        | true =>
          have es := str_wd ks
          have ls := Ltw.of_text ks zs (by decide)
          have et := str_wd kt
          have lt := Ltw.of_text kt zt (by decide)
          have eu := str_wd ku
          have lu := Ltw.of_text ku zu (by decide)
          generalize valW s.data.toList = a at *
          generalize valW t.data.toList = b at *
          generalize valW u.data.toList = c at *
          clear HS ks kt ku
          subst es
          subst et
          subst eu
          exact order2_main a b c w ls lt lu zs zt zu ht
  · have HS := Lib.hid (fun w => short3_any (long_three hS) w)
    have HT := Lib.hid ht; clear ht hS
    go_enter Tryd.func13, Tryd.ntmps13
    go_wp2_with fail
    refine (fixed2_any _ HT.out).mono ?_
    rintro e w1 ⟨rfl, b⟩
    have B1 := b
    clear b
    go_wp2_with fail
    refine (HS.out _).mono ?_
    rintro e w2 ⟨rfl, b⟩
    have B2 := Below.more B1 b
    clear b
    go_wp2_with fail
    refine (fixed2_any _ (HT.out.below B2)).mono ?_
    rintro e w3 ⟨rfl, b⟩
    have B3 := Below.more B2 b
    clear b
    go_wp2_with fail
    go_ret
    exact ⟨rfl, B3⟩
end Go.Proofs.YtcekdidefomkfaaDoor
