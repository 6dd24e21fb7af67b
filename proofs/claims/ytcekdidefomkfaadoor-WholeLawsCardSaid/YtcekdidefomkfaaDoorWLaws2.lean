/- The walk of WholeLaws. -/
import Derived.Test.YtcekdidefomkfaaDoorAllApiW
namespace Go.Proofs.YtcekdidefomkfaaDoor
open Go.RowKit

set_option maxRecDepth 100000 in
set_option maxHeartbeats 4000000 in
theorem laws2_main (a b c : Int) (w : World) (la : Ltw a 200) (lb : Ltw b 200) (lc : Ltw c 200) (za : (⟨(wd a).toArray⟩ : ByteArray).size ≤ 200) (zb : (⟨(wd b).toArray⟩ : ByteArray).size ≤ 200) (zc : (⟨(wd c).toArray⟩ : ByteArray).size ≤ 200) (ht : GoodT w) :
    Calls Tryd.prog 11 #[.string ⟨(wd a).toArray⟩, .string ⟨(wd b).toArray⟩, .string ⟨(wd c).toArray⟩] w (GiveB w true) := by
  have HT := Lib.hid ht
  have La := Lib.hid la
  have Lb := Lib.hid lb
  have Lc := Lib.hid lc
  have HS := Lib.hid (fun w => short3_any (short_three ⟨za, zb, zc⟩) w)
  clear ht la za lb zb lc zc
  obtain ⟨S, hS⟩ : ∃ S, a + b + c = S := ⟨_, rfl⟩
  obtain ⟨P, hP⟩ : ∃ P, a * b * c = P := ⟨_, rfl⟩
  obtain ⟨D, hD⟩ : ∃ D, a * (b + c) = D := ⟨_, rfl⟩
  obtain ⟨E, hE⟩ : ∃ E, a - b = E := ⟨_, rfl⟩
  have hS1 : c + (b + a) = S := by omega
  have hP1 : c * (b * a) = P := by rw [← hP, Int.mul_comm b a, Int.mul_comm]
  have hD1 : a * b + a * c = D := by rw [← hD, Int.mul_add]
  have hE1 : -(b - a) = E := by omega
  have hZ : a - a = 0 := by omega
  obtain ⟨x, hx⟩ : ∃ x : Int, (if a < 0 then -1 else if a = 0 then 0 else 1) = x := ⟨_, rfl⟩
  obtain ⟨y, hy⟩ : ∃ y : Int, (if b < 0 then -1 else if b = 0 then 0 else 1) = y := ⟨_, rfl⟩
  have hxy : (if a * b < 0 then -1 else if a * b = 0 then 0 else 1) = x * y ∧ -1 ≤ x * y ∧ x * y ≤ 1 := by
    rw [← hx, ← hy]
    rcases Int.lt_trichotomy a 0 with ha | ha | ha <;> rcases Int.lt_trichotomy b 0 with hb | hb | hb
    · have := Int.mul_pos_of_neg_of_neg ha hb
      rw [if_neg (by omega), if_neg (by omega), if_pos ha, if_pos hb]; decide
    · subst hb; rw [Int.mul_zero]; rw [if_pos ha]; simp
    · have := Int.mul_neg_of_neg_of_pos ha hb
      rw [if_pos this, if_pos ha, if_neg (by omega), if_neg (by omega)]; decide
    · subst ha; simp
    · subst ha; simp
    · subst ha; simp
    · have := Int.mul_neg_of_pos_of_neg ha hb
      rw [if_pos this, if_neg (by omega), if_neg (by omega), if_pos hb]; decide
    · subst hb; rw [Int.mul_zero]; simp
    · have := Int.mul_pos ha hb
      rw [if_neg (by omega), if_neg (by omega), if_neg (by omega), if_neg (by omega), if_neg (by omega), if_neg (by omega)]; decide
  obtain ⟨hxy, hp1, hp2⟩ := hxy
  have hxb : -1 ≤ x ∧ x ≤ 1 := by rw [← hx]; split; decide; split <;> decide
  have hyb : -1 ≤ y ∧ y ≤ 1 := by rw [← hy]; split; decide; split <;> decide
  obtain ⟨hx1, hx2⟩ := hxb
  obtain ⟨hy1, hy2⟩ := hyb
  have HSs := Lib.hid hS
  have HP := Lib.hid hP
  have HD := Lib.hid hD
  have HE := Lib.hid hE
  have HS1 := Lib.hid hS1
  have HP1 := Lib.hid hP1
  have HD1 := Lib.hid hD1
  have HE1 := Lib.hid hE1
  have HZ := Lib.hid hZ
  have Hx := Lib.hid hx
  have Hy := Lib.hid hy
  have Hxy := Lib.hid hxy
  have Lab : Hid (Ltw (a + b) 402) := Lib.hid (Ltw.add La.out Lb.out (by decide))
  have Lba : Hid (Ltw (b + a) 402) := Lib.hid (Ltw.add Lb.out La.out (by decide))
  have Lbc : Hid (Ltw (b + c) 402) := Lib.hid (Ltw.add Lb.out Lc.out (by decide))
  have Mab : Hid (Ltw (a * b) 401) := Lib.hid (Ltw.mul La.out Lb.out (by decide) (by decide))
  have Mba : Hid (Ltw (b * a) 401) := Lib.hid (Ltw.mul Lb.out La.out (by decide) (by decide))
  have Mac : Hid (Ltw (a * c) 401) := Lib.hid (Ltw.mul La.out Lc.out (by decide) (by decide))
  have Lsba : Hid (Ltw (b - a) 402) := Lib.hid (Ltw.sub Lb.out La.out (by decide))
  have Lna : Hid (Ltw (-a) 201) := Lib.hid (Ltw.neg La.out (by decide) (by decide))
  have hnn : - -a = a := Int.neg_neg a
  have Hnn := Lib.hid hnn
  clear hS hP hD hE hS1 hP1 hD1 hE1 hZ hx hy hxy hnn
  have e1 := wd_e S; have e2 := wd_e P; have e5 := wd_ne S; have e6 := wd_ne P
  have d0 := wd_0
  go_enter Tryd.func11, Tryd.ntmps11
  go_wp2_with fail
  refine (fixed2_any _ HT.out).mono ?_
  rintro e w1 ⟨rfl, b⟩
  have B1 := b
  clear b
  go_wp2_with fail
  refine (HS.out _).mono ?_
  rintro e w2 ⟨rfl, b⟩
  have B2 := Below.more B1 b
  clear b
  go_wp2_with fail
  refine (zMay La.out _).mono ?_
  rintro e w' ⟨rfl, rfl⟩
  go_wp2_with fail
  refine (zMay Lb.out _).mono ?_
  rintro e w' ⟨rfl, rfl⟩
  go_wp2_with fail
  refine (zMay Lc.out _).mono ?_
  rintro e w' ⟨rfl, rfl⟩
  go_wp2_with fail
  refine (zAdd La.out Lb.out rfl _).mono ?_
  rintro e w3 ⟨rfl, b⟩
  have B3 := Below.more B2 b
  clear b
  go_wp2_with fail
  refine (zAdd Lab.out Lc.out HSs.out _).mono ?_
  rintro e w4 ⟨rfl, b⟩
  have B4 := Below.more B3 b
  clear b
  go_wp2_with fail
  refine (zMul La.out Lb.out rfl _).mono ?_
  rintro e w5 ⟨rfl, b⟩
  have B5 := Below.more B4 b
  clear b
  go_wp2_with fail
  refine (zMul Mab.out Lc.out HP.out _).mono ?_
  rintro e w6 ⟨rfl, b⟩
  have B6 := Below.more B5 b
  clear b
  go_wp2_with fail
  refine (zAdd Lb.out La.out rfl _).mono ?_
  rintro e w7 ⟨rfl, b⟩
  have B7 := Below.more B6 b
  clear b
  go_wp2_with fail
  refine (zAdd Lc.out Lba.out HS1.out _).mono ?_
  rintro e w8 ⟨rfl, b⟩
  have B8 := Below.more B7 b
  clear b
  go_wp2_with fail
  refine (zMul Lb.out La.out rfl _).mono ?_
  rintro e w9 ⟨rfl, b⟩
  have B9 := Below.more B8 b
  clear b
  go_wp2_with fail
  refine (zMul Lc.out Mba.out HP1.out _).mono ?_
  rintro e w10 ⟨rfl, b⟩
  have B10 := Below.more B9 b
  clear b
  go_wp2_with fail
  refine (zAdd Lb.out Lc.out rfl _).mono ?_
  rintro e w11 ⟨rfl, b⟩
  have B11 := Below.more B10 b
  clear b
  go_wp2_with fail
  refine (zMul La.out Lbc.out HD.out _).mono ?_
  rintro e w12 ⟨rfl, b⟩
  have B12 := Below.more B11 b
  clear b
  go_wp2_with fail
  refine (zMul La.out Lb.out rfl _).mono ?_
  rintro e w13 ⟨rfl, b⟩
  have B13 := Below.more B12 b
  clear b
  go_wp2_with fail
  refine (zMul La.out Lc.out rfl _).mono ?_
  rintro e w14 ⟨rfl, b⟩
  have B14 := Below.more B13 b
  clear b
  go_wp2_with fail
  refine (zAdd Mab.out Mac.out HD1.out _).mono ?_
  rintro e w15 ⟨rfl, b⟩
  have B15 := Below.more B14 b
  clear b
  go_wp2_with fail
  refine (zSub La.out La.out HZ.out _).mono ?_
  rintro e w16 ⟨rfl, b⟩
  have B16 := Below.more B15 b
  clear b
  go_wp2_with fail
  refine (zSub La.out Lb.out HE.out _).mono ?_
  rintro e w17 ⟨rfl, b⟩
  have B17 := Below.more B16 b
  clear b
  go_wp2_with fail
  refine (zSub Lb.out La.out rfl _).mono ?_
  rintro e w18 ⟨rfl, b⟩
  have B18 := Below.more B17 b
  clear b
  go_wp2_with fail
  refine (zNeg Lsba.out HE1.out _).mono ?_
  rintro e w' ⟨rfl, rfl⟩
  go_wp2_with fail
  refine (zNeg La.out rfl _).mono ?_
  rintro e w' ⟨rfl, rfl⟩
  go_wp2_with fail
  refine (zNeg Lna.out Hnn.out _).mono ?_
  rintro e w' ⟨rfl, rfl⟩
  go_wp2_with fail
  refine (zMul La.out Lb.out rfl _).mono ?_
  rintro e w19 ⟨rfl, b⟩
  have B19 := Below.more B18 b
  clear b
  go_wp2_with fail
  refine (zSign Mab.out Hxy.out _).mono ?_
  rintro e w' ⟨rfl, rfl⟩
  go_wp2_with fail
  refine (zSign La.out Hx.out _).mono ?_
  rintro e w' ⟨rfl, rfl⟩
  go_wp2_with fail
  refine (zSign Lb.out Hy.out _).mono ?_
  rintro e w' ⟨rfl, rfl⟩
  go_wp2_with fail
  go_ret
  exact ⟨rfl, B19⟩

set_option maxRecDepth 100000 in
set_option maxHeartbeats 4000000 in
theorem laws2_any (s t u : ByteArray) (w : World) (ht : GoodT w) :
    Calls Tryd.prog 11 #[.string s, .string t, .string u] w (GiveB w true) := by
  by_cases hS : s.size ≤ 200 ∧ t.size ≤ 200 ∧ u.size ≤ 200
  · have HS := Lib.hid (fun w => short3_any (short_three hS) w)
    obtain ⟨zs, zt, zu⟩ := hS
    cases ks : isW s.data.toList with
    | false =>
      have HT := Lib.hid ht; clear ht
      have cs := fun w => rwmay_any s w (by omega)
      rw [ks] at cs
      have Cs := Lib.hid cs; clear cs
      clear ks zs zt zu
      go_enter Tryd.func11, Tryd.ntmps11
      go_wp2_with fail
      refine (fixed2_any _ HT.out).mono ?_
      rintro e w1 ⟨rfl, b⟩
      have B1 := b
      clear b
      go_wp2_with fail
      refine (HS.out _).mono ?_
      rintro e w2 ⟨rfl, b⟩
      have B2 := Below.more B1 b
      clear b
      go_wp2_with fail
      refine (Cs.out _).mono ?_
      rintro e w' ⟨rfl, rfl⟩
      go_wp2_with fail
      refine (fixed2_any _ (HT.out.below B2)).mono ?_
      rintro e w3 ⟨rfl, b⟩
      have B3 := Below.more B2 b
      clear b
      go_wp2_with fail
      go_ret
      exact ⟨rfl, B3⟩
    | true =>
      cases kt : isW t.data.toList with
      | false =>
        have HT := Lib.hid ht; clear ht
        have cs := fun w => rwmay_any s w (by omega)
        rw [ks] at cs
        have Cs := Lib.hid cs; clear cs
        have ct := fun w => rwmay_any t w (by omega)
        rw [kt] at ct
        have Ct := Lib.hid ct; clear ct
        clear ks kt zs zt zu
        go_enter Tryd.func11, Tryd.ntmps11
        go_wp2_with fail
        refine (fixed2_any _ HT.out).mono ?_
        rintro e w1 ⟨rfl, b⟩
        have B1 := b
        clear b
        go_wp2_with fail
        refine (HS.out _).mono ?_
        rintro e w2 ⟨rfl, b⟩
        have B2 := Below.more B1 b
        clear b
        go_wp2_with fail
        refine (Cs.out _).mono ?_
        rintro e w' ⟨rfl, rfl⟩
        go_wp2_with fail
        refine (Ct.out _).mono ?_
        rintro e w' ⟨rfl, rfl⟩
        go_wp2_with fail
        refine (fixed2_any _ (HT.out.below B2)).mono ?_
        rintro e w3 ⟨rfl, b⟩
        have B3 := Below.more B2 b
        clear b
        go_wp2_with fail
        go_ret
        exact ⟨rfl, B3⟩
      | true =>
        cases ku : isW u.data.toList with
        | false =>
          have HT := Lib.hid ht; clear ht
          have cs := fun w => rwmay_any s w (by omega)
          rw [ks] at cs
          have Cs := Lib.hid cs; clear cs
          have ct := fun w => rwmay_any t w (by omega)
          rw [kt] at ct
          have Ct := Lib.hid ct; clear ct
          have cu := fun w => rwmay_any u w (by omega)
          rw [ku] at cu
          have Cu := Lib.hid cu; clear cu
          clear ks kt ku zs zt zu
          go_enter Tryd.func11, Tryd.ntmps11
          go_wp2_with fail
          refine (fixed2_any _ HT.out).mono ?_
          rintro e w1 ⟨rfl, b⟩
          have B1 := b
          clear b
          go_wp2_with fail
          refine (HS.out _).mono ?_
          rintro e w2 ⟨rfl, b⟩
          have B2 := Below.more B1 b
          clear b
          go_wp2_with fail
          refine (Cs.out _).mono ?_
          rintro e w' ⟨rfl, rfl⟩
          go_wp2_with fail
          refine (Ct.out _).mono ?_
          rintro e w' ⟨rfl, rfl⟩
          go_wp2_with fail
          refine (Cu.out _).mono ?_
          rintro e w' ⟨rfl, rfl⟩
          go_wp2_with fail
          refine (fixed2_any _ (HT.out.below B2)).mono ?_
          rintro e w3 ⟨rfl, b⟩
          have B3 := Below.more B2 b
          clear b
          go_wp2_with fail
          go_ret
          exact ⟨rfl, B3⟩
        | true =>
          have es := str_wd ks
          have ls := Ltw.of_text ks zs (by decide)
          have et := str_wd kt
          have lt := Ltw.of_text kt zt (by decide)
          have eu := str_wd ku
          have lu := Ltw.of_text ku zu (by decide)
          generalize valW s.data.toList = a at *
          generalize valW t.data.toList = b at *
          generalize valW u.data.toList = c at *
          clear HS ks kt ku
          subst es
          subst et
          subst eu
          exact laws2_main a b c w ls lt lu zs zt zu ht
  · have HS := Lib.hid (fun w => short3_any (long_three hS) w)
    have HT := Lib.hid ht; clear ht hS
    go_enter Tryd.func11, Tryd.ntmps11
    go_wp2_with fail
    refine (fixed2_any _ HT.out).mono ?_
    rintro e w1 ⟨rfl, b⟩
    have B1 := b
    clear b
    go_wp2_with fail
    refine (HS.out _).mono ?_
    rintro e w2 ⟨rfl, b⟩
    have B2 := Below.more B1 b
    clear b
    go_wp2_with fail
    refine (fixed2_any _ (HT.out.below B2)).mono ?_
    rintro e w3 ⟨rfl, b⟩
    have B3 := Below.more B2 b
    clear b
    go_wp2_with fail
    go_ret
    exact ⟨rfl, B3⟩
end Go.Proofs.YtcekdidefomkfaaDoor
