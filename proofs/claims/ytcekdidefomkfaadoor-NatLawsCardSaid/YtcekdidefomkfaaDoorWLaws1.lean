/- The walk of NatLaws. -/
import Derived.Test.YtcekdidefomkfaaDoorAllApi
namespace Go.Proofs.YtcekdidefomkfaaDoor
open Go.RowKit

set_option maxRecDepth 100000 in
set_option maxHeartbeats 2000000 in
theorem laws1_main (a b c : Nat) (w : World) (la : Lt a 200) (lb : Lt b 200) (lc : Lt c 200) (za : (⟨(dig a).toArray⟩ : ByteArray).size ≤ 200) (zb : (⟨(dig b).toArray⟩ : ByteArray).size ≤ 200) (zc : (⟨(dig c).toArray⟩ : ByteArray).size ≤ 200) (ht : GoodT w) (he : GoodE w) :
    Calls Tryd.prog 4 #[.string ⟨(dig a).toArray⟩, .string ⟨(dig b).toArray⟩, .string ⟨(dig c).toArray⟩] w (GiveB w true) := by
  have HT := Lib.hid ht; have HE := Lib.hid he
  have La := Lib.hid la
  have Lb := Lib.hid lb
  have Lc := Lib.hid lc
  have HS := Lib.hid (fun w => short3_any (short_three ⟨za, zb, zc⟩) w)
  clear ht he la za lb zb lc zc
  obtain ⟨S, hS⟩ : ∃ S, a + b + c = S := ⟨_, rfl⟩
  obtain ⟨P, hP⟩ : ∃ P, a * b * c = P := ⟨_, rfl⟩
  obtain ⟨D, hD⟩ : ∃ D, a * (b + c) = D := ⟨_, rfl⟩
  have hS1 : a + (c + b) = S := by omega
  have hP1 : a * (c * b) = P := by rw [← hP, Nat.mul_comm c b, Nat.mul_assoc]
  have hD1 : a * b + a * c = D := by rw [← hD, Nat.mul_add]
  have HS0 := Lib.hid hS; have HP0 := Lib.hid hP; have HD0 := Lib.hid hD; have HS1 := Lib.hid hS1; have HP1 := Lib.hid hP1; have HD1 := Lib.hid hD1
  have Lab : Hid (Lt (a + b) 401) := Lt.add La.out Lb.out (by decide)
  have Lcb : Hid (Lt (c + b) 401) := Lt.add Lc.out Lb.out (by decide)
  have Lbc : Hid (Lt (b + c) 401) := Lt.add Lb.out Lc.out (by decide)
  have Mab : Hid (Lt (a * b) 400) := Lt.mul La.out Lb.out (by decide)
  have Mcb : Hid (Lt (c * b) 400) := Lt.mul Lc.out Lb.out (by decide)
  have Mac : Hid (Lt (a * c) 400) := Lt.mul La.out Lc.out (by decide)
  clear hS hP hD hS1 hP1 hD1
  have e1 := dig_e S; have e2 := dig_e P; have e3 := dig_eB S; have e4 := dig_eB P; have e5 := dig_ne S; have e6 := dig_ne P
  go_enter Tryd.func4, Tryd.ntmps4
  go_wp2_with fail
  refine (fixed1_any _ HT.out HE.out).mono ?_
  rintro e w1 ⟨rfl, b⟩
  have B1 := b
  clear b
  go_wp2_with fail
  refine (HS.out _).mono ?_
  rintro e w2 ⟨rfl, b⟩
  have B2 := Below.more B1 b
  clear b
  go_wp2_with fail
  refine (nMay La.out _).mono ?_
  rintro e w' ⟨rfl, rfl⟩
  go_wp2_with fail
  refine (nMay Lb.out _).mono ?_
  rintro e w' ⟨rfl, rfl⟩
  go_wp2_with fail
  refine (nMay Lc.out _).mono ?_
  rintro e w' ⟨rfl, rfl⟩
  go_wp2_with fail
  refine (nAdd La.out Lb.out rfl _).mono ?_
  rintro e w3 ⟨rfl, b⟩
  have B3 := Below.more B2 b
  clear b
  go_wp2_with fail
  refine (nAdd Lab.out Lc.out HS0.out _).mono ?_
  rintro e w4 ⟨rfl, b⟩
  have B4 := Below.more B3 b
  clear b
  go_wp2_with fail
  refine (nMul La.out Lb.out rfl _).mono ?_
  rintro e w5 ⟨rfl, b⟩
  have B5 := Below.more B4 b
  clear b
  go_wp2_with fail
  refine (nMul Mab.out Lc.out HP0.out _).mono ?_
  rintro e w6 ⟨rfl, b⟩
  have B6 := Below.more B5 b
  clear b
  go_wp2_with fail
  refine (nAdd Lc.out Lb.out rfl _).mono ?_
  rintro e w7 ⟨rfl, b⟩
  have B7 := Below.more B6 b
  clear b
  go_wp2_with fail
  refine (nAdd La.out Lcb.out HS1.out _).mono ?_
  rintro e w8 ⟨rfl, b⟩
  have B8 := Below.more B7 b
  clear b
  go_wp2_with fail
  refine (nMul Lc.out Lb.out rfl _).mono ?_
  rintro e w9 ⟨rfl, b⟩
  have B9 := Below.more B8 b
  clear b
  go_wp2_with fail
  refine (nMul La.out Mcb.out HP1.out _).mono ?_
  rintro e w10 ⟨rfl, b⟩
  have B10 := Below.more B9 b
  clear b
  go_wp2_with fail
  refine (nAdd Lb.out Lc.out rfl _).mono ?_
  rintro e w11 ⟨rfl, b⟩
  have B11 := Below.more B10 b
  clear b
  go_wp2_with fail
  refine (nMul La.out Lbc.out HD0.out _).mono ?_
  rintro e w12 ⟨rfl, b⟩
  have B12 := Below.more B11 b
  clear b
  go_wp2_with fail
  refine (nMul La.out Lb.out rfl _).mono ?_
  rintro e w13 ⟨rfl, b⟩
  have B13 := Below.more B12 b
  clear b
  go_wp2_with fail
  refine (nMul La.out Lc.out rfl _).mono ?_
  rintro e w14 ⟨rfl, b⟩
  have B14 := Below.more B13 b
  clear b
  go_wp2_with fail
  refine (nAdd Mab.out Mac.out HD1.out _).mono ?_
  rintro e w15 ⟨rfl, b⟩
  have B15 := Below.more B14 b
  clear b
  go_wp2_with fail
  go_ret
  exact ⟨rfl, B15⟩

set_option maxRecDepth 100000 in
set_option maxHeartbeats 2000000 in
theorem laws1_any (s t u : ByteArray) (w : World) (ht : GoodT w) (he : GoodE w) :
    Calls Tryd.prog 4 #[.string s, .string t, .string u] w (GiveB w true) := by
  by_cases hS : s.size ≤ 200 ∧ t.size ≤ 200 ∧ u.size ≤ 200
  · have HS := Lib.hid (fun w => short3_any (short_three hS) w)
    obtain ⟨zs, zt, zu⟩ := hS
    cases ks : isNat s.data.toList with
    | false =>
      have HT := Lib.hid ht; have HE := Lib.hid he; clear ht he
      have cs := fun w => rmay_any s w (by omega)
      rw [ks] at cs
      have Cs := Lib.hid cs; clear cs
      clear ks zs zt zu
      go_enter Tryd.func4, Tryd.ntmps4
      go_wp2_with fail
      refine (fixed1_any _ HT.out HE.out).mono ?_
      rintro e w1 ⟨rfl, b⟩
      have B1 := b
      clear b
      go_wp2_with fail
      refine (HS.out _).mono ?_
      rintro e w2 ⟨rfl, b⟩
      have B2 := Below.more B1 b
      clear b
      go_wp2_with fail
      refine (Cs.out _).mono ?_
      rintro e w' ⟨rfl, rfl⟩
      go_wp2_with fail
      refine (fixed1_any _ (HT.out.below B2) (HE.out.below B2)).mono ?_
      rintro e w3 ⟨rfl, b⟩
      have B3 := Below.more B2 b
      clear b
      go_wp2_with fail
      go_ret
      exact ⟨rfl, B3⟩
    | true =>
      cases kt : isNat t.data.toList with
      | false =>
        have HT := Lib.hid ht; have HE := Lib.hid he; clear ht he
        have cs := fun w => rmay_any s w (by omega)
        rw [ks] at cs
        have Cs := Lib.hid cs; clear cs
        have ct := fun w => rmay_any t w (by omega)
        rw [kt] at ct
        have Ct := Lib.hid ct; clear ct
        clear ks kt zs zt zu
        go_enter Tryd.func4, Tryd.ntmps4
        go_wp2_with fail
        refine (fixed1_any _ HT.out HE.out).mono ?_
        rintro e w1 ⟨rfl, b⟩
        have B1 := b
        clear b
        go_wp2_with fail
        refine (HS.out _).mono ?_
        rintro e w2 ⟨rfl, b⟩
        have B2 := Below.more B1 b
        clear b
        go_wp2_with fail
        refine (Cs.out _).mono ?_
        rintro e w' ⟨rfl, rfl⟩
        go_wp2_with fail
        refine (Ct.out _).mono ?_
        rintro e w' ⟨rfl, rfl⟩
        go_wp2_with fail
        refine (fixed1_any _ (HT.out.below B2) (HE.out.below B2)).mono ?_
        rintro e w3 ⟨rfl, b⟩
        have B3 := Below.more B2 b
        clear b
        go_wp2_with fail
        go_ret
        exact ⟨rfl, B3⟩
      | true =>
        cases ku : isNat u.data.toList with
        | false =>
          have HT := Lib.hid ht; have HE := Lib.hid he; clear ht he
          have cs := fun w => rmay_any s w (by omega)
          rw [ks] at cs
          have Cs := Lib.hid cs; clear cs
          have ct := fun w => rmay_any t w (by omega)
          rw [kt] at ct
          have Ct := Lib.hid ct; clear ct
          have cu := fun w => rmay_any u w (by omega)
          rw [ku] at cu
          have Cu := Lib.hid cu; clear cu
          clear ks kt ku zs zt zu
          go_enter Tryd.func4, Tryd.ntmps4
          go_wp2_with fail
          refine (fixed1_any _ HT.out HE.out).mono ?_
          rintro e w1 ⟨rfl, b⟩
          have B1 := b
          clear b
          go_wp2_with fail
          refine (HS.out _).mono ?_
          rintro e w2 ⟨rfl, b⟩
          have B2 := Below.more B1 b
          clear b
          go_wp2_with fail
          refine (Cs.out _).mono ?_
          rintro e w' ⟨rfl, rfl⟩
          go_wp2_with fail
          refine (Ct.out _).mono ?_
          rintro e w' ⟨rfl, rfl⟩
          go_wp2_with fail
          refine (Cu.out _).mono ?_
          rintro e w' ⟨rfl, rfl⟩
          go_wp2_with fail
          refine (fixed1_any _ (HT.out.below B2) (HE.out.below B2)).mono ?_
          rintro e w3 ⟨rfl, b⟩
          have B3 := Below.more B2 b
          clear b
          go_wp2_with fail
          go_ret
          exact ⟨rfl, B3⟩
        | true =>
          have es := str_dig ks
          have ls := Lt.of_text ks zs (by decide) (by decide)
          have et := str_dig kt
          have lt := Lt.of_text kt zt (by decide) (by decide)
          have eu := str_dig ku
          have lu := Lt.of_text ku zu (by decide) (by decide)
          generalize valS s.data.toList = a at *
          generalize valS t.data.toList = b at *
          generalize valS u.data.toList = c at *
          clear HS ks kt ku
          subst es
          subst et
          subst eu
          exact laws1_main a b c w ls lt lu zs zt zu ht he
  · have HS := Lib.hid (fun w => short3_any (long_three hS) w)
    have HT := Lib.hid ht; have HE := Lib.hid he; clear ht he hS
    go_enter Tryd.func4, Tryd.ntmps4
    go_wp2_with fail
    refine (fixed1_any _ HT.out HE.out).mono ?_
    rintro e w1 ⟨rfl, b⟩
    have B1 := b
    clear b
    go_wp2_with fail
    refine (HS.out _).mono ?_
    rintro e w2 ⟨rfl, b⟩
    have B2 := Below.more B1 b
    clear b
    go_wp2_with fail
    refine (fixed1_any _ (HT.out.below B2) (HE.out.below B2)).mono ?_
    rintro e w3 ⟨rfl, b⟩
    have B3 := Below.more B2 b
    clear b
    go_wp2_with fail
    go_ret
    exact ⟨rfl, B3⟩
end Go.Proofs.YtcekdidefomkfaaDoor
