/- The walk of NatGcd. -/
import Derived.Test.YtcekdidefomkfaaDoorAllApi
namespace Go.Proofs.YtcekdidefomkfaaDoor
open Go.RowKit

set_option maxRecDepth 100000 in
set_option maxHeartbeats 4000000 in
theorem gcd1_main (a b c : Nat) (w : World) (la : Lt a 100) (lb : Lt b 100) (lc : Lt c 100) (za : (⟨(dig a).toArray⟩ : ByteArray).size ≤ 100) (zb : (⟨(dig b).toArray⟩ : ByteArray).size ≤ 100) (zc : (⟨(dig c).toArray⟩ : ByteArray).size ≤ 100) (ht : GoodT w) (he : GoodE w) :
    Calls Tryd.prog 6 #[.string ⟨(dig a).toArray⟩, .string ⟨(dig b).toArray⟩, .string ⟨(dig c).toArray⟩] w (GiveB w true) := by
  have HT := Lib.hid ht; have HE := Lib.hid he
  have La := Lib.hid la
  have Lb := Lib.hid lb
  have Lc := Lib.hid lc
  have ya : ¬ (100 : Int) < ((dig a).length : Int) := by rw [size_dig] at za; omega
  have yb : ¬ (100 : Int) < ((dig b).length : Int) := by rw [size_dig] at zb; omega
  have yc : ¬ (100 : Int) < ((dig c).length : Int) := by rw [size_dig] at zc; omega
  clear ht he la za lb zb lc zc
  obtain ⟨g, hg⟩ : ∃ g, Nat.gcd a b = g := ⟨_, rfl⟩
  have Lg : Hid (Lt g 201) := Lib.hid ⟨by rw [← hg]; exact gcd_lt La.out.lt Lb.out.lt, by decide, by decide⟩
  have HG := Lib.hid hg
  by_cases h0 : a = 0 ∧ b = 0
  · obtain ⟨rfl, rfl⟩ := h0
    have hg0 : g = 0 := by rw [← hg]; rfl
    have HG1 := Lib.hid hg0
    clear hg0 hg
    go_enter Tryd.func6, Tryd.ntmps6
    go_wp2_with fail
    refine (fixed1_any _ HT.out HE.out).mono ?_
    rintro e w1 ⟨rfl, b⟩
    have B1 := b
    clear b
    go_wp2_with fail
    refine (nMay La.out _).mono ?_
    rintro e w' ⟨rfl, rfl⟩
    go_wp2_with fail
    refine (nMay Lb.out _).mono ?_
    rintro e w' ⟨rfl, rfl⟩
    go_wp2_with fail
    refine (nMay Lc.out _).mono ?_
    rintro e w' ⟨rfl, rfl⟩
    go_wp2_with fail
    refine (nGcd La.out Lb.out HG.out _).mono ?_
    rintro e w2 ⟨rfl, b⟩
    have B2 := Below.more B1 b
    clear b
    have e0 := dig_0; rw [HG1.out]
    go_wp2_with fail
    go_ret
    exact ⟨rfl, B2⟩
  · have hg0 : 0 < g := by
      rcases Nat.eq_zero_or_pos g with h | h
      · exfalso
        rw [h] at hg
        have := Nat.gcd_eq_zero_iff.1 hg
        exact h0 this
      · exact h
    obtain ⟨x, hx⟩ : ∃ x, a / g = x := ⟨_, rfl⟩
    obtain ⟨y, hy⟩ : ∃ y, b / g = y := ⟨_, rfl⟩
    have hda : g ∣ a := by rw [← hg]; exact Nat.gcd_dvd_left a b
    have hdb : g ∣ b := by rw [← hg]; exact Nat.gcd_dvd_right a b
    have hxr : a % g = 0 := Nat.mod_eq_zero_of_dvd hda
    have hyr : b % g = 0 := Nat.mod_eq_zero_of_dvd hdb
    have hxy : Nat.gcd x y = 1 := by
      rw [← hx, ← hy, ← hg]
      exact Nat.coprime_div_gcd_div_gcd (by rw [hg]; exact hg0)
    have hba : Nat.gcd b a = g := by rw [Nat.gcd_comm]; exact hg
    have hgc : Nat.gcd (a * c) (b * c) = g * c := by rw [Nat.gcd_mul_right, hg]
    have HG0 := Lib.hid hg0; have HX := Lib.hid hx; have HY := Lib.hid hy; have HXR := Lib.hid hxr; have HYR := Lib.hid hyr; have HXY := Lib.hid hxy; have HBA := Lib.hid hba; have HGC := Lib.hid hgc
    have Lx : Hid (Lt x 100) := Lt.mono La.out (by rw [← hx]; exact Nat.div_le_self _ _)
    have Ly : Hid (Lt y 100) := Lt.mono Lb.out (by rw [← hy]; exact Nat.div_le_self _ _)
    have Mac : Hid (Lt (a * c) 200) := Lt.mul La.out Lc.out (by decide)
    have Mbc : Hid (Lt (b * c) 200) := Lt.mul Lb.out Lc.out (by decide)
    have d0 := dig_0
    have d1 := dig_1
    clear hg hg0 hx hy hda hdb hxr hyr hxy hba hgc
    by_cases ha : a = 0
    · have hb : b ≠ 0 := fun h => h0 ⟨ha, h⟩
      have q1 : (dig a == [48]) = true := by rw [ha, dig_0]; rfl
      have q2 := dig_ne48 hb
      have q3 := dig_neB hb
      clear ha hb h0
      go_enter Tryd.func6, Tryd.ntmps6
      go_wp2_with fail
      refine (fixed1_any _ HT.out HE.out).mono ?_
      rintro e w1 ⟨rfl, b⟩
      have B1 := b
      clear b
      go_wp2_with fail
      refine (nMay La.out _).mono ?_
      rintro e w' ⟨rfl, rfl⟩
      go_wp2_with fail
      refine (nMay Lb.out _).mono ?_
      rintro e w' ⟨rfl, rfl⟩
      go_wp2_with fail
      refine (nMay Lc.out _).mono ?_
      rintro e w' ⟨rfl, rfl⟩
      go_wp2_with fail
      refine (nGcd La.out Lb.out HG.out _).mono ?_
      rintro e w2 ⟨rfl, b⟩
      have B2 := Below.more B1 b
      clear b
      go_wp2_with fail
      refine (nDiv La.out Lg.out HG0.out HX.out HXR.out _).mono ?_
      rintro e w3 ⟨rfl, b⟩
      have B3 := Below.more B2 b
      clear b
      go_wp2_with fail
      refine (nDiv Lb.out Lg.out HG0.out HY.out HYR.out _).mono ?_
      rintro e w4 ⟨rfl, b⟩
      have B4 := Below.more B3 b
      clear b
      go_wp2_with fail
      refine (nGcd Lx.out Ly.out HXY.out _).mono ?_
      rintro e w5 ⟨rfl, b⟩
      have B5 := Below.more B4 b
      clear b
      go_wp2_with fail
      refine (nGcd Lb.out La.out HBA.out _).mono ?_
      rintro e w6 ⟨rfl, b⟩
      have B6 := Below.more B5 b
      clear b
      go_wp2_with fail
      refine (nMul La.out Lc.out rfl _).mono ?_
      rintro e w7 ⟨rfl, b⟩
      have B7 := Below.more B6 b
      clear b
      go_wp2_with fail
      refine (nMul Lb.out Lc.out rfl _).mono ?_
      rintro e w8 ⟨rfl, b⟩
      have B8 := Below.more B7 b
      clear b
      go_wp2_with fail
      refine (nGcd Mac.out Mbc.out HGC.out _).mono ?_
      rintro e w9 ⟨rfl, b⟩
      have B9 := Below.more B8 b
      clear b
      go_wp2_with fail
      refine (nMul Lg.out Lc.out rfl _).mono ?_
      rintro e w10 ⟨rfl, b⟩
      have B10 := Below.more B9 b
      clear b
      go_wp2_with fail
      go_ret
      exact ⟨rfl, B10⟩
    · have q2 := dig_ne48 ha
      have q3 := dig_neB ha
      clear ha h0
      go_enter Tryd.func6, Tryd.ntmps6
      go_wp2_with fail
      refine (fixed1_any _ HT.out HE.out).mono ?_
      rintro e w1 ⟨rfl, b⟩
      have B1 := b
      clear b
      go_wp2_with fail
      refine (nMay La.out _).mono ?_
      rintro e w' ⟨rfl, rfl⟩
      go_wp2_with fail
      refine (nMay Lb.out _).mono ?_
      rintro e w' ⟨rfl, rfl⟩
      go_wp2_with fail
      refine (nMay Lc.out _).mono ?_
      rintro e w' ⟨rfl, rfl⟩
      go_wp2_with fail
      refine (nGcd La.out Lb.out HG.out _).mono ?_
      rintro e w2 ⟨rfl, b⟩
      have B2 := Below.more B1 b
      clear b
      go_wp2_with fail
      refine (nDiv La.out Lg.out HG0.out HX.out HXR.out _).mono ?_
      rintro e w3 ⟨rfl, b⟩
      have B3 := Below.more B2 b
      clear b
      go_wp2_with fail
      refine (nDiv Lb.out Lg.out HG0.out HY.out HYR.out _).mono ?_
      rintro e w4 ⟨rfl, b⟩
      have B4 := Below.more B3 b
      clear b
      go_wp2_with fail
      refine (nGcd Lx.out Ly.out HXY.out _).mono ?_
      rintro e w5 ⟨rfl, b⟩
      have B5 := Below.more B4 b
      clear b
      go_wp2_with fail
      refine (nGcd Lb.out La.out HBA.out _).mono ?_
      rintro e w6 ⟨rfl, b⟩
      have B6 := Below.more B5 b
      clear b
      go_wp2_with fail
      refine (nMul La.out Lc.out rfl _).mono ?_
      rintro e w7 ⟨rfl, b⟩
      have B7 := Below.more B6 b
      clear b
      go_wp2_with fail
      refine (nMul Lb.out Lc.out rfl _).mono ?_
      rintro e w8 ⟨rfl, b⟩
      have B8 := Below.more B7 b
      clear b
      go_wp2_with fail
      refine (nGcd Mac.out Mbc.out HGC.out _).mono ?_
      rintro e w9 ⟨rfl, b⟩
      have B9 := Below.more B8 b
      clear b
      go_wp2_with fail
      refine (nMul Lg.out Lc.out rfl _).mono ?_
      rintro e w10 ⟨rfl, b⟩
      have B10 := Below.more B9 b
      clear b
      go_wp2_with fail
      go_ret
      exact ⟨rfl, B10⟩

set_option maxRecDepth 100000 in
set_option maxHeartbeats 2000000 in
theorem gcd1_any (s t u : ByteArray) (w : World) (ht : GoodT w) (he : GoodE w) :
    Calls Tryd.prog 6 #[.string s, .string t, .string u] w (GiveB w true) := by
  by_cases hS : s.size ≤ 100 ∧ t.size ≤ 100 ∧ u.size ≤ 100
  · obtain ⟨zs, zt, zu⟩ := hS
    cases ks : isNat s.data.toList with
    | false =>
      have HT := Lib.hid ht; have HE := Lib.hid he; clear ht he
      have cs := fun w => rmay_any s w (by omega)
      rw [ks] at cs
      have Cs := Lib.hid cs; clear cs
      have ys : ¬ (100 : Int) < (s.size : Int) := by omega
      have yt : ¬ (100 : Int) < (t.size : Int) := by omega
      have yu : ¬ (100 : Int) < (u.size : Int) := by omega
      clear ks zs zt zu
      go_enter Tryd.func6, Tryd.ntmps6
      go_wp2_with fail
      refine (fixed1_any _ HT.out HE.out).mono ?_
      rintro e w1 ⟨rfl, b⟩
      have B1 := b
      clear b
      go_wp2_with fail
      refine (Cs.out _).mono ?_
      rintro e w' ⟨rfl, rfl⟩
      go_wp2_with fail
      refine (fixed1_any _ (HT.out.below B1) (HE.out.below B1)).mono ?_
      rintro e w2 ⟨rfl, b⟩
      have B2 := Below.more B1 b
      clear b
      go_wp2_with fail
      go_ret
      exact ⟨rfl, B2⟩
    | true =>
      cases kt : isNat t.data.toList with
      | false =>
        have HT := Lib.hid ht; have HE := Lib.hid he; clear ht he
        have cs := fun w => rmay_any s w (by omega)
        rw [ks] at cs
        have Cs := Lib.hid cs; clear cs
        have ct := fun w => rmay_any t w (by omega)
        rw [kt] at ct
        have Ct := Lib.hid ct; clear ct
        have ys : ¬ (100 : Int) < (s.size : Int) := by omega
        have yt : ¬ (100 : Int) < (t.size : Int) := by omega
        have yu : ¬ (100 : Int) < (u.size : Int) := by omega
        clear ks kt zs zt zu
        go_enter Tryd.func6, Tryd.ntmps6
        go_wp2_with fail
        refine (fixed1_any _ HT.out HE.out).mono ?_
        rintro e w1 ⟨rfl, b⟩
        have B1 := b
        clear b
        go_wp2_with fail
        refine (Cs.out _).mono ?_
        rintro e w' ⟨rfl, rfl⟩
        go_wp2_with fail
        refine (Ct.out _).mono ?_
        rintro e w' ⟨rfl, rfl⟩
        go_wp2_with fail
        refine (fixed1_any _ (HT.out.below B1) (HE.out.below B1)).mono ?_
        rintro e w2 ⟨rfl, b⟩
        have B2 := Below.more B1 b
        clear b
        go_wp2_with fail
        go_ret
        exact ⟨rfl, B2⟩
      | true =>
        cases ku : isNat u.data.toList with
        | false =>
          have HT := Lib.hid ht; have HE := Lib.hid he; clear ht he
          have cs := fun w => rmay_any s w (by omega)
          rw [ks] at cs
          have Cs := Lib.hid cs; clear cs
          have ct := fun w => rmay_any t w (by omega)
          rw [kt] at ct
          have Ct := Lib.hid ct; clear ct
          have cu := fun w => rmay_any u w (by omega)
          rw [ku] at cu
          have Cu := Lib.hid cu; clear cu
          have ys : ¬ (100 : Int) < (s.size : Int) := by omega
          have yt : ¬ (100 : Int) < (t.size : Int) := by omega
          have yu : ¬ (100 : Int) < (u.size : Int) := by omega
          clear ks kt ku zs zt zu
          go_enter Tryd.func6, Tryd.ntmps6
          go_wp2_with fail
          refine (fixed1_any _ HT.out HE.out).mono ?_
          rintro e w1 ⟨rfl, b⟩
          have B1 := b
          clear b
          go_wp2_with fail
          refine (Cs.out _).mono ?_
          rintro e w' ⟨rfl, rfl⟩
          go_wp2_with fail
          refine (Ct.out _).mono ?_
          rintro e w' ⟨rfl, rfl⟩
          go_wp2_with fail
          refine (Cu.out _).mono ?_
          rintro e w' ⟨rfl, rfl⟩
          go_wp2_with fail
          refine (fixed1_any _ (HT.out.below B1) (HE.out.below B1)).mono ?_
          rintro e w2 ⟨rfl, b⟩
          have B2 := Below.more B1 b
          clear b
          go_wp2_with fail
          go_ret
          exact ⟨rfl, B2⟩
        | true =>
          have es := str_dig ks
          have ls := Lt.of_text ks zs (by decide) (by decide)
          have et := str_dig kt
          have lt := Lt.of_text kt zt (by decide) (by decide)
          have eu := str_dig ku
          have lu := Lt.of_text ku zu (by decide) (by decide)
          generalize valS s.data.toList = a at *
          generalize valS t.data.toList = b at *
          generalize valS u.data.toList = c at *
          clear ks kt ku
          subst es
          subst et
          subst eu
          exact gcd1_main a b c w ls lt lu zs zt zu ht he
  · have hC : (100 : Int) < (s.size : Int) ∨ (¬ (100 : Int) < (s.size : Int) ∧ (100 : Int) < (t.size : Int)) ∨ (¬ (100 : Int) < (s.size : Int) ∧ ¬ (100 : Int) < (t.size : Int) ∧ (100 : Int) < (u.size : Int)) := by omega
    have HT := Lib.hid ht; have HE := Lib.hid he; clear ht he hS
    rcases hC with h1 | ⟨h1, h2⟩ | ⟨h1, h2, h3⟩
    all_goals
      go_enter Tryd.func6, Tryd.ntmps6
      go_wp2_with fail
      refine (fixed1_any _ HT.out HE.out).mono ?_
      rintro e w1 ⟨rfl, b⟩
      have B1 := b
      clear b
      go_wp2_with fail
      refine (fixed1_any _ (HT.out.below B1) (HE.out.below B1)).mono ?_
      rintro e w2 ⟨rfl, b⟩
      have B2 := Below.more B1 b
      clear b
      go_wp2_with fail
      go_ret
      exact ⟨rfl, B2⟩
end Go.Proofs.YtcekdidefomkfaaDoor
