/- The walk of NatTells. -/
import Derived.Test.YtcekdidefomkfaaDoorAllApi
namespace Go.Proofs.YtcekdidefomkfaaDoor
open Go.RowKit

theorem small_goode {s : ByteArray} {x : Int × Bool} (h : ∀ w tp p, w.var? Tryd.prog "strconv.ErrRange" = some #[.iface tp p] → Calls Tryd.prog 22 #[.string s] w (GiveIB w x)) {w : World} (he : GoodE w) :
    Calls Tryd.prog 22 #[.string s] w (GiveIB w x) := by
  obtain ⟨tp, p, hv⟩ := he
  exact h w tp p hv

set_option maxRecDepth 100000 in
set_option maxHeartbeats 2000000 in
theorem tells1_any (s t : ByteArray) (n : Int) (w : World) (h0 : -9223372036854775808 ≤ n) (h1 : n ≤ 9223372036854775807) (ht : GoodT w) (he : GoodE w) :
    Calls Tryd.prog 3 #[.string s, .string t, .int .i64 n] w (GiveB w true) := by
  have HT := Lib.hid ht; have HE := Lib.hid he
  clear ht he
  by_cases hS : s.size ≤ 200 ∧ t.size ≤ 200
  · have HS := Lib.hid (fun w => short2_any (short_two hS) w)
    have hs : s.size ≤ 1000000 := by omega
    have hu : t.size ≤ 1000000 := by omega
    have cSub := fun w => sub_any s t w (by omega) (by omega)
    have rSub := fun w => rsub_any s t w (by omega) (by omega)
    have cDiv := fun w => div_any s t w (by omega) (by omega)
    have rDiv := fun w => rdiv_any s t w hs hu
    have cSmall := fun w => small_any s w (by omega)
    have rSmall := fun w => rsmall_any s w (by omega)
    have cMay := fun w => may_any s w (by omega)
    have rMay := fun w => rmay_any s w (by omega)
    have cOf := fun w => of_any n w h0 h1
    have rOf := fun w => rof_any n w h0 h1
    have cCmp := fun w => cmp_any s t w (by omega) (by omega)
    have rCmp := fun w => rcmp_any s t w (by omega) (by omega)
    have cAdd := fun w => add_any s t w (by omega) (by omega)
    have rAdd := fun w => radd_any s t w (by omega) (by omega)
    have cMul := fun w => mul_any s t w (by omega) (by omega)
    have rMul := fun w => rmul_any s t w hs hu
    have cGcd := fun w => gcd_any s t w (by omega) (by omega)
    have rGcd := fun w => rgcd_any s t w hs hu
    generalize subS s.data.toList t.data.toList = xSub at *
    generalize divS s.data.toList t.data.toList = xDiv at *
    generalize smallS s.data.toList = xSmall at *
    generalize isNat s.data.toList = xMay at *
    generalize ofS n = xOf at *
    generalize cmpS s.data.toList t.data.toList = xCmp at *
    generalize addS s.data.toList t.data.toList = xAdd at *
    generalize mulS s.data.toList t.data.toList = xMul at *
    generalize gcdS s.data.toList t.data.toList = xGcd at *
    obtain ⟨xSub1, xSub2⟩ := xSub
    obtain ⟨xDiv1, xDiv2, xDiv3⟩ := xDiv
    obtain ⟨xSmall1, xSmall2⟩ := xSmall
    have HSub := Lib.hid cSub; have RSub := Lib.hid rSub; clear cSub rSub
    have HDiv := Lib.hid cDiv; have RDiv := Lib.hid rDiv; clear cDiv rDiv
    have HSmall := Lib.hid cSmall; have RSmall := Lib.hid rSmall; clear cSmall rSmall
    have HMay := Lib.hid cMay; have RMay := Lib.hid rMay; clear cMay rMay
    have HOf := Lib.hid cOf; have ROf := Lib.hid rOf; clear cOf rOf
    have HCmp := Lib.hid cCmp; have RCmp := Lib.hid rCmp; clear cCmp rCmp
    have HAdd := Lib.hid cAdd; have RAdd := Lib.hid rAdd; clear cAdd rAdd
    have HMul := Lib.hid cMul; have RMul := Lib.hid rMul; clear cMul rMul
    have HGcd := Lib.hid cGcd; have RGcd := Lib.hid rGcd; clear cGcd rGcd
    clear hS hs hu
    go_enter Tryd.func3, Tryd.ntmps3
    go_wp2_with fail
    refine (HS.out _).mono ?_
    rintro e w1 ⟨rfl, b⟩
    have B1 := b
    clear b
    go_wp2_with fail
    refine (HSub.out _).mono ?_
    rintro e w2 ⟨rfl, b⟩
    have B2 := Below.more B1 b
    clear b
    go_wp2_with fail
    refine (RSub.out _).mono ?_
    rintro e w3 ⟨rfl, b⟩
    have B3 := Below.more B2 b
    clear b
    go_wp2_with fail
    refine (HDiv.out _).mono ?_
    rintro e w4 ⟨rfl, b⟩
    have B4 := Below.more B3 b
    clear b
    go_wp2_with fail
    refine (RDiv.out _).mono ?_
    rintro e w5 ⟨rfl, b⟩
    have B5 := Below.more B4 b
    clear b
    go_wp2_with fail
    refine (small_goode HSmall.out (HE.out.below B5)).mono ?_
    rintro e w6 ⟨rfl, b⟩
    have B6 := Below.more B5 b
    clear b
    go_wp2_with fail
    refine (RSmall.out _).mono ?_
    rintro e w' ⟨rfl, rfl⟩
    go_wp2_with fail
    refine (HMay.out _).mono ?_
    rintro e w' ⟨rfl, rfl⟩
    go_wp2_with fail
    refine (RMay.out _).mono ?_
    rintro e w' ⟨rfl, rfl⟩
    go_wp2_with fail
    refine (HOf.out _ (HT.out.below B6)).mono ?_
    rintro e w7 ⟨rfl, b⟩
    have B7 := Below.more B6 b
    clear b
    go_wp2_with fail
    refine (ROf.out _).mono ?_
    rintro e w' ⟨rfl, rfl⟩
    go_wp2_with fail
    refine (fixed1_any _ (HT.out.below B7) (HE.out.below B7)).mono ?_
    rintro e w8 ⟨rfl, b⟩
    have B8 := Below.more B7 b
    clear b
    go_wp2_with fail
    refine (HCmp.out _).mono ?_
    rintro e w' ⟨rfl, rfl⟩
    go_wp2_with fail
    refine (RCmp.out _).mono ?_
    rintro e w' ⟨rfl, rfl⟩
    go_wp2_with fail
    refine (HAdd.out _).mono ?_
    rintro e w9 ⟨rfl, b⟩
    have B9 := Below.more B8 b
    clear b
    go_wp2_with fail
    refine (RAdd.out _).mono ?_
    rintro e w10 ⟨rfl, b⟩
    have B10 := Below.more B9 b
    clear b
    go_wp2_with fail
    refine (HMul.out _).mono ?_
    rintro e w11 ⟨rfl, b⟩
    have B11 := Below.more B10 b
    clear b
    go_wp2_with fail
    refine (RMul.out _).mono ?_
    rintro e w12 ⟨rfl, b⟩
    have B12 := Below.more B11 b
    clear b
    go_wp2_with fail
    refine (HGcd.out _).mono ?_
    rintro e w13 ⟨rfl, b⟩
    have B13 := Below.more B12 b
    clear b
    go_wp2_with fail
    refine (RGcd.out _).mono ?_
    rintro e w14 ⟨rfl, b⟩
    have B14 := Below.more B13 b
    clear b
    go_wp2_with fail
    go_ret
    exact ⟨rfl, B14⟩
  · have HS := Lib.hid (fun w => short2_any (long_two hS) w)
    clear hS
    go_enter Tryd.func3, Tryd.ntmps3
    go_wp2_with fail
    refine (HS.out _).mono ?_
    rintro e w1 ⟨rfl, b⟩
    have B1 := b
    clear b
    go_wp2_with fail
    refine (fixed1_any _ (HT.out.below B1) (HE.out.below B1)).mono ?_
    rintro e w2 ⟨rfl, b⟩
    have B2 := Below.more B1 b
    clear b
    go_wp2_with fail
    go_ret
    exact ⟨rfl, B2⟩
end Go.Proofs.YtcekdidefomkfaaDoor
