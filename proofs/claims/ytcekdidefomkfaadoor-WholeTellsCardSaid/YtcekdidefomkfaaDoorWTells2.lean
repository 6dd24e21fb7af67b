/- The walk of WholeTells. -/
import Derived.Test.YtcekdidefomkfaaDoorAllApiW
namespace Go.Proofs.YtcekdidefomkfaaDoor
open Go.RowKit

set_option maxRecDepth 100000 in
set_option maxHeartbeats 4000000 in
theorem tells2_any (s t : ByteArray) (n : Int) (w : World) (h0 : -9223372036854775808 ≤ n) (h1 : n ≤ 9223372036854775807) (ht : GoodT w) :
    Calls Tryd.prog 10 #[.string s, .string t, .int .i64 n] w (GiveB w true) := by
  have HT := Lib.hid ht
  clear ht
  by_cases hS : s.size ≤ 200 ∧ t.size ≤ 200
  · have HS := Lib.hid (fun w => short2_any (short_two hS) w)
    have hs : s.size ≤ 100000 := by omega
    have hu : t.size ≤ 100000 := by omega
    clear hS
    have cDiv := fun w => wdiv_any s t w (by omega) (by omega)
    have rDiv := fun w => rwdiv_any s t w (by omega) (by omega)
    generalize divW s.data.toList t.data.toList = xDiv at *
    have cCmp := fun w => wcmp_any s t w (by omega) (by omega)
    have rCmp := fun w => rwcmp_any s t w (by omega) (by omega)
    generalize cmpW s.data.toList t.data.toList = xCmp at *
    have cAdd := fun w => wadd_any s t w (by omega) (by omega)
    have rAdd := fun w => rwadd_any s t w (by omega) (by omega)
    generalize addW s.data.toList t.data.toList = xAdd at *
    have cSub := fun w => wsub_any s t w (by omega) (by omega)
    have rSub := fun w => rwsub_any s t w (by omega) (by omega)
    generalize subW s.data.toList t.data.toList = xSub at *
    have cMul := fun w => wmul_any s t w (by omega) (by omega)
    have rMul := fun w => rwmul_any s t w (by omega) (by omega)
    generalize mulW s.data.toList t.data.toList = xMul at *
    have cMay := fun w => wmay_any s w (by omega)
    have rMay := fun w => rwmay_any s w (by omega)
    generalize isW s.data.toList = xMay at *
    have cSign := fun w => wsign_any s w (by omega)
    have rSign := fun w => rwsign_any s w (by omega)
    generalize sgnW s.data.toList = xSign at *
    have cAbs := fun w => wabs_any s w (by omega)
    have rAbs := fun w => rwabs_any s w (by omega)
    generalize absW s.data.toList = xAbs at *
    have cNeg := fun w => wneg_any s w (by omega)
    have rNeg := fun w => rwneg_any s w (by omega)
    generalize negW s.data.toList = xNeg at *
    have cOf := fun w => wof_any n w h0 h1
    have rOf := fun w => rwof_any n w h0 h1
    generalize wd n = xOf at *
    obtain ⟨xDiv1, xDiv2, xDiv3⟩ := xDiv
    have HDiv := Lib.hid cDiv; have RDiv := Lib.hid rDiv; clear cDiv rDiv
    have HCmp := Lib.hid cCmp; have RCmp := Lib.hid rCmp; clear cCmp rCmp
    have HAdd := Lib.hid cAdd; have RAdd := Lib.hid rAdd; clear cAdd rAdd
    have HSub := Lib.hid cSub; have RSub := Lib.hid rSub; clear cSub rSub
    have HMul := Lib.hid cMul; have RMul := Lib.hid rMul; clear cMul rMul
    have HMay := Lib.hid cMay; have RMay := Lib.hid rMay; clear cMay rMay
    have HSign := Lib.hid cSign; have RSign := Lib.hid rSign; clear cSign rSign
    have HAbs := Lib.hid cAbs; have RAbs := Lib.hid rAbs; clear cAbs rAbs
    have HNeg := Lib.hid cNeg; have RNeg := Lib.hid rNeg; clear cNeg rNeg
    have HOf := Lib.hid cOf; have ROf := Lib.hid rOf; clear cOf rOf
    clear hs hu
    go_enter Tryd.func10, Tryd.ntmps10
    go_wp2_with fail
    refine (HS.out _).mono ?_
    rintro e w1 ⟨rfl, b⟩
    have B1 := b
    clear b
    go_wp2_with fail
    refine (HDiv.out _).mono ?_
    rintro e w2 ⟨rfl, b⟩
    have B2 := Below.more B1 b
    clear b
    go_wp2_with fail
    refine (RDiv.out _).mono ?_
    rintro e w3 ⟨rfl, b⟩
    have B3 := Below.more B2 b
    clear b
    go_wp2_with fail
    refine (HMay.out _).mono ?_
    rintro e w' ⟨rfl, rfl⟩
    go_wp2_with fail
    refine (RMay.out _).mono ?_
    rintro e w' ⟨rfl, rfl⟩
    go_wp2_with fail
    refine (HOf.out _ (HT.out.below B3)).mono ?_
    rintro e w4 ⟨rfl, b⟩
    have B4 := Below.more B3 b
    clear b
    go_wp2_with fail
    refine (ROf.out _).mono ?_
    rintro e w5 ⟨rfl, b⟩
    have B5 := Below.more B4 b
    clear b
    go_wp2_with fail
    refine (HSign.out _).mono ?_
    rintro e w' ⟨rfl, rfl⟩
    go_wp2_with fail
    refine (RSign.out _).mono ?_
    rintro e w' ⟨rfl, rfl⟩
    go_wp2_with fail
    refine (HAbs.out _).mono ?_
    rintro e w' ⟨rfl, rfl⟩
    go_wp2_with fail
    refine (RAbs.out _).mono ?_
    rintro e w' ⟨rfl, rfl⟩
    go_wp2_with fail
    refine (HNeg.out _).mono ?_
    rintro e w' ⟨rfl, rfl⟩
    go_wp2_with fail
    refine (RNeg.out _).mono ?_
    rintro e w' ⟨rfl, rfl⟩
    go_wp2_with fail
    refine (fixed2_any _ (HT.out.below B5)).mono ?_
    rintro e w6 ⟨rfl, b⟩
    have B6 := Below.more B5 b
    clear b
    go_wp2_with fail
    refine (HCmp.out _).mono ?_
    rintro e w' ⟨rfl, rfl⟩
    go_wp2_with fail
    refine (RCmp.out _).mono ?_
    rintro e w7 ⟨rfl, b⟩
    have B7 := Below.more B6 b
    clear b
    go_wp2_with fail
    refine (HAdd.out _).mono ?_
    rintro e w8 ⟨rfl, b⟩
    have B8 := Below.more B7 b
    clear b
    go_wp2_with fail
    refine (RAdd.out _).mono ?_
    rintro e w9 ⟨rfl, b⟩
    have B9 := Below.more B8 b
    clear b
    go_wp2_with fail
    refine (HSub.out _).mono ?_
    rintro e w10 ⟨rfl, b⟩
    have B10 := Below.more B9 b
    clear b
    go_wp2_with fail
    refine (RSub.out _).mono ?_
    rintro e w11 ⟨rfl, b⟩
    have B11 := Below.more B10 b
    clear b
    go_wp2_with fail
    refine (HMul.out _).mono ?_
    rintro e w12 ⟨rfl, b⟩
    have B12 := Below.more B11 b
    clear b
    go_wp2_with fail
    refine (RMul.out _).mono ?_
    rintro e w13 ⟨rfl, b⟩
    have B13 := Below.more B12 b
    clear b
    go_wp2_with fail
    go_ret
    exact ⟨rfl, B13⟩
  · have HS := Lib.hid (fun w => short2_any (long_two hS) w)
    clear hS
    go_enter Tryd.func10, Tryd.ntmps10
    go_wp2_with fail
    refine (HS.out _).mono ?_
    rintro e w1 ⟨rfl, b⟩
    have B1 := b
    clear b
    go_wp2_with fail
    refine (fixed2_any _ (HT.out.below B1)).mono ?_
    rintro e w2 ⟨rfl, b⟩
    have B2 := Below.more B1 b
    clear b
    go_wp2_with fail
    go_ret
    exact ⟨rfl, B2⟩
end Go.Proofs.YtcekdidefomkfaaDoor
