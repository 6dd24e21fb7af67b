/- Own work. -/
import Derived.Test.YthgopcnagecbaaaGreatDoorAllRefAM
set_option linter.unusedSimpArgs false
set_option linter.unusedVariables false
set_option maxHeartbeats 4000000
set_option maxRecDepth 100000
namespace Go.Proofs.YthgopcnagecbaaaGreatDoor
open Go.RowKit
open Ac (oB rB cB assetB numB wordK mayA Actn leastC)
def SzA(a:Actn):Prop:=(a.nm.length≤4611686018427387904∧a.ast.length≤4611686018427387904∧a.oth.length≤4611686018427387904)∧(a.ratio.1.length≤10000∧a.ratio.2.length≤10000)∧a.cash.1.length≤10000∧a.cash.2.length≤10000
theorem acmay_x(nm ast oth rn rd' cn cd:List UInt8)(k ex rc pay:Int)(w:World)(h:SzA ⟨nm,k,ast,oth,(rn,rd'),(cn,cd),ex,rc,pay⟩):Calls Tryz.prog 24 #[.agg #[.string ⟨nm.toArray⟩,.int .i64 k,.string ⟨ast.toArray⟩,.string ⟨oth.toArray⟩,.string ⟨rn.toArray⟩,.string ⟨rd'.toArray⟩,.string ⟨cn.toArray⟩,.string ⟨cd.toArray⟩,.int .i64 ex,.int .i64 rc,.int .i64 pay]] w (GiveB w (mayA ⟨nm,k,ast,oth,(rn,rd'),(cn,cd),ex,rc,pay⟩)):=by
 obtain⟨⟨z1,z2,z3⟩,⟨z4,z5⟩,z6,z7⟩:=h;dsimp only at z1 z2 z3 z4 z5 z6 z7;have CN:Hid (∀V,Calls Tryz.prog 45 #[.string ⟨nm.toArray⟩] V (GiveB V (isName nm))):=zh (fun V=>calm (rbname_any ⟨nm.toArray⟩ V (by rw[size_of];exact z1)));have CA:=zh (fun V=>acasset_any ast V z2);have CO:=zh (fun V=>acasset_any oth V z3);have CK:=zh (fun V=>acnames_any k V);have CR:=zh (fun V=>acnum_any rn rd' (rB k) 1 V z4 z5);have CC:=zh (fun V=>acnum_any cn cd (cB k) (leastC k) V z6 z7);have HE:=zh (show mayA ⟨nm,k,ast,oth,(rn,rd'),(cn,cd),ex,rc,pay⟩=(isName nm&&(assetB ast&&(decide (0≤k)&&(decide (k≤4)&&(decide (0≤ex)&&(decide (ex≤rc)&&(decide (rc≤pay)&&(decide (pay≤9999) &&
  ((if oB k then assetB oth&&!(oth==ast) else oth == [])&&(numB (rn,rd') (rB k) 1&&numB (cn,cd) (cB k) (leastC k))))))))))) from rfl)
 have HL4:=zh (show leastC k=if k=4 then 0 else 1 from rfl);generalize mayA ⟨nm,k,ast,oth,(rn,rd'),(cn,cd),ex,rc,pay⟩=res at *;generalize numB (rn,rd') (rB k) 1=vr at *;generalize numB (cn,cd) (cB k) (leastC k)=vc at *;generalize isName nm=vn at *;generalize assetB ast=va at *;generalize assetB oth=vo at *;generalize oB k=bo at *;generalize rB k=br at *;generalize cB k=bc at *;generalize leastC k=lc at *;clear z1 z2 z3 z4 z5 z6 z7;go_enter Tryz.func24,Tryz.ntmps24;go_wp2_with fail;obtain⟨W,hW,BW,_,kk⟩:=layN (Below.refl w.heap.size w) #[.string ⟨nm.toArray⟩,.int .i64 k,.string ⟨ast.toArray⟩,.string ⟨oth.toArray⟩,.string ⟨rn.toArray⟩,.string ⟨rd'.toArray⟩,.string ⟨cn.toArray⟩,.string ⟨cd.toArray⟩,.int .i64 ex,.int .i64 rc,.int .i64 pay] 25;rw[hW];clear hW;have b0:=Below.refl W.heap.size W;have k0:=kk 0 _ rfl;have k1:=kk 1 _ rfl;have k2:=kk 2 _ rfl;have k3:=kk 3 _ rfl;have k4:=kk 4 _ rfl;have k5:=kk 5 _ rfl;have k6:=kk 6 _ rfl;have k7:=kk 7 _ rfl;have k8:=kk 8 _ rfl;have k9:=kk 9 _ rfl;have k10:=kk 10 _ rfl
 clear kk;go_wp2_with fail;refine(CN.out _).mono ?_;rintro e1 w1 ⟨rfl,b⟩;have b1:=Below.more b0 b;clear b
 cases vn with
 | false =>
  go_wp2_with fail;go_ret;exact⟨ret_bool (by rw[HE.out];simp[*]),Below.more BW b1⟩
 | true =>
 go_wp2_with fail;refine(CA.out _).mono ?_;rintro e2 w2 ⟨rfl,b⟩;have b2:=Below.more b1 b;clear b
 cases va with
 | false =>
  go_wp2_with fail;go_ret;exact⟨ret_bool (by rw[HE.out];simp[*]),Below.more BW b2⟩
 | true =>
 rcases(show k<0∨0≤k∧4<k∨(0≤k∧k≤4)∧ex<0∨(0≤k∧k≤4)∧0≤ex∧rc<ex∨(0≤k∧k≤4)∧(0≤ex∧ex≤rc)∧pay<rc∨(0≤k∧k≤4)∧(0≤ex∧ex≤rc)∧rc≤pay∧9999<pay∨(0≤k∧k≤4)∧(0≤ex∧ex≤rc)∧rc≤pay∧pay≤9999 by omega) with c|⟨c,c'⟩|⟨⟨c,c'⟩,d⟩|⟨⟨c,c'⟩,d,d'⟩|⟨⟨c,c'⟩,⟨d,d'⟩,f⟩|⟨⟨c,c'⟩,⟨d,d'⟩,f,f'⟩|⟨⟨c,c'⟩,⟨d,d'⟩,f,f'⟩
 case inl|inr.inl|inr.inr.inl|inr.inr.inr.inl|inr.inr.inr.inr.inl|inr.inr.inr.inr.inr.inl =>
  go_wp2_with fail;go_ret;exact⟨ret_bool (by
   have HF:Hid (¬(((0≤k∧k≤4)∧0≤ex)∧(ex≤rc∧rc≤pay)∧pay≤9999)):=zh (by omega);have hf:=HF.out;rw[HE.out]
   symm
   simp only[Bool.true_and,Bool.and_eq_false_iff,decide_eq_false_iff_not];omega),Below.more BW b2⟩
 go_wp2_with fail;refine(CK.out _).mono ?_;rintro e3 w3 ⟨rfl,b⟩;have b3:=Below.more b2 b;clear b
 cases bo with
 | true =>
  go_wp2_with fail;refine(CO.out _).mono ?_;rintro e4 w4 ⟨rfl,b⟩;have b4:=Below.more b3 b;clear b
  cases vo with
  | false =>
   go_wp2_with fail;go_ret;exact⟨ret_bool (by rw[HE.out];simp[*]),Below.more BW b4⟩
  | true =>
   cases hq:(oth==ast) with
   | true =>
    go_wp2_with fail;go_ret;exact⟨ret_bool (by rw[HE.out];simp[*]),Below.more BW b4⟩
   | false =>
    by_cases h4:k=4
    ·have hl4:lc=0:=by rw[HL4.out,if_pos h4]
     subst hl4;go_wp2_with fail;refine(CR.out _).mono ?_;rintro e5 w5 ⟨rfl,b⟩;have b5:=Below.more b4 b;clear b
     cases vr with
     | false =>
      go_wp2_with fail;go_ret;exact⟨ret_bool (by rw[HE.out];simp[*]),Below.more BW b5⟩
     | true =>
      go_wp2_with fail;refine(CC.out _).mono ?_;rintro e6 w6 ⟨rfl,b⟩;have b6:=Below.more b5 b;clear b
      cases vc<;>(
       go_wp2_with fail;go_ret;exact⟨ret_bool (by rw[HE.out];simp[*]),Below.more BW b6⟩)
    ·have hl4:lc=1:=by rw[HL4.out,if_neg h4]
     subst hl4;go_wp2_with fail;refine(CR.out _).mono ?_;rintro e5 w5 ⟨rfl,b⟩;have b5:=Below.more b4 b;clear b
     cases vr with
     | false =>
      go_wp2_with fail;go_ret;exact⟨ret_bool (by rw[HE.out];simp[*]),Below.more BW b5⟩
     | true =>
      go_wp2_with fail;refine(CC.out _).mono ?_;rintro e6 w6 ⟨rfl,b⟩;have b6:=Below.more b5 b;clear b
      cases vc<;>(
       go_wp2_with fail;go_ret;exact⟨ret_bool (by rw[HE.out];simp[*]),Below.more BW b6⟩)
 | false =>
  cases hq:(oth == []) with
  | false =>
   go_wp2_with fail;go_ret;exact⟨ret_bool (by rw[HE.out];simp[*]),Below.more BW b3⟩
  | true =>
   by_cases h4:k=4
   ·have hl4:lc=0:=by rw[HL4.out,if_pos h4]
    subst hl4;go_wp2_with fail;refine(CR.out _).mono ?_;rintro e5 w5 ⟨rfl,b⟩;have b5:=Below.more b3 b;clear b
    cases vr with
    | false =>
     go_wp2_with fail;go_ret;exact⟨ret_bool (by rw[HE.out];simp[*]),Below.more BW b5⟩
    | true =>
     go_wp2_with fail;refine(CC.out _).mono ?_;rintro e6 w6 ⟨rfl,b⟩;have b6:=Below.more b5 b;clear b
     cases vc<;>(
      go_wp2_with fail;go_ret;exact⟨ret_bool (by rw[HE.out];simp[*]),Below.more BW b6⟩)
   ·have hl4:lc=1:=by rw[HL4.out,if_neg h4]
    subst hl4;go_wp2_with fail;refine(CR.out _).mono ?_;rintro e5 w5 ⟨rfl,b⟩;have b5:=Below.more b3 b;clear b
    cases vr with
    | false =>
     go_wp2_with fail;go_ret;exact⟨ret_bool (by rw[HE.out];simp[*]),Below.more BW b5⟩
    | true =>
     go_wp2_with fail;refine(CC.out _).mono ?_;rintro e6 w6 ⟨rfl,b⟩;have b6:=Below.more b5 b;clear b
     cases vc<;>(
      go_wp2_with fail;go_ret;exact⟨ret_bool (by rw[HE.out];simp[*]),Below.more BW b6⟩)
theorem acmay_any(a:Actn)(w:World)(h:SzA a):Calls Tryz.prog 24 #[.agg #[.string ⟨a.nm.toArray⟩,.int .i64 a.kind,.string ⟨a.ast.toArray⟩,.string ⟨a.oth.toArray⟩,.string ⟨a.ratio.1.toArray⟩,.string ⟨a.ratio.2.toArray⟩,.string ⟨a.cash.1.toArray⟩,.string ⟨a.cash.2.toArray⟩,.int .i64 a.ex,.int .i64 a.rc,.int .i64 a.pay]] w (GiveB w (mayA a)) :=
 acmay_x a.nm a.ast a.oth a.ratio.1 a.ratio.2 a.cash.1 a.cash.2 a.kind a.ex a.rc a.pay w h
end Go.Proofs.YthgopcnagecbaaaGreatDoor
