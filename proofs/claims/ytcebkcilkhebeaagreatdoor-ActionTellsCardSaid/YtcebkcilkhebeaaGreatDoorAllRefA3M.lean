/- Own work. -/
import Derived.Test.YtcebkcilkhebeaaGreatDoorAllRefF3M
set_option linter.unusedSimpArgs false
set_option linter.unusedVariables false
set_option maxHeartbeats 4000000
set_option maxRecDepth 100000
namespace Go.Proofs.YtcebkcilkhebeaaGreatDoor
open Go.RowKit
open Ac (oB rB cB assetB numB wordK mayA Actn leastC)
theorem ac_zero(V:World):Calls Tryz.prog 15 #[.int .i64 0] V (GiveR V ([48],[49])):=by
 have h:=rqof_any 0 V (by decide) (by decide);rw[show wd 0=[48] by decide +kernel]at h;exact h
theorem layN{V w:World}(h:Below V.heap.size V w)(cs:Array Value)(t:TypeId):∃U,w.alloc (.cells cs t)=U∧Below V.heap.size V U∧w.heap.size+1=U.heap.size∧∀ (j:Nat) (u:Value),cs[j]?=some u→∀v,Below U.heap.size U v→v.cell? ⟨w.heap.size,j,none⟩=some u :=
 ⟨_,rfl,h.alloc h.size _,by simp,fun j u e v hv=>(hv.cell (p:=⟨w.heap.size,j,none⟩) (by simp)).trans ((cell_new w _ cs t rfl j).trans e)⟩
theorem acnames_any(k:Int)(w:World):Calls Tryz.prog 25 #[.int .i64 k] w (fun e w'=>e=.returned (.tuple #[.bool (oB k),.bool (rB k),.bool (cB k)])∧Below w.heap.size w w'):=by
 have HO:=zh (show oB k=decide (3≤k) from rfl);have HR:=zh (show rB k=!decide (k=2) from rfl);have HC:=zh (show cB k=(decide (k=2)||decide (k=4)) from rfl)
 rcases(show k=2∨k=4∨(¬k=2∧¬k=4)∧3≤k∨(¬k=2∧¬k=4)∧¬3≤k by omega) with rfl|rfl|⟨⟨h1,h2⟩,h3⟩|⟨⟨h1,h2⟩,h3⟩<;>(
  go_enter Tryz.func25,Tryz.ntmps25;go_wp2_with fail
  go_ret3
  exact⟨by rw[HO.out,HR.out,HC.out];simp[*],Below.refl _ _⟩)
theorem asset_eq{s:ByteArray}(h0:0<s.size)(hn:isName s.data.toList=true):assetB s.data.toList=(!decide ((s[0].toNat:Int)=33)&&((decide ((s[0].toNat:Int)<48)||decide ((57:Int)<(s[0].toNat:Int)))&&!decide (s.toList=[99,97,115,104]))):=by
 obtain⟨c,r,hs⟩:∃c r,s.data.toList=c::r:=by
  cases e:s.data.toList with
  | nil=>have:s.data.toList.length=s.size:=rfl;rw[e]at this;simp at this;omega
  | cons c r=>exact⟨c,r,rfl⟩
 have hc:s[0]=c:=by
  have h1:s.data.toList[0]?=some c:=by rw[hs];rfl
  have h2:s.data.toList[0]?=some s[0]:=by
   rw[Array.getElem?_toList];exact Array.getElem?_eq_getElem h0
  exact Option.some.inj (h2.symm.trans h1)
 have hq:decide (s.toList=[99,97,115,104])=(s.data.toList == [99,97,115,104]):=by
  rw[ByteArray.toList_eq,Bool.eq_iff_iff,beq_iff_eq,decide_eq_true_iff]
 unfold assetB;rw[hn,hq,hs,hc];have e1:(some c==some (33:UInt8))=decide ((c.toNat:Int)=33):=by
  rw[Bool.eq_iff_iff];simp;constructor
  ·intro e;rw[e];rfl
  ·intro e;exact UInt8.toNat_inj.1 (by rw[show (33:UInt8).toNat=33 from rfl];omega)
 have e2:isDig c=!(decide ((c.toNat:Int)<48)||decide ((57:Int)<(c.toNat:Int))):=by
  unfold isDig;rw[Bool.eq_iff_iff];simp;omega
 show (true&&(!(some c==some 33)&&(!isDig c&&!(c::r == [99,97,115,104]))))=_;rw[e1,e2,Bool.not_not,Bool.true_and]
theorem acasset_b(s:ByteArray)(w:World)(hs:s.size≤4611686018427387904):Calls Tryz.prog 34 #[.string s] w (GiveB w (assetB s.data.toList)):=by
 have CN:=zh (fun V=>calm (rbname_any s V hs));have b0:=Below.refl w.heap.size w
 cases hn:isName s.data.toList with
 | false =>
  have HE:Hid (assetB s.data.toList=false):=zh (by unfold assetB;rw[hn];rfl);rw[hn]at CN;clear hn;go_enter Tryz.func34,Tryz.ntmps34;go_wp2_with fail;refine(CN.out _).mono ?_;rintro e w1 ⟨rfl,b⟩;go_wp2_with fail;go_ret;exact⟨ret_bool (by rw[HE.out]),b⟩
 | true =>
  have h0:0<s.size:=by
   have:s.data.toList.length=s.size:=rfl
   cases e:s.data.toList with
   | nil=>rw[e]at hn;exact absurd hn (by decide)
   | cons c r=>rw[e]at this;simp at this;omega
  have HE:=zh (asset_eq h0 hn);rw[hn]at CN;clear hn;by_cases c1:(s[0].toNat:Int)=33<;>by_cases c2:(s[0].toNat:Int)<48<;>by_cases c3:(57:Int)<(s[0].toNat:Int)<;>by_cases c4:s.toList=[99,97,115,104]<;>(
   go_enter Tryz.func34,Tryz.ntmps34;go_wp2_with fail;refine(CN.out _).mono ?_;rintro e w1 ⟨rfl,b⟩;go_wp2_with fail;go_ret;exact⟨ret_bool (by rw[HE.out];simp[*]),b⟩)
theorem acasset_any(s:List UInt8)(w:World)(hs:s.length≤4611686018427387904):Calls Tryz.prog 34 #[.string ⟨s.toArray⟩] w (GiveB w (assetB s)):=acasset_b ⟨s.toArray⟩ w (by rw[size_of];exact hs)
theorem acnum_any(n d:List UInt8)(nb:Bool)(m:Int)(w:World)(h1:n.length≤10000)(h2:d.length≤10000):Calls Tryz.prog 35 #[.agg #[.string ⟨n.toArray⟩,.string ⟨d.toArray⟩],.bool nb,.int .i64 m] w (GiveB w (numB (n,d) nb m)):=by
 cases nb with
 | false =>
  have HE:=zh (show numB (n,d) false m=((n,d)==([48],[49])) from rfl);rcases Classical.propComplete (n=[48]) with q1|q1<;>rcases Classical.propComplete (d=[49]) with q2|q2<;>(
  go_enter Tryz.func35,Tryz.ntmps35;go_wp2_with fail;obtain⟨W,hW,BW,sW,k0,k1⟩:=box1 w (.string ⟨n.toArray⟩) (.string ⟨d.toArray⟩) 23;rw[hW];clear hW sW;have b0:=Below.refl W.heap.size W;have hB:=zh (Nat.le_refl W.heap.size);go_wp2_with fail;refine wp_region_noPanic ?_;refine wp_region_held_drew (S:=fun w'=>Below W.heap.size W w') (by kernel_rfl) (b0.drew) (fun hH0=>?_);refine sch_in [0] ?_
  iterate 1 (refine sch_yes (v:=?_) rfl (by kernel_rfl) (by rfl) ?_ (by assumption) ?_;rotate_left 1;(· (intro w hSw;(try dsimp only at hSw);go_simp<;>(with_reducible rfl)));try simp only[Act.put,qA,qB,qC,qD,qE,qF])
  refine sch_out ?_;refine wpAnyH_ready (rs:=[1]) (by kernel_rfl) (by simp) ?_;refine AllReadyH.cons rfl (fun K hK=>?_) AllReadyH.nil
  go_simp
  refine(held (W:=W) hB.out (ac_zero _) hH0).mono ?_;rintro e x2 ⟨rfl,hb,hw⟩
  (try go_wp2_with fail)
  refine hK.out _ _ hw (fun hH1=>?_);clear hK hH0 hb
  try simp only[Act.put,qA,qB,qC,qD,qE,qF]
  refine sch_in [2,3] ?_
  iterate 2 (refine sch_yes (v:=?_) rfl (by kernel_rfl) (by rfl) ?_ (by assumption) ?_;rotate_left 1;(· (intro w hSw;(try dsimp only at hSw);go_simp<;>(try simp only[q1,q2,if_true,if_false])<;>(with_reducible rfl)));try simp only[Act.put,qA,qB,qC,qD,qE,qF])
  refine sch_out ?_;refine wpAnyH_done (by kernel_rfl) ?_ _;refine NoPanic.normal ?_;go_wp2_with fail;go_ret;exact⟨ret_bool (by rw[HE.out];simp[q1,q2]),Below.more BW hw⟩)
 | true =>
  have HE:=zh (show numB (n,d) true m=(isR (n,d)&&(decide (m≤sgnR (n,d))&&(decide (n.length≤20)&&decide (d.length≤20)))) from rfl);have CM:=zh (fun V=>rqmay_any ⟨n.toArray⟩ ⟨d.toArray⟩ V (by rw[size_of];omega) (by rw[size_of];omega));have CS:=zh (fun V=>rqsign_any ⟨n.toArray⟩ ⟨d.toArray⟩ V (by rw[size_of];omega) (by rw[size_of];omega));have cm:Hid (∀V,Calls Tryz.prog 56 #[.agg #[.string ⟨n.toArray⟩,.string ⟨d.toArray⟩]] V (GiveB V (isR (n,d)))):=CM;have cs:Hid (∀V,Calls Tryz.prog 57 #[.agg #[.string ⟨n.toArray⟩,.string ⟨d.toArray⟩]] V (GiveI V (sgnR (n,d)))):=CS;clear CM CS;generalize isR (n,d)=r at *;generalize sgnR (n,d)=z at *;go_enter Tryz.func35,Tryz.ntmps35;go_wp2_with fail;obtain⟨W,hW,BW,sW,k0,k1⟩:=box1 w (.string ⟨n.toArray⟩) (.string ⟨d.toArray⟩) 23;rw[hW];clear hW sW;have b0:=Below.refl W.heap.size W;have hB:=zh (Nat.le_refl W.heap.size);go_wp2_with fail;refine(cm.out _).mono ?_;rintro e1 w1 ⟨rfl,b⟩;have b1:=Below.more b0 b;clear b
  cases r with
  | false =>
   go_wp2_with fail;go_ret;exact⟨ret_bool (by rw[HE.out];rfl),Below.more BW b1⟩
  | true =>
   go_wp2_with fail;refine(cs.out _).mono ?_;rintro e2 w2 ⟨rfl,b⟩;have b2:=Below.more b1 b;clear b;by_cases c1:m≤z<;>by_cases c2:(n.length:Int)≤20<;>by_cases c3:(d.length:Int)≤20<;>(
    go_wp2_with fail;go_ret;exact⟨ret_bool (by rw[HE.out,Bool.eq_iff_iff];simp;omega),Below.more BW b2⟩)
theorem acword_any(k:Int)(h:0≤k)(h2:k≤4)(w:World):Calls Tryz.prog 24 #[.int .i64 k] w (GiveS w (wordK k)):=by
 rcases(show k=0∨k=1∨k=2∨k=3∨k=4 by omega) with rfl|rfl|rfl|rfl|rfl<;>(
  go_enter Tryz.func24,Tryz.ntmps24;go_wp2_with fail;go_ret;exact⟨rfl,Below.alloc (Below.refl _ _) (Nat.le_refl _) _⟩)
end Go.Proofs.YtcebkcilkhebeaaGreatDoor
set_option maxHeartbeats 4000000
set_option maxRecDepth 100000
namespace Go.Proofs.YtcebkcilkhebeaaGreatDoor
open Go.RowKit
open Ac (oB rB cB assetB numB wordK mayA Actn leastC)
def SzA(a:Actn):Prop:=(a.nm.length≤4611686018427387904∧a.ast.length≤4611686018427387904∧a.oth.length≤4611686018427387904)∧(a.ratio.1.length≤10000∧a.ratio.2.length≤10000)∧a.cash.1.length≤10000∧a.cash.2.length≤10000
theorem acmay_x(nm ast oth rn rd' cn cd:List UInt8)(k ex rc pay:Int)(w:World)(h:SzA ⟨nm,k,ast,oth,(rn,rd'),(cn,cd),ex,rc,pay⟩):Calls Tryz.prog 12 #[.agg #[.string ⟨nm.toArray⟩,.int .i64 k,.string ⟨ast.toArray⟩,.string ⟨oth.toArray⟩,.string ⟨rn.toArray⟩,.string ⟨rd'.toArray⟩,.string ⟨cn.toArray⟩,.string ⟨cd.toArray⟩,.int .i64 ex,.int .i64 rc,.int .i64 pay]] w (GiveB w (mayA ⟨nm,k,ast,oth,(rn,rd'),(cn,cd),ex,rc,pay⟩)):=by
 obtain⟨⟨z1,z2,z3⟩,⟨z4,z5⟩,z6,z7⟩:=h;dsimp only at z1 z2 z3 z4 z5 z6 z7;have CN:Hid (∀V,Calls Tryz.prog 33 #[.string ⟨nm.toArray⟩] V (GiveB V (isName nm))):=zh (fun V=>calm (rbname_any ⟨nm.toArray⟩ V (by rw[size_of];exact z1)));have CA:=zh (fun V=>acasset_any ast V z2);have CO:=zh (fun V=>acasset_any oth V z3);have CK:=zh (fun V=>acnames_any k V);have CR:=zh (fun V=>acnum_any rn rd' (rB k) 1 V z4 z5);have CC:=zh (fun V=>acnum_any cn cd (cB k) (leastC k) V z6 z7);have HE:=zh (show mayA ⟨nm,k,ast,oth,(rn,rd'),(cn,cd),ex,rc,pay⟩=(isName nm&&(assetB ast&&(decide (0≤k)&&(decide (k≤4)&&(decide (0≤ex)&&(decide (ex≤rc)&&(decide (rc≤pay)&&(decide (pay≤9999) &&
  ((if oB k then assetB oth&&!(oth==ast) else oth == [])&&(numB (rn,rd') (rB k) 1&&numB (cn,cd) (cB k) (leastC k))))))))))) from rfl)
 have HL4:=zh (show leastC k=if k=4 then 0 else 1 from rfl);generalize mayA ⟨nm,k,ast,oth,(rn,rd'),(cn,cd),ex,rc,pay⟩=res at *;generalize numB (rn,rd') (rB k) 1=vr at *;generalize numB (cn,cd) (cB k) (leastC k)=vc at *;generalize isName nm=vn at *;generalize assetB ast=va at *;generalize assetB oth=vo at *;generalize oB k=bo at *;generalize rB k=br at *;generalize cB k=bc at *;generalize leastC k=lc at *;clear z1 z2 z3 z4 z5 z6 z7;go_enter Tryz.func12,Tryz.ntmps12;go_wp2_with fail;obtain⟨W,hW,BW,_,kk⟩:=layN (Below.refl w.heap.size w) #[.string ⟨nm.toArray⟩,.int .i64 k,.string ⟨ast.toArray⟩,.string ⟨oth.toArray⟩,.string ⟨rn.toArray⟩,.string ⟨rd'.toArray⟩,.string ⟨cn.toArray⟩,.string ⟨cd.toArray⟩,.int .i64 ex,.int .i64 rc,.int .i64 pay] 25;rw[hW];clear hW;have b0:=Below.refl W.heap.size W;have k0:=kk 0 _ rfl;have k1:=kk 1 _ rfl;have k2:=kk 2 _ rfl;have k3:=kk 3 _ rfl;have k4:=kk 4 _ rfl;have k5:=kk 5 _ rfl;have k6:=kk 6 _ rfl;have k7:=kk 7 _ rfl;have k8:=kk 8 _ rfl;have k9:=kk 9 _ rfl;have k10:=kk 10 _ rfl
 clear kk;go_wp2_with fail;refine(CN.out _).mono ?_;rintro e1 w1 ⟨rfl,b⟩;have b1:=Below.more b0 b;clear b
 cases vn with
 | false =>
  go_wp2_with fail;go_ret;exact⟨ret_bool (by rw[HE.out];simp[*]),Below.more BW b1⟩
 | true =>
 go_wp2_with fail;refine(CA.out _).mono ?_;rintro e2 w2 ⟨rfl,b⟩;have b2:=Below.more b1 b;clear b
 cases va with
 | false =>
  go_wp2_with fail;go_ret;exact⟨ret_bool (by rw[HE.out];simp[*]),Below.more BW b2⟩
 | true =>
 rcases(show k<0∨0≤k∧4<k∨(0≤k∧k≤4)∧ex<0∨(0≤k∧k≤4)∧0≤ex∧rc<ex∨(0≤k∧k≤4)∧(0≤ex∧ex≤rc)∧pay<rc∨(0≤k∧k≤4)∧(0≤ex∧ex≤rc)∧rc≤pay∧9999<pay∨(0≤k∧k≤4)∧(0≤ex∧ex≤rc)∧rc≤pay∧pay≤9999 by omega) with c|⟨c,c'⟩|⟨⟨c,c'⟩,d⟩|⟨⟨c,c'⟩,d,d'⟩|⟨⟨c,c'⟩,⟨d,d'⟩,f⟩|⟨⟨c,c'⟩,⟨d,d'⟩,f,f'⟩|⟨⟨c,c'⟩,⟨d,d'⟩,f,f'⟩
 case inl|inr.inl|inr.inr.inl|inr.inr.inr.inl|inr.inr.inr.inr.inl|inr.inr.inr.inr.inr.inl =>
  go_wp2_with fail;go_ret;exact⟨ret_bool (by
   have HF:Hid (¬(((0≤k∧k≤4)∧0≤ex)∧(ex≤rc∧rc≤pay)∧pay≤9999)):=zh (by omega);have hf:=HF.out;rw[HE.out]
   symm
   simp only[Bool.true_and,Bool.and_eq_false_iff,decide_eq_false_iff_not];omega),Below.more BW b2⟩
 go_wp2_with fail;refine(CK.out _).mono ?_;rintro e3 w3 ⟨rfl,b⟩;have b3:=Below.more b2 b;clear b
 cases bo with
 | true =>
  go_wp2_with fail;refine(CO.out _).mono ?_;rintro e4 w4 ⟨rfl,b⟩;have b4:=Below.more b3 b;clear b
  cases vo with
  | false =>
   go_wp2_with fail;go_ret;exact⟨ret_bool (by rw[HE.out];simp[*]),Below.more BW b4⟩
  | true =>
   cases hq:(oth==ast) with
   | true =>
    go_wp2_with fail;go_ret;exact⟨ret_bool (by rw[HE.out];simp[*]),Below.more BW b4⟩
   | false =>
    by_cases h4:k=4
    ·have hl4:lc=0:=by rw[HL4.out,if_pos h4]
     subst hl4;go_wp2_with fail;refine(CR.out _).mono ?_;rintro e5 w5 ⟨rfl,b⟩;have b5:=Below.more b4 b;clear b
     cases vr with
     | false =>
      go_wp2_with fail;go_ret;exact⟨ret_bool (by rw[HE.out];simp[*]),Below.more BW b5⟩
     | true =>
      go_wp2_with fail;refine(CC.out _).mono ?_;rintro e6 w6 ⟨rfl,b⟩;have b6:=Below.more b5 b;clear b
      cases vc<;>(
       go_wp2_with fail;go_ret;exact⟨ret_bool (by rw[HE.out];simp[*]),Below.more BW b6⟩)
    ·have hl4:lc=1:=by rw[HL4.out,if_neg h4]
     subst hl4;go_wp2_with fail;refine(CR.out _).mono ?_;rintro e5 w5 ⟨rfl,b⟩;have b5:=Below.more b4 b;clear b
     cases vr with
     | false =>
      go_wp2_with fail;go_ret;exact⟨ret_bool (by rw[HE.out];simp[*]),Below.more BW b5⟩
     | true =>
      go_wp2_with fail;refine(CC.out _).mono ?_;rintro e6 w6 ⟨rfl,b⟩;have b6:=Below.more b5 b;clear b
      cases vc<;>(
       go_wp2_with fail;go_ret;exact⟨ret_bool (by rw[HE.out];simp[*]),Below.more BW b6⟩)
 | false =>
  cases hq:(oth == []) with
  | false =>
   go_wp2_with fail;go_ret;exact⟨ret_bool (by rw[HE.out];simp[*]),Below.more BW b3⟩
  | true =>
   by_cases h4:k=4
   ·have hl4:lc=0:=by rw[HL4.out,if_pos h4]
    subst hl4;go_wp2_with fail;refine(CR.out _).mono ?_;rintro e5 w5 ⟨rfl,b⟩;have b5:=Below.more b3 b;clear b
    cases vr with
    | false =>
     go_wp2_with fail;go_ret;exact⟨ret_bool (by rw[HE.out];simp[*]),Below.more BW b5⟩
    | true =>
     go_wp2_with fail;refine(CC.out _).mono ?_;rintro e6 w6 ⟨rfl,b⟩;have b6:=Below.more b5 b;clear b
     cases vc<;>(
      go_wp2_with fail;go_ret;exact⟨ret_bool (by rw[HE.out];simp[*]),Below.more BW b6⟩)
   ·have hl4:lc=1:=by rw[HL4.out,if_neg h4]
    subst hl4;go_wp2_with fail;refine(CR.out _).mono ?_;rintro e5 w5 ⟨rfl,b⟩;have b5:=Below.more b3 b;clear b
    cases vr with
    | false =>
     go_wp2_with fail;go_ret;exact⟨ret_bool (by rw[HE.out];simp[*]),Below.more BW b5⟩
    | true =>
     go_wp2_with fail;refine(CC.out _).mono ?_;rintro e6 w6 ⟨rfl,b⟩;have b6:=Below.more b5 b;clear b
     cases vc<;>(
      go_wp2_with fail;go_ret;exact⟨ret_bool (by rw[HE.out];simp[*]),Below.more BW b6⟩)
theorem acmay_any(a:Actn)(w:World)(h:SzA a):Calls Tryz.prog 12 #[.agg #[.string ⟨a.nm.toArray⟩,.int .i64 a.kind,.string ⟨a.ast.toArray⟩,.string ⟨a.oth.toArray⟩,.string ⟨a.ratio.1.toArray⟩,.string ⟨a.ratio.2.toArray⟩,.string ⟨a.cash.1.toArray⟩,.string ⟨a.cash.2.toArray⟩,.int .i64 a.ex,.int .i64 a.rc,.int .i64 a.pay]] w (GiveB w (mayA a)) :=
 acmay_x a.nm a.ast a.oth a.ratio.1 a.ratio.2 a.cash.1 a.cash.2 a.kind a.ex a.rc a.pay w h
end Go.Proofs.YtcebkcilkhebeaaGreatDoor
