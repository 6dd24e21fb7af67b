/- Own work. -/
import Derived.Laws.AppendOwn
import Derived.Laws.OwnMore
import Derived.Deep.CutRange
import Derived.Test.YthgopcnagecbaaaGreatDoorAllRefF
set_option linter.unusedSimpArgs false
set_option linter.unusedVariables false
namespace Go.Proofs.YthgopcnagecbaaaGreatDoor
open Go.RowKit
end Go.Proofs.YthgopcnagecbaaaGreatDoor
namespace Go.Proofs.YthgopcnagecbaaaGreatDoor
open Go.RowKit
end Go.Proofs.YthgopcnagecbaaaGreatDoor
namespace Go.Proofs.YthgopcnagecbaaaGreatDoor
open Go.RowKit
end Go.Proofs.YthgopcnagecbaaaGreatDoor
namespace Go.Proofs.YthgopcnagecbaaaGreatDoor
open Go.RowKit
end Go.Proofs.YthgopcnagecbaaaGreatDoor
set_option maxHeartbeats 4000000
set_option maxRecDepth 100000
namespace Go.Proofs.YthgopcnagecbaaaGreatDoor
open Go.RowKit
theorem rfsmall_any(p:Option Addr)(c:Nat)(l:List Fx.Fix)(w:World)(hc:l.length≤c)(hl:l.length≤4611686018427387904)(h:Fxs w p l) :
  Calls Tryz.prog 10 #[.slice p l.length c] w (GiveB w (smallX l)):=by
 have HS:=zh h;clear h;go_enter Tryz.func10,Tryz.ntmps10
 go_wp2
 go_loopw [3] (fun i wr=>∃k:Nat,k≤l.length∧i=.int .i64 k∧Hid (∀ (j:Nat) (x:Fx.Fix),j<k→l[j]?=some x→smX x=true)∧Below w.heap.size w wr) (fun i _=>l.length-(intOf i).toNat)
 case atStart=>exact⟨0,Nat.zero_le _,rfl,fun j x h=>absurd h (Nat.not_lt_zero j),Below.refl _ _⟩
 case round =>
  obtain⟨k,hk,rfl,HJ,hw⟩:=hrel;by_cases hlt:k<l.length
  ·obtain⟨⟨⟨a,d⟩,⟨n,e⟩⟩,hx⟩:∃x,l[k]?=some x:=⟨_,List.getElem?_eq_getElem hlt⟩;obtain⟨b,o,rfl,k0,k1,k2,k3⟩:=fx_rule (HS.out.below hw) hx;have HX:=zh hx;have HW:=zh hw
   clear hx hw;have b0:=Below.refl wr.heap.size wr;by_cases h1:(40:Int)<(n.length:Int)
   ·have HO:Hid (smallX l=false):=zh (smallX_stop HX.out (by cases c:smX ((a,d),(n,e)) with|false=>rfl|true=>exact absurd (show n.length≤40 from (smX_iff.1 c).1) (by omega)));go_wp2_with fail;go_ret;exact⟨ret_bool (by rw[HO.out]),HW.out⟩
   ·by_cases h2:(40:Int)<(e.length:Int)
    ·have HO:Hid (smallX l=false):=zh (smallX_stop HX.out (by cases c:smX ((a,d),(n,e)) with|false=>rfl|true=>exact absurd (show e.length≤40 from (smX_iff.1 c).2.1) (by omega)));go_wp2_with fail;go_ret;exact⟨ret_bool (by rw[HO.out]),HW.out⟩
    ·by_cases h3:(100:Int)<(a.length:Int)
     ·have HO:Hid (smallX l=false):=zh (smallX_stop HX.out (by cases c:smX ((a,d),(n,e)) with|false=>rfl|true=>exact absurd (show a.length≤100 from (smX_iff.1 c).2.2) (by omega)));go_wp2_with fail;go_ret;exact⟨ret_bool (by rw[HO.out]),HW.out⟩
     ·have HO:Hid (smX ((a,d),(n,e))=true):=zh (smX_iff.2 ⟨by show n.length≤40;omega,by show e.length≤40;omega,by show a.length≤100;omega⟩);go_wp2_with fail;go_roundw
      case rel=>exact⟨k+1,hlt,by go_num,moreK (P:=fun _ y=>smX y=true) HJ.out HX.out HO.out,HW.out⟩
      case measure=>simp[intOf];omega
  ·obtain rfl:k=l.length:=by omega
   have HR:=zh (smallX_end HJ.out);have HW:=zh hw;clear hw
   by_cases h60:(l.length:Int)≤60
   ·have HD:Hid (decide (l.length≤60)=true):=zh (decide_eq_true (by omega));go_wp2_with fail;go_ret;exact⟨ret_bool (by rw[HR.out,HD.out]),HW.out⟩
   ·have HD:Hid (decide (l.length≤60)=false):=zh (decide_eq_false (by omega));go_wp2_with fail;go_ret;exact⟨ret_bool (by rw[HR.out,HD.out]),HW.out⟩
end Go.Proofs.YthgopcnagecbaaaGreatDoor
namespace Go.Proofs.YthgopcnagecbaaaGreatDoor
open Go.RowKit
end Go.Proofs.YthgopcnagecbaaaGreatDoor
set_option maxHeartbeats 4000000
set_option maxRecDepth 100000
namespace Go.Proofs.YthgopcnagecbaaaGreatDoor
open Go.RowKit
open Ac (oB rB cB assetB numB wordK mayA Actn leastC)
theorem ac_zero(V:World):Calls Tryz.prog 23 #[.int .i64 0] V (GiveR V ([48],[49])):=by
 have h:=rqof_any 0 V (by decide) (by decide);rw[show wd 0=[48] by decide +kernel]at h;exact h
theorem layN{V w:World}(h:Below V.heap.size V w)(cs:Array Value)(t:TypeId):∃U,w.alloc (.cells cs t)=U∧Below V.heap.size V U∧w.heap.size+1=U.heap.size∧∀ (j:Nat) (u:Value),cs[j]?=some u→∀v,Below U.heap.size U v→v.cell? ⟨w.heap.size,j,none⟩=some u :=
 ⟨_,rfl,h.alloc h.size _,by simp,fun j u e v hv=>(hv.cell (p:=⟨w.heap.size,j,none⟩) (by simp)).trans ((cell_new w _ cs t rfl j).trans e)⟩
theorem acnames_any(k:Int)(w:World):Calls Tryz.prog 57 #[.int .i64 k] w (fun e w'=>e=.returned (.tuple #[.bool (oB k),.bool (rB k),.bool (cB k)])∧Below w.heap.size w w'):=by
 have HO:=zh (show oB k=decide (3≤k) from rfl);have HR:=zh (show rB k=!decide (k=2) from rfl);have HC:=zh (show cB k=(decide (k=2)||decide (k=4)) from rfl)
 rcases(show k=2∨k=4∨(¬k=2∧¬k=4)∧3≤k∨(¬k=2∧¬k=4)∧¬3≤k by omega) with rfl|rfl|⟨⟨h1,h2⟩,h3⟩|⟨⟨h1,h2⟩,h3⟩<;>(
  go_enter Tryz.func57,Tryz.ntmps57;go_wp2_with fail
  go_ret3
  exact⟨by rw[HO.out,HR.out,HC.out];simp[*],Below.refl _ _⟩)
theorem asset_eq{s:ByteArray}(h0:0<s.size)(hn:isName s.data.toList=true):assetB s.data.toList=(!decide ((s[0].toNat:Int)=33)&&((decide ((s[0].toNat:Int)<48)||decide ((57:Int)<(s[0].toNat:Int)))&&!decide (s.toList=[99,97,115,104]))):=by
 obtain⟨c,r,hs⟩:∃c r,s.data.toList=c::r:=by
  cases e:s.data.toList with
  | nil=>have:s.data.toList.length=s.size:=rfl;rw[e]at this;simp at this;omega
  | cons c r=>exact⟨c,r,rfl⟩
 have hc:s[0]=c:=by
  have h1:s.data.toList[0]?=some c:=by rw[hs];rfl
  have h2:s.data.toList[0]?=some s[0]:=by
   rw[Array.getElem?_toList];exact Array.getElem?_eq_getElem h0
  exact Option.some.inj (h2.symm.trans h1)
 have hq:decide (s.toList=[99,97,115,104])=(s.data.toList == [99,97,115,104]):=by
  rw[ByteArray.toList_eq,Bool.eq_iff_iff,beq_iff_eq,decide_eq_true_iff]
 unfold assetB;rw[hn,hq,hs,hc];have e1:(some c==some (33:UInt8))=decide ((c.toNat:Int)=33):=by
  rw[Bool.eq_iff_iff];simp;constructor
  ·intro e;rw[e];rfl
  ·intro e;exact UInt8.toNat_inj.1 (by rw[show (33:UInt8).toNat=33 from rfl];omega)
 have e2:isDig c=!(decide ((c.toNat:Int)<48)||decide ((57:Int)<(c.toNat:Int))):=by
  unfold isDig;rw[Bool.eq_iff_iff];simp;omega
 show (true&&(!(some c==some 33)&&(!isDig c&&!(c::r == [99,97,115,104]))))=_;rw[e1,e2,Bool.not_not,Bool.true_and]
theorem acasset_b(s:ByteArray)(w:World)(hs:s.size≤4611686018427387904):Calls Tryz.prog 56 #[.string s] w (GiveB w (assetB s.data.toList)):=by
 have CN:=zh (fun V=>calm (rbname_any s V hs));have b0:=Below.refl w.heap.size w
 cases hn:isName s.data.toList with
 | false =>
  have HE:Hid (assetB s.data.toList=false):=zh (by unfold assetB;rw[hn];rfl);rw[hn]at CN;clear hn;go_enter Tryz.func56,Tryz.ntmps56;go_wp2_with fail;refine(CN.out _).mono ?_;rintro e w1 ⟨rfl,b⟩;go_wp2_with fail;go_ret;exact⟨ret_bool (by rw[HE.out]),b⟩
 | true =>
  have h0:0<s.size:=by
   have:s.data.toList.length=s.size:=rfl
   cases e:s.data.toList with
   | nil=>rw[e]at hn;exact absurd hn (by decide)
   | cons c r=>rw[e]at this;simp at this;omega
  have HE:=zh (asset_eq h0 hn);rw[hn]at CN;clear hn;by_cases c1:(s[0].toNat:Int)=33<;>by_cases c2:(s[0].toNat:Int)<48<;>by_cases c3:(57:Int)<(s[0].toNat:Int)<;>by_cases c4:s.toList=[99,97,115,104]<;>(
   go_enter Tryz.func56,Tryz.ntmps56;go_wp2_with fail;refine(CN.out _).mono ?_;rintro e w1 ⟨rfl,b⟩;go_wp2_with fail;go_ret;exact⟨ret_bool (by rw[HE.out];simp[*]),b⟩)
theorem acasset_any(s:List UInt8)(w:World)(hs:s.length≤4611686018427387904):Calls Tryz.prog 56 #[.string ⟨s.toArray⟩] w (GiveB w (assetB s)):=acasset_b ⟨s.toArray⟩ w (by rw[size_of];exact hs)
theorem acnum_any(n d:List UInt8)(nb:Bool)(m:Int)(w:World)(h1:n.length≤10000)(h2:d.length≤10000):Calls Tryz.prog 58 #[.agg #[.string ⟨n.toArray⟩,.string ⟨d.toArray⟩],.bool nb,.int .i64 m] w (GiveB w (numB (n,d) nb m)):=by
 cases nb with
 | false =>
  have HE:=zh (show numB (n,d) false m=((n,d)==([48],[49])) from rfl);rcases Classical.propComplete (n=[48]) with q1|q1<;>rcases Classical.propComplete (d=[49]) with q2|q2<;>(
  go_enter Tryz.func58,Tryz.ntmps58;go_wp2_with fail;obtain⟨W,hW,BW,sW,k0,k1⟩:=box1 w (.string ⟨n.toArray⟩) (.string ⟨d.toArray⟩) 23;rw[hW];clear hW sW;have b0:=Below.refl W.heap.size W;have hB:=zh (Nat.le_refl W.heap.size);go_wp2_with fail;refine wp_region_noPanic ?_;refine wp_region_held_drew (S:=fun w'=>Below W.heap.size W w') (by kernel_rfl) (b0.drew) (fun hH0=>?_);refine sch_in [0] ?_
  iterate 1 (refine sch_yes (v:=?_) rfl (by kernel_rfl) (by rfl) ?_ (by assumption) ?_;rotate_left 1;(· (intro w hSw;(try dsimp only at hSw);go_simp<;>(with_reducible rfl)));try simp only[Act.put,qA,qB,qC,qD,qE,qF])
  refine sch_out ?_;refine wpAnyH_ready (rs:=[1]) (by kernel_rfl) (by simp) ?_;refine AllReadyH.cons rfl (fun K hK=>?_) AllReadyH.nil
  go_simp
  refine(held (W:=W) hB.out (ac_zero _) hH0).mono ?_;rintro e x2 ⟨rfl,hb,hw⟩
  (try go_wp2_with fail)
  refine hK.out _ _ hw (fun hH1=>?_);clear hK hH0 hb
  try simp only[Act.put,qA,qB,qC,qD,qE,qF]
  refine sch_in [2,3] ?_
  iterate 2 (refine sch_yes (v:=?_) rfl (by kernel_rfl) (by rfl) ?_ (by assumption) ?_;rotate_left 1;(· (intro w hSw;(try dsimp only at hSw);go_simp<;>(try simp only[q1,q2,if_true,if_false])<;>(with_reducible rfl)));try simp only[Act.put,qA,qB,qC,qD,qE,qF])
  refine sch_out ?_;refine wpAnyH_done (by kernel_rfl) ?_ _;refine NoPanic.normal ?_;go_wp2_with fail;go_ret;exact⟨ret_bool (by rw[HE.out];simp[q1,q2]),Below.more BW hw⟩)
 | true =>
  have HE:=zh (show numB (n,d) true m=(isR (n,d)&&(decide (m≤sgnR (n,d))&&(decide (n.length≤20)&&decide (d.length≤20)))) from rfl);have CM:=zh (fun V=>rqmay_any ⟨n.toArray⟩ ⟨d.toArray⟩ V (by rw[size_of];omega) (by rw[size_of];omega));have CS:=zh (fun V=>rqsign_any ⟨n.toArray⟩ ⟨d.toArray⟩ V (by rw[size_of];omega) (by rw[size_of];omega));have cm:Hid (∀V,Calls Tryz.prog 21 #[.agg #[.string ⟨n.toArray⟩,.string ⟨d.toArray⟩]] V (GiveB V (isR (n,d)))):=CM;have cs:Hid (∀V,Calls Tryz.prog 25 #[.agg #[.string ⟨n.toArray⟩,.string ⟨d.toArray⟩]] V (GiveI V (sgnR (n,d)))):=CS;clear CM CS;generalize isR (n,d)=r at *;generalize sgnR (n,d)=z at *;go_enter Tryz.func58,Tryz.ntmps58;go_wp2_with fail;obtain⟨W,hW,BW,sW,k0,k1⟩:=box1 w (.string ⟨n.toArray⟩) (.string ⟨d.toArray⟩) 23;rw[hW];clear hW sW;have b0:=Below.refl W.heap.size W;have hB:=zh (Nat.le_refl W.heap.size);go_wp2_with fail;refine(cm.out _).mono ?_;rintro e1 w1 ⟨rfl,b⟩;have b1:=Below.more b0 b;clear b
  cases r with
  | false =>
   go_wp2_with fail;go_ret;exact⟨ret_bool (by rw[HE.out];rfl),Below.more BW b1⟩
  | true =>
   go_wp2_with fail;refine(cs.out _).mono ?_;rintro e2 w2 ⟨rfl,b⟩;have b2:=Below.more b1 b;clear b;by_cases c1:m≤z<;>by_cases c2:(n.length:Int)≤20<;>by_cases c3:(d.length:Int)≤20<;>(
    go_wp2_with fail;go_ret;exact⟨ret_bool (by rw[HE.out,Bool.eq_iff_iff];simp;omega),Below.more BW b2⟩)
end Go.Proofs.YthgopcnagecbaaaGreatDoor
