/- Own work. -/
import Derived.Test.YtghioekjghmdaaaGreatDoorTk
import Derived.Test.YtghioekjghmdaaaGreatDoorEvLiM
set_option linter.unusedSimpArgs false
set_option linter.unusedVariables false
set_option maxHeartbeats 4000000
set_option maxRecDepth 100000
namespace Go.Proofs.YtghioekjghmdaaaGreatDoor
open Go.RowKit
theorem nan_any(x:Int)(w:World):Calls Tryz.prog 117 #[.int .i64 x] w fun e w'=>e=.returned (.bool false)∧w=w':=by
 go_enter Tryz.func117,Tryz.ntmps117;go_wp2_with fail;go_ret;exact⟨by simp,rfl⟩
theorem ccmp_any(x y:Int)(w:World):Calls Tryz.prog 93 #[.int .i64 x,.int .i64 y] w (GiveI w (Fx.cmpZ x y)):=by
 have N1:=zh (nan_any x);have N2:=zh (nan_any y)
 by_cases h1:x<y
 ·have HO:Hid (Fx.cmpZ x y=-1):=zh (by unfold Fx.cmpZ;rw[if_pos h1]);go_enter Tryz.func93,Tryz.ntmps93;go_wp2_with fail;refine(N1.out _).mono ?_;rintro e w' ⟨rfl,rfl⟩;go_wp2_with fail;refine(N2.out _).mono ?_;rintro e w' ⟨rfl,rfl⟩;go_wp2_with fail;go_ret;exact⟨ret_int (by rw[HO.out]),Below.refl _ _⟩
 ·by_cases h2:y<x
  ·have HO:Hid (Fx.cmpZ x y=1):=zh (by unfold Fx.cmpZ;rw[if_neg h1,if_pos h2]);go_enter Tryz.func93,Tryz.ntmps93;go_wp2_with fail;refine(N1.out _).mono ?_;rintro e w' ⟨rfl,rfl⟩;go_wp2_with fail;refine(N2.out _).mono ?_;rintro e w' ⟨rfl,rfl⟩;go_wp2_with fail;go_ret;exact⟨ret_int (by rw[HO.out]),Below.refl _ _⟩
  ·have HO:Hid (Fx.cmpZ x y=0):=zh (by unfold Fx.cmpZ;rw[if_neg h1,if_neg h2]);go_enter Tryz.func93,Tryz.ntmps93;go_wp2_with fail;refine(N1.out _).mono ?_;rintro e w' ⟨rfl,rfl⟩;go_wp2_with fail;refine(N2.out _).mono ?_;rintro e w' ⟨rfl,rfl⟩;go_wp2_with fail;go_ret;exact⟨ret_int (by rw[HO.out]),Below.refl _ _⟩
theorem forder_any(a:List UInt8)(d:Int)(n e c:List UInt8)(f:Int)(m g:List UInt8)(w:World) :
  Calls Tryz.prog 54 #[.agg #[.string ⟨a.toArray⟩,.int .i64 d,.string ⟨n.toArray⟩,.string ⟨e.toArray⟩],.agg #[.string ⟨c.toArray⟩,.int .i64 f,.string ⟨m.toArray⟩,.string ⟨g.toArray⟩]] w (GiveI w (Fx.ordF (a,d) (c,f))):=by
 have c1:=fun w=>scmp_any a c w;have c2:=fun w=>ccmp_any d f w;have HO:Hid (Fx.ordF (a,d) (c,f)=orZ (Lib.compareBytes a c) (Fx.cmpZ d f)):=zh rfl;generalize Fx.ordF (a,d) (c,f)=o at *;generalize Lib.compareBytes a c=x at *;generalize Fx.cmpZ d f=y at *;have C1:=zh c1;have C2:=zh c2;clear c1 c2
 go_enter Tryz.func54,Tryz.ntmps54;go_wp2_with fail;obtain⟨U1,hU,bU,s1,rx0,rx1,rx2,rx3⟩:=lay4 (Below.refl w.heap.size w) (.string ⟨a.toArray⟩) (.int .i64 d) (.string ⟨n.toArray⟩) (.string ⟨e.toArray⟩) 39;rw[hU];clear hU;obtain⟨U2,hU,bV,s2,ry0,ry1,ry2,ry3⟩:=lay4 (Below.refl U1.heap.size U1) (.string ⟨c.toArray⟩) (.int .i64 f) (.string ⟨m.toArray⟩) (.string ⟨g.toArray⟩) 39;rw[hU];clear hU;replace rx0:=fun v (h:Below U2.heap.size U2 v)=>rx0 v (Below.more bV h);replace rx1:=fun v (h:Below U2.heap.size U2 v)=>rx1 v (Below.more bV h);rw[←s1]at ry0 ry1;have BW:=Below.more bU bV;have b0:=Below.refl U2.heap.size U2;have hB:=zh (Nat.le_refl U2.heap.size);clear bU bV rx2 rx3 ry2 ry3 s1 s2
 first|(go_region_held3 (fun w'=>Below U2.heap.size U2 w')
    (first|(exact b0.drew)|(with_reducible assumption)|(exact Below.alloc (by with_reducible assumption) (Nat.le_trans hB.out (Below.size (by with_reducible assumption))) _)|(exact put2 (by with_reducible assumption) (Nat.le_refl _) _ _)|(exact put2 (by with_reducible assumption) hB.out _ _)|(exact put2 (by with_reducible assumption) (Nat.le_trans hB.out (Below.size (by with_reducible assumption))) _ _))
    (first|(go_at_call 92;(with_reducible show Calls _ _ #[.string ⟨a.toArray⟩,.string ⟨c.toArray⟩] _ _);(with_reducible refine(held (W:=U2) hB.out (C1.out _) (by assumption)).mono ?_);rintro e w'' ⟨rfl,hb,hw⟩;(first|(have hz:=zc_made0 hb)|(have hz:=zc_made hb)|skip);(try have hz:=Zc.below (by assumption) hb);(try (have z0:=hz.c0;have z1:=hz.c1;have z2:=hz.f0;have z3:=hz.f1)))|(go_at_call 93;(with_reducible refine(held (W:=U2) hB.out (C2.out _) (by assumption)).mono ?_);rintro e w'' ⟨rfl,hb,hw⟩;(first|(have hz:=zc_made0 hb)|(have hz:=zc_made hb)|skip);(try have hz:=Zc.below (by assumption) hb);(try (have z0:=hz.c0;have z1:=hz.c1;have z2:=hz.f0;have z3:=hz.f1)))|(go_at_call 91;(with_reducible refine(held (W:=U2) hB.out (or_new _ _ _ _) (by assumption)).mono ?_);rintro e w'' ⟨rfl,hb,hw⟩;(first|(have hz:=zc_made0 hb)|(have hz:=zc_made hb)|skip);(try have hz:=Zc.below (by assumption) hb);(try (have z0:=hz.c0;have z1:=hz.c1;have z2:=hz.f0;have z3:=hz.f1)))))|fail
 all_goals (go_wp2_with fail)
 all_goals go_ret
 all_goals (exact⟨ret_int (by rw[HO.out]),Below.more BW (by with_reducible assumption)⟩)
theorem fm_0{a n e:List UInt8}{d:Int}  (w:World)
  (CN:Hid (∀w,Calls Tryz.prog 89 #[.string ⟨a.toArray⟩] w (GiveB w false))) :
  Calls Tryz.prog 53 #[.agg #[.string ⟨a.toArray⟩,.int .i64 d,.string ⟨n.toArray⟩,.string ⟨e.toArray⟩]] w (GiveB w (false)):=by
 have HT:Hid (NoB w):=zh (noB w);go_enter Tryz.func53,Tryz.ntmps53;go_wp2_with fail;have BW:=Below.refl w.heap.size w;have b0:Below w.heap.size w w:=Below.refl _ _;obtain⟨U1,hU,bU,s1,rx0,rx1,rx2,rx3⟩:=lay4 b0 (.string ⟨a.toArray⟩) (.int .i64 d) (.string ⟨n.toArray⟩) (.string ⟨e.toArray⟩) 39;rw[hU];clear hU;clear s1;replace BW:=Below.more BW bU;replace HT:=zh (HT.out.below bU);clear bU;have b1:=Below.refl U1.heap.size U1;go_wp2_with fail;refine(CN.out _).mono ?_;rintro e w2 ⟨rfl,b⟩;have b2:=Below.more b1 b;clear b;go_wp2_with fail;go_ret;exact⟨ret_bool (by first|rfl|simp[*]),Below.more BW b2⟩
theorem fm_1{a n e:List UInt8}{d:Int}(h:¬0≤d)(w:World)
  (CN:Hid (∀w,Calls Tryz.prog 89 #[.string ⟨a.toArray⟩] w (GiveB w true))) :
  Calls Tryz.prog 53 #[.agg #[.string ⟨a.toArray⟩,.int .i64 d,.string ⟨n.toArray⟩,.string ⟨e.toArray⟩]] w (GiveB w (false)):=by
 have HT:Hid (NoB w):=zh (noB w);go_enter Tryz.func53,Tryz.ntmps53;go_wp2_with fail;have BW:=Below.refl w.heap.size w;have b0:Below w.heap.size w w:=Below.refl _ _;obtain⟨U1,hU,bU,s1,rx0,rx1,rx2,rx3⟩:=lay4 b0 (.string ⟨a.toArray⟩) (.int .i64 d) (.string ⟨n.toArray⟩) (.string ⟨e.toArray⟩) 39;rw[hU];clear hU;clear s1;replace BW:=Below.more BW bU;replace HT:=zh (HT.out.below bU);clear bU;have b1:=Below.refl U1.heap.size U1;go_wp2_with fail;refine(CN.out _).mono ?_;rintro e w2 ⟨rfl,b⟩;have b2:=Below.more b1 b;clear b;go_wp2_with fail;go_ret;exact⟨ret_bool (by first|rfl|simp[*]),Below.more BW b2⟩
theorem fm_2{a n e:List UInt8}{d:Int}(h:0≤d)(h2:¬d≤9999)(w:World)
  (CN:Hid (∀w,Calls Tryz.prog 89 #[.string ⟨a.toArray⟩] w (GiveB w true))) :
  Calls Tryz.prog 53 #[.agg #[.string ⟨a.toArray⟩,.int .i64 d,.string ⟨n.toArray⟩,.string ⟨e.toArray⟩]] w (GiveB w (false)):=by
 have HT:Hid (NoB w):=zh (noB w);go_enter Tryz.func53,Tryz.ntmps53;go_wp2_with fail;have BW:=Below.refl w.heap.size w;have b0:Below w.heap.size w w:=Below.refl _ _;obtain⟨U1,hU,bU,s1,rx0,rx1,rx2,rx3⟩:=lay4 b0 (.string ⟨a.toArray⟩) (.int .i64 d) (.string ⟨n.toArray⟩) (.string ⟨e.toArray⟩) 39;rw[hU];clear hU;clear s1;replace BW:=Below.more BW bU;replace HT:=zh (HT.out.below bU);clear bU;have b1:=Below.refl U1.heap.size U1;go_wp2_with fail;refine(CN.out _).mono ?_;rintro e w2 ⟨rfl,b⟩;have b2:=Below.more b1 b;clear b;go_wp2_with fail;go_ret;exact⟨ret_bool (by first|rfl|simp[*]),Below.more BW b2⟩
theorem fm_3{a n e:List UInt8}{d:Int}(h:0≤d)(h2:d≤9999){b:Bool}(w:World)
  (CN:Hid (∀w,Calls Tryz.prog 89 #[.string ⟨a.toArray⟩] w (GiveB w true)))
  (CM:Hid (∀w,Calls Tryz.prog 90 #[.agg #[.string ⟨n.toArray⟩,.string ⟨e.toArray⟩]] w (GiveB w b))) :
  Calls Tryz.prog 53 #[.agg #[.string ⟨a.toArray⟩,.int .i64 d,.string ⟨n.toArray⟩,.string ⟨e.toArray⟩]] w (GiveB w (b)):=by
 have HT:Hid (NoB w):=zh (noB w);go_enter Tryz.func53,Tryz.ntmps53;go_wp2_with fail;have BW:=Below.refl w.heap.size w;have b0:Below w.heap.size w w:=Below.refl _ _;obtain⟨U1,hU,bU,s1,rx0,rx1,rx2,rx3⟩:=lay4 b0 (.string ⟨a.toArray⟩) (.int .i64 d) (.string ⟨n.toArray⟩) (.string ⟨e.toArray⟩) 39;rw[hU];clear hU;clear s1;replace BW:=Below.more BW bU;replace HT:=zh (HT.out.below bU);clear bU;have b1:=Below.refl U1.heap.size U1;go_wp2_with fail;refine(CN.out _).mono ?_;rintro e w2 ⟨rfl,b⟩;have b2:=Below.more b1 b;clear b;go_wp2_with fail;refine(CM.out _).mono ?_;rintro e w3 ⟨rfl,b⟩;have b3:=Below.more b2 b;clear b;go_wp2_with fail;go_ret;exact⟨ret_bool (by first|rfl|simp[*]),Below.more BW b3⟩
theorem fmay1_any(a:List UInt8)(d:Int)(n e:List UInt8)(w:World)(hz:SzX ((a,d),(n,e))) :
  Calls Tryz.prog 53 #[.agg #[.string ⟨a.toArray⟩,.int .i64 d,.string ⟨n.toArray⟩,.string ⟨e.toArray⟩]] w (GiveB w (Fx.okF ((a,d),(n,e)))):=by
 obtain⟨z1,z2,z3⟩:=hz;dsimp only at z1 z2 z3;have cn:∀w,Calls Tryz.prog 89 #[.string ⟨a.toArray⟩] w (GiveB w (isName a)):=fun w=>bname_any ⟨a.toArray⟩ w;have cm:∀w,Calls Tryz.prog 90 #[.agg #[.string ⟨n.toArray⟩,.string ⟨e.toArray⟩]] w (GiveB w (isR (n,e))):=fun w=>qmay_any ⟨n.toArray⟩ ⟨e.toArray⟩ w (by rw[size_of];omega) (by rw[size_of];omega);have k:Fx.okF ((a,d),(n,e))=(isName a&&(decide (0≤d)&&(decide (d≤9999)&&isR (n,e)))):=rfl;rw[k];clear k
 cases h1:isName a with
 | false=>rw[h1]at cn;exact fm_0 w (zh cn)
 | true =>
 rw[h1]at cn;by_cases h2:0≤d
 ·rw[decide_eq_true h2];by_cases h3:d≤9999
  ·rw[decide_eq_true h3];exact fm_3 h2 h3 w (zh cn) (zh cm)
  ·rw[decide_eq_false h3];exact fm_2 h2 h3 w (zh cn)
 ·rw[decide_eq_false h2];exact fm_1 h2 w (zh cn)
def GiveF(w:World)(l:List Fx.Fix)(k:Fx.FK)(e:Ending)(w':World):Prop:=(∃ (i:Nat) (b:Bool),e=.returned (.tuple #[.int .i64 i,.bool b])∧i≤l.length∧(b=true→i<l.length)∧(l.Pairwise (fun x y=>Fx.lessF x.1 y.1=true)→i=Fx.rankF l k∧b=Fx.thereF l k))∧Below w.heap.size w w'
theorem ret_ib2{i:Nat}{a b:Bool}(k:a=b):Ending.returned (.tuple #[.int .i64 i,.bool a])=.returned (.tuple #[.int .i64 i,.bool b]):=by rw[k]
end Go.Proofs.YtghioekjghmdaaaGreatDoor
set_option maxHeartbeats 4000000
set_option maxRecDepth 100000
namespace Go.Proofs.YtghioekjghmdaaaGreatDoor
open Go.RowKit
theorem bool_t{b:Bool}(h:true=!b):b=false:=by cases b<;>simp at h ⊢
theorem bool_f{b:Bool}(h:false=!b):b=true:=by cases b<;>simp at h ⊢
theorem ffmay_any(p:Option Addr)(c:Nat)(l:List Fx.Fix)(w:World)(hc:l.length≤c)(hl:l.length≤1000000)(hz:∀x∈l,SzX x)(h:Fxs w p l) :
  Calls Tryz.prog 30 #[.slice p l.length c] w (GiveB w (Fx.mayF l)):=by
 have HS:=zh h;have HZ:=zh hz;clear h hz
 go_enter Tryz.func30,Tryz.ntmps30
 go_wp2
 go_loopw [7] (fun i wr=>∃k:Nat,k≤l.length∧i=.int .i64 k∧Hid (∀j,j<k→Fx.okAtF l j=true)∧Below w.heap.size w wr) (fun i _=>l.length-(intOf i).toNat)
 case atStart=>exact⟨0,Nat.zero_le _,rfl,fun j h=>absurd h (Nat.not_lt_zero j),Below.refl _ _⟩
 case round =>
  obtain⟨k,hk,rfl,HJ,hw⟩:=hrel;by_cases hlt:k<l.length
  ·obtain⟨⟨⟨a,d⟩,⟨n,e⟩⟩,hx⟩:∃x,l[k]?=some x:=⟨_,List.getElem?_eq_getElem hlt⟩;obtain⟨b,o,rfl,k0,k1,k2,k3⟩:=fx_rule (HS.out.below hw) hx;have cl:=fun w=>fmay1_any a d n e w (HZ.out _ (List.mem_of_getElem? hx));have bw:=Below.refl wr.heap.size wr
   cases h1:Fx.okF ((a,d),(n,e)) with
   | false =>
    have HO:Hid (Fx.mayF l=false):=zh (Fx.mayF_stop hlt (Fx.okF_no hx h1));rw[h1]at cl;clear hx h1;have CL:=zh cl;clear cl
    go_upto_region 4 with fail
    obtain⟨U,hU,bU,s1,r0,r1,r2,r3⟩:=lay4 (Below.refl wr.heap.size wr) (.string ⟨a.toArray⟩) (.int .i64 d) (.string ⟨n.toArray⟩) (.string ⟨e.toArray⟩) 39;rw[hU];clear hU s1;replace k0:=fun v (h:Below U.heap.size U v)=>k0 v (Below.more bU h);replace k1:=fun v (h:Below U.heap.size U v)=>k1 v (Below.more bU h);replace k2:=fun v (h:Below U.heap.size U v)=>k2 v (Below.more bU h);replace k3:=fun v (h:Below U.heap.size U v)=>k3 v (Below.more bU h);have HW:=zh (Below.more hw bU);have b0:=Below.refl U.heap.size U;have hB:=zh (Nat.le_refl U.heap.size);clear hw bU bw;go_wp2_with fail;refine(CL.out _).mono ?_;rintro e0 w1 ⟨rfl,b⟩;have b1:=Below.more b0 b;clear b;go_wp2_with fail;go_ret;exact⟨ret_bool (by rw[HO.out]),Below.more HW.out b1⟩
   | true =>
    rw[h1]at cl;have CL:=zh cl;clear cl
    cases k with
    | zero =>
     simp only[Nat.zero_mul,Nat.add_zero]at k0 k1 k2 k3;have HO:Hid (Fx.okAtF l 0=true):=zh (Fx.okF_0 hx h1);clear hx h1
     go_upto_region 4 with fail
     obtain⟨U,hU,bU,s1,r0,r1,r2,r3⟩:=lay4 (Below.refl wr.heap.size wr) (.string ⟨a.toArray⟩) (.int .i64 d) (.string ⟨n.toArray⟩) (.string ⟨e.toArray⟩) 39;rw[hU];clear hU s1;replace k0:=fun v (h:Below U.heap.size U v)=>k0 v (Below.more bU h);replace k1:=fun v (h:Below U.heap.size U v)=>k1 v (Below.more bU h);replace k2:=fun v (h:Below U.heap.size U v)=>k2 v (Below.more bU h);replace k3:=fun v (h:Below U.heap.size U v)=>k3 v (Below.more bU h);have HW:=zh (Below.more hw bU);have b0:=Below.refl U.heap.size U;have hB:=zh (Nat.le_refl U.heap.size);clear hw bU bw;go_wp2_with fail;refine(CL.out _).mono ?_;rintro e0 w1 ⟨rfl,b⟩;have b1:=Below.more b0 b;clear b;go_wp2_with fail;refine tkG (S:=fun w'=>Below U.heap.size U w') (b1.drew) (fun hH0=>?_);refine tkY 0 ?_
     try simp only[Act.put,qA,qB,qC,qD,qE,qF]
     refine tkY 1 ?_
     try simp only[Act.put,qA,qB,qC,qD,qE,qF]
     refine tkY 2 ?_
     try simp only[Act.put,qA,qB,qC,qD,qE,qF]
     refine tkN 3 ?_
     try simp only[Act.put,qA,qB,qC,qD,qE,qF]
     refine tkN 4 ?_
     try simp only[Act.put,qA,qB,qC,qD,qE,qF]
     refine tkN 5 ?_
     try simp only[Act.put,qA,qB,qC,qD,qE,qF]
     refine tkN 6 ?_
     try simp only[Act.put,qA,qB,qC,qD,qE,qF]
     refine tkN 7 ?_
     try simp only[Act.put,qA,qB,qC,qD,qE,qF]
     refine tkN 8 ?_
     try simp only[Act.put,qA,qB,qC,qD,qE,qF]
     refine tkN 9 ?_
     try simp only[Act.put,qA,qB,qC,qD,qE,qF]
     refine tkN 10 ?_
     try simp only[Act.put,qA,qB,qC,qD,qE,qF]
     refine tkY 11 ?_
     try simp only[Act.put,qA,qB,qC,qD,qE,qF]
     refine tkD ?_;have b3:=hH0;clear hH0;go_wp2_with fail;go_roundw
     case rel=>exact⟨0+1,hlt,by go_num,less_more HJ.out HO.out,Below.more HW.out b3⟩
     case measure=>simp[intOf];omega
    | succ m =>
     obtain⟨⟨⟨a',d'⟩,⟨n',e'⟩⟩,hy⟩:∃x,l[m]?=some x:=⟨_,List.getElem?_eq_getElem (by omega)⟩;obtain⟨b',o',hp,p0,p1,p2,p3⟩:=fx_rule (HS.out.below hw) hy
     cases hp
     have co:=fun w=>forder_any a' d' n' e' a d n e w;have hord:=Fx.ordF_geq (a',d') (a,d);have hok:Fx.okAtF l (m+1)=Fx.lessF (a',d') (a,d):=Fx.okF_s hx hy h1;generalize Fx.ordF (a',d') (a,d)=q at *;have hm1:((m+1:Nat):Int)-1=(m:Int):=by omega
     have hm0:(0:Int)<((m+1:Nat):Int):=by omega
     have hwm:IntKind.i64.wrap (m:Int)=(m:Int):=IntWalk.i64_in _ (by omega);have hml:(m:Int)<(l.length:Int):=by omega
     have CO:=zh co;clear co hx hy h1;by_cases hq:0≤q
     ·have HO:Hid (Fx.mayF l=false):=zh (Fx.mayF_stop hlt (by rw[hok];rw[decide_eq_true hq]at hord;exact bool_t hord));clear hok hord
      go_upto_region 4 with fail
      obtain⟨U,hU,bU,s1,r0,r1,r2,r3⟩:=lay4 (Below.refl wr.heap.size wr) (.string ⟨a.toArray⟩) (.int .i64 d) (.string ⟨n.toArray⟩) (.string ⟨e.toArray⟩) 39;rw[hU];clear hU s1;replace k0:=fun v (h:Below U.heap.size U v)=>k0 v (Below.more bU h);replace k1:=fun v (h:Below U.heap.size U v)=>k1 v (Below.more bU h);replace k2:=fun v (h:Below U.heap.size U v)=>k2 v (Below.more bU h);replace k3:=fun v (h:Below U.heap.size U v)=>k3 v (Below.more bU h);replace p0:=fun v (h:Below U.heap.size U v)=>p0 v (Below.more bU h);replace p1:=fun v (h:Below U.heap.size U v)=>p1 v (Below.more bU h);replace p2:=fun v (h:Below U.heap.size U v)=>p2 v (Below.more bU h);replace p3:=fun v (h:Below U.heap.size U v)=>p3 v (Below.more bU h);have HW:=zh (Below.more hw bU);have b0:=Below.refl U.heap.size U;have hB:=zh (Nat.le_refl U.heap.size);clear hw bU bw;go_wp2_with fail;refine(CL.out _).mono ?_;rintro e0 w1 ⟨rfl,b⟩;have b1:=Below.more b0 b;clear b;go_wp2_with fail;refine tkG (S:=fun w'=>Below U.heap.size U w') (b1.drew) (fun hH0=>?_);refine tkY 0 ?_
      try simp only[Act.put,qA,qB,qC,qD,qE,qF]
      refine tkY 1 ?_
      try simp only[Act.put,qA,qB,qC,qD,qE,qF]
      refine tkY 2 ?_
      try simp only[Act.put,qA,qB,qC,qD,qE,qF]
      refine tkY 3 ?_
      try simp only[Act.put,qA,qB,qC,qD,qE,qF]
      refine tkY 4 ?_
      try simp only[Act.put,qA,qB,qC,qD,qE,qF]
      refine tkY 5 ?_
      try simp only[Act.put,qA,qB,qC,qD,qE,qF]
      refine tkY 6 ?_
      try simp only[Act.put,qA,qB,qC,qD,qE,qF]
      refine tkY 7 ?_
      try simp only[Act.put,qA,qB,qC,qD,qE,qF]
      refine tkY 8 ?_
      try simp only[Act.put,qA,qB,qC,qD,qE,qF]
      refine tkR 9 (fun K hK=>?_)
      go_simp
      refine(held (W:=U) hB.out (CO.out _) (by assumption)).mono ?_;rintro e w'' ⟨rfl,hb,hw⟩
      (try go_wp2_with fail)
      refine hK.out _ _ hw (fun hH1=>?_);clear hK hH0 hb
      try simp only[Act.put,qA,qB,qC,qD,qE,qF]
      refine tkY 10 ?_
      try simp only[Act.put,qA,qB,qC,qD,qE,qF]
      refine tkY 11 ?_
      try simp only[Act.put,qA,qB,qC,qD,qE,qF]
      refine tkD ?_;have b3:=hw;clear hw;go_wp2_with fail;go_ret;exact⟨ret_bool (by rw[HO.out]),Below.more HW.out b3⟩
     ·have HO:Hid (Fx.okAtF l (m+1)=true):=zh (by rw[hok];rw[decide_eq_false hq]at hord;exact bool_f hord);clear hok hord
      go_upto_region 4 with fail
      obtain⟨U,hU,bU,s1,r0,r1,r2,r3⟩:=lay4 (Below.refl wr.heap.size wr) (.string ⟨a.toArray⟩) (.int .i64 d) (.string ⟨n.toArray⟩) (.string ⟨e.toArray⟩) 39;rw[hU];clear hU s1;replace k0:=fun v (h:Below U.heap.size U v)=>k0 v (Below.more bU h);replace k1:=fun v (h:Below U.heap.size U v)=>k1 v (Below.more bU h);replace k2:=fun v (h:Below U.heap.size U v)=>k2 v (Below.more bU h);replace k3:=fun v (h:Below U.heap.size U v)=>k3 v (Below.more bU h);replace p0:=fun v (h:Below U.heap.size U v)=>p0 v (Below.more bU h);replace p1:=fun v (h:Below U.heap.size U v)=>p1 v (Below.more bU h);replace p2:=fun v (h:Below U.heap.size U v)=>p2 v (Below.more bU h);replace p3:=fun v (h:Below U.heap.size U v)=>p3 v (Below.more bU h);have HW:=zh (Below.more hw bU);have b0:=Below.refl U.heap.size U;have hB:=zh (Nat.le_refl U.heap.size);clear hw bU bw;go_wp2_with fail;refine(CL.out _).mono ?_;rintro e0 w1 ⟨rfl,b⟩;have b1:=Below.more b0 b;clear b;go_wp2_with fail;refine tkG (S:=fun w'=>Below U.heap.size U w') (b1.drew) (fun hH0=>?_);refine tkY 0 ?_
      try simp only[Act.put,qA,qB,qC,qD,qE,qF]
      refine tkY 1 ?_
      try simp only[Act.put,qA,qB,qC,qD,qE,qF]
      refine tkY 2 ?_
      try simp only[Act.put,qA,qB,qC,qD,qE,qF]
      refine tkY 3 ?_
      try simp only[Act.put,qA,qB,qC,qD,qE,qF]
      refine tkY 4 ?_
      try simp only[Act.put,qA,qB,qC,qD,qE,qF]
      refine tkY 5 ?_
      try simp only[Act.put,qA,qB,qC,qD,qE,qF]
      refine tkY 6 ?_
      try simp only[Act.put,qA,qB,qC,qD,qE,qF]
      refine tkY 7 ?_
      try simp only[Act.put,qA,qB,qC,qD,qE,qF]
      refine tkY 8 ?_
      try simp only[Act.put,qA,qB,qC,qD,qE,qF]
      refine tkR 9 (fun K hK=>?_)
      go_simp
      refine(held (W:=U) hB.out (CO.out _) (by assumption)).mono ?_;rintro e w'' ⟨rfl,hb,hw⟩
      (try go_wp2_with fail)
      refine hK.out _ _ hw (fun hH1=>?_);clear hK hH0 hb
      try simp only[Act.put,qA,qB,qC,qD,qE,qF]
      refine tkY 10 ?_
      try simp only[Act.put,qA,qB,qC,qD,qE,qF]
      refine tkY 11 ?_
      try simp only[Act.put,qA,qB,qC,qD,qE,qF]
      refine tkD ?_;have b3:=hw;clear hw;go_wp2_with fail;go_roundw
      case rel=>exact⟨(m+1)+1,hlt,by go_num,less_more HJ.out HO.out,Below.more HW.out b3⟩
      case measure=>simp[intOf];omega
  ·obtain rfl:k=l.length:=by omega
   have HR:=zh (Fx.mayF_end HJ.out);have HW:=zh hw;clear hw
   go_wp2_with fail;go_ret;exact⟨ret_bool (by rw[HR.out]),HW.out⟩
section
variable {l : List Fx.Fix} {u : List UInt8} {t : Int} {i : Nat}
end
end Go.Proofs.YtghioekjghmdaaaGreatDoor
