/- Own work. -/
import Derived.Test.YtghioekjghmdaaaGreatDoorTk
import Derived.Test.YtghioekjghmdaaaGreatDoorAllFx2M
import Derived.Test.YtghioekjghmdaaaGreatDoorGrwTM
set_option linter.unusedSimpArgs false
set_option linter.unusedVariables false
set_option maxHeartbeats 4000000
set_option maxRecDepth 100000
namespace Go.Proofs.YtghioekjghmdaaaGreatDoor
open Go.RowKit
theorem ccmpG(x y:Int)(w:World):Calls Tryz.prog 93 #[.int .i64 x,.int .i64 y] w (GiveGw w (Fx.cmpZ x y)):=by
 have N1:=zh (nan_any x);have N2:=zh (nan_any y)
 obtain⟨z,hz⟩:∃z,Fx.cmpZ x y=z:=⟨_,rfl⟩;have HO:=zh hz;rw[hz];rcases(show x<y∧z=-1∨¬x<y∧y<x∧z=1∨¬x<y∧¬y<x∧z=0 by unfold Fx.cmpZ at hz;split at hz<;>(try split at hz)<;>omega) with ⟨h1,h2⟩|⟨h1,h3,h2⟩|⟨h1,h3,h2⟩<;>(
  clear hz;subst h2;go_enter Tryz.func93,Tryz.ntmps93;go_wp2_with fail;refine(N1.out _).mono ?_;rintro e w' ⟨rfl,rfl⟩;go_wp2_with fail;refine(N2.out _).mono ?_;rintro e w' ⟨rfl,rfl⟩;go_wp2_with fail;go_ret;exact⟨rfl,Grw.refl _⟩)
theorem eorderG_any(a:List UInt8)(d:Int)(n e c:List UInt8)(f:Int)(m g:List UInt8)(w:World) :
  Calls Tryz.prog 63 #[.agg #[.string ⟨a.toArray⟩,.int .i64 d,.string ⟨n.toArray⟩,.string ⟨e.toArray⟩],.agg #[.string ⟨c.toArray⟩,.int .i64 f,.string ⟨m.toArray⟩,.string ⟨g.toArray⟩]] w (GiveGw w (Fx.ordF (a,d) (c,f))):=by
 have c1:=fun w=>scmpG a c w;have c2:=fun w=>ccmpG d f w;have HO:Hid (Fx.ordF (a,d) (c,f)=orZ (Lib.compareBytes a c) (Fx.cmpZ d f)):=zh rfl;generalize Fx.ordF (a,d) (c,f)=o at *;generalize Lib.compareBytes a c=x at *;generalize Fx.cmpZ d f=y at *;have C1:=zh c1;have C2:=zh c2;clear c1 c2
 go_enter Tryz.func63,Tryz.ntmps63;go_wp2_with fail;obtain⟨U1,hU,bU,s1,rx0,rx1,rx2,rx3⟩:=lay4 (Below.refl w.heap.size w) (.string ⟨a.toArray⟩) (.int .i64 d) (.string ⟨n.toArray⟩) (.string ⟨e.toArray⟩) 39;have g1:Grw w U1:=hU▸(Grw.refl w).alloc _;rw[hU];clear hU;obtain⟨U2,hU,bV,s2,ry0,ry1,ry2,ry3⟩:=lay4 (Below.refl U1.heap.size U1) (.string ⟨c.toArray⟩) (.int .i64 f) (.string ⟨m.toArray⟩) (.string ⟨g.toArray⟩) 39;have g2:Hid (Grw w U2):=zh (hU▸g1.alloc _);rw[hU];clear hU g1;have qx0:=fun v (h:Grw U2 v)=>rx0 v (Below.more bV h.below);have qx1:=fun v (h:Grw U2 v)=>rx1 v (Below.more bV h.below);have qy0:=fun v (h:Grw U2 v)=>ry0 v h.below;have qy1:=fun v (h:Grw U2 v)=>ry1 v h.below;rw[←s1]at qy0 qy1;have g0:=Grw.refl U2;clear bU bV rx0 rx1 ry0 ry1 rx2 rx3 ry2 ry3 s1 s2
 first|(go_region_held3 (fun w'=>Grw U2 w')
    (first|(exact g0.drew)|(with_reducible assumption)|(exact Grw.alloc (by with_reducible assumption) _))
    (first|(go_at_call 92;(with_reducible show Calls _ _ #[.string ⟨a.toArray⟩,.string ⟨c.toArray⟩] _ _);(with_reducible refine(heldW (C1.out _) (by assumption)).mono ?_);rintro e w'' ⟨rfl,hw⟩)|(go_at_call 93;(with_reducible refine(heldW (C2.out _) (by assumption)).mono ?_);rintro e w'' ⟨rfl,hw⟩)|(go_at_call 91;(with_reducible refine(heldW (orG_new _ _ _ _) (by assumption)).mono ?_);rintro e w'' ⟨rfl,hw⟩)))|fail
 all_goals (go_wp2_with fail)
 all_goals go_ret
 all_goals (exact⟨ret_int (by rw[HO.out]),g2.out.trans (by with_reducible assumption)⟩)
theorem eorder_any(a:List UInt8)(d:Int)(n e c:List UInt8)(f:Int)(m g:List UInt8)(w:World) :
  Calls Tryz.prog 63 #[.agg #[.string ⟨a.toArray⟩,.int .i64 d,.string ⟨n.toArray⟩,.string ⟨e.toArray⟩],.agg #[.string ⟨c.toArray⟩,.int .i64 f,.string ⟨m.toArray⟩,.string ⟨g.toArray⟩]] w (GiveI w (Fx.ordF (a,d) (c,f))) :=
 (eorderG_any a d n e c f m g w).mono fun _ _ ⟨h,k⟩=>⟨h,k.below⟩
theorem esearch_any(p:Option Addr)(c:Nat)(l:List Fx.Fix)(a:List UInt8)(d:Int)(n e:List UInt8)(w:World)(hc:l.length≤c)(hl:l.length≤1000000)(h:Fxs w p l) :
  Calls Tryz.prog 101 #[.slice p l.length c,.agg #[.string ⟨a.toArray⟩,.int .i64 d,.string ⟨n.toArray⟩,.string ⟨e.toArray⟩],.func (.func 63) #[] #[]] w (GiveF w l (a,d)):=by
 go_enter Tryz.func101,Tryz.ntmps101;go_wp2_with fail;obtain⟨U,hU,bU,s1,t0,t1,t2,t3⟩:=lay4 (Below.refl w.heap.size w) (.string ⟨a.toArray⟩) (.int .i64 d) (.string ⟨n.toArray⟩) (.string ⟨e.toArray⟩) 39;rw[hU];clear hU s1;have HS:=zh (h.below bU);have BW:=zh bU;clear h bU;go_wp2_with fail
 go_loopw [9,10] (fun x y wr=>∃lo hi:Nat,x=.int .i64 lo∧y=.int .i64 hi∧lo≤hi∧hi≤l.length∧Hid ((l.Pairwise fun x y=>Fx.lessF x.1 y.1=true)→∀t x,t<lo→l[t]?=some x→Fx.lessF x.1 (a,d)=true)∧Hid ((l.Pairwise fun x y=>Fx.lessF x.1 y.1=true)→∀t x,hi≤t→l[t]?=some x→Fx.lessF x.1 (a,d)=false)∧Below U.heap.size U wr) (fun x y _=>(intOf y).toNat-(intOf x).toNat)
 case atStart=>exact⟨0,l.length,rfl,rfl,Nat.zero_le _,Nat.le_refl _,fun _ t _ h=>absurd h (Nat.not_lt_zero t),fun _ t x h e=>absurd (List.getElem?_eq_some_iff.1 e).1 (by omega),Below.refl _ _⟩
 case round =>
  obtain⟨lo,hi,rfl,rfl,hlh,hil,HL,HI,hw⟩:=hrel;by_cases hlt:lo<hi
  ·obtain⟨m,hm⟩:∃m,m=(lo+hi) / 2:=⟨_,rfl⟩;have hmi:((lo:Int)+(hi:Int)) / 2=(m:Int):=by omega
   have hmn:(lo+hi) / 2=m:=hm.symm;have hml:m<l.length:=by omega
   have hm1:lo≤m:=by omega
   have hm2:m<hi:=by omega
   clear hm;obtain⟨⟨⟨a',d'⟩,⟨n',e'⟩⟩,hx⟩:∃x,l[m]?=some x:=⟨_,List.getElem?_eq_getElem (by omega)⟩;obtain⟨b,o,rfl,k0,k1,k2,k3⟩:=fx_rule (HS.out.below hw) hx;have co:=fun w=>eorder_any a' d' n' e' a d n e w;by_cases hq:Fx.ordF (a',d') (a,d)<0
   ·have HT:Hid ((l.Pairwise fun x y=>Fx.lessF x.1 y.1=true)→∀t x,t<m+1→l[t]?=some x→Fx.lessF x.1 (a,d)=true):=zh fun hp t y ht hy=>Fx.less_mono hp (show t≤m by omega) hy hx (Fx.ordF_neg.1 hq);generalize Fx.ordF (a',d') (a,d)=q at *;have CO:=zh co;clear co hx;have x0:=fun v (h:Below wr.heap.size wr v)=>t0 v (Below.more hw h);have x1:=fun v (h:Below wr.heap.size wr v)=>t1 v (Below.more hw h);have x2:=fun v (h:Below wr.heap.size wr v)=>t2 v (Below.more hw h);have x3:=fun v (h:Below wr.heap.size wr v)=>t3 v (Below.more hw h);have HW:=zh hw;have b0:=Below.refl wr.heap.size wr;have hB:=zh (Nat.le_refl wr.heap.size);clear hw t0 t1 t2 t3;go_wp2_with fail;refine tkG (S:=fun w'=>Below wr.heap.size wr w') (b0.drew) (fun hH0=>?_);refine tkY 0 ?_
    try simp only[Act.put,qA,qB,qC,qD,qE,qF]
    refine tkY 1 ?_
    try simp only[Act.put,qA,qB,qC,qD,qE,qF]
    refine tkY 2 ?_
    try simp only[Act.put,qA,qB,qC,qD,qE,qF]
    refine tkY 3 ?_
    try simp only[Act.put,qA,qB,qC,qD,qE,qF]
    refine tkY 4 ?_
    try simp only[Act.put,qA,qB,qC,qD,qE,qF]
    refine tkY 5 ?_
    try simp only[Act.put,qA,qB,qC,qD,qE,qF]
    refine tkR 6 (fun K hK=>?_)
    go_simp
    refine(held (W:=wr) hB.out (CO.out _) (by assumption)).mono ?_;rintro e w'' ⟨rfl,hb,hw⟩
    (try go_wp2_with fail)
    refine hK.out _ _ hw (fun hH1=>?_);clear hK hH0 hb
    try simp only[Act.put,qA,qB,qC,qD,qE,qF]
    refine tkY 7 ?_
    try simp only[Act.put,qA,qB,qC,qD,qE,qF]
    refine tkD ?_;have b3:=hw;clear hw;go_wp2_with fail;go_roundw
    case rel=>exact⟨m+1,hi,by go_num,rfl,by omega,hil,HT.out,HI.out,Below.more HW.out b3⟩
    case measure=>simp[intOf];omega
   ·have HT:Hid ((l.Pairwise fun x y=>Fx.lessF x.1 y.1=true)→∀t x,m≤t→l[t]?=some x→Fx.lessF x.1 (a,d)=false):=zh fun hp t y ht hy=>by
     cases e:Fx.lessF y.1 (a,d) with
     | false=>rfl
     | true=>exact absurd (Fx.ordF_neg.2 (Fx.less_mono hp ht hx hy e)) hq
    generalize Fx.ordF (a',d') (a,d)=q at *;have CO:=zh co;clear co hx;have x0:=fun v (h:Below wr.heap.size wr v)=>t0 v (Below.more hw h);have x1:=fun v (h:Below wr.heap.size wr v)=>t1 v (Below.more hw h);have x2:=fun v (h:Below wr.heap.size wr v)=>t2 v (Below.more hw h);have x3:=fun v (h:Below wr.heap.size wr v)=>t3 v (Below.more hw h);have HW:=zh hw;have b0:=Below.refl wr.heap.size wr;have hB:=zh (Nat.le_refl wr.heap.size);clear hw t0 t1 t2 t3;go_wp2_with fail;refine tkG (S:=fun w'=>Below wr.heap.size wr w') (b0.drew) (fun hH0=>?_);refine tkY 0 ?_
    try simp only[Act.put,qA,qB,qC,qD,qE,qF]
    refine tkY 1 ?_
    try simp only[Act.put,qA,qB,qC,qD,qE,qF]
    refine tkY 2 ?_
    try simp only[Act.put,qA,qB,qC,qD,qE,qF]
    refine tkY 3 ?_
    try simp only[Act.put,qA,qB,qC,qD,qE,qF]
    refine tkY 4 ?_
    try simp only[Act.put,qA,qB,qC,qD,qE,qF]
    refine tkY 5 ?_
    try simp only[Act.put,qA,qB,qC,qD,qE,qF]
    refine tkR 6 (fun K hK=>?_)
    go_simp
    refine(held (W:=wr) hB.out (CO.out _) (by assumption)).mono ?_;rintro e w'' ⟨rfl,hb,hw⟩
    (try go_wp2_with fail)
    refine hK.out _ _ hw (fun hH1=>?_);clear hK hH0 hb
    try simp only[Act.put,qA,qB,qC,qD,qE,qF]
    refine tkY 7 ?_
    try simp only[Act.put,qA,qB,qC,qD,qE,qF]
    refine tkD ?_;have b3:=hw;clear hw;go_wp2_with fail;go_roundw
    case rel=>exact⟨lo,m,rfl,rfl,hm1,by omega,HL.out,HT.out,Below.more HW.out b3⟩
    case measure=>simp[intOf];omega
  ·obtain rfl:hi=lo:=by omega
   have hr:=fun hp=>Fx.rankF_bound hil (HL.out hp) (HI.out hp);by_cases hn:hi<l.length
   ·obtain⟨⟨⟨a',d'⟩,⟨n',e'⟩⟩,hx⟩:∃x,l[hi]?=some x:=⟨_,List.getElem?_eq_getElem (by omega)⟩;obtain⟨b,o,rfl,k0,k1,k2,k3⟩:=fx_rule (HS.out.below hw) hx;have co:=fun w=>eorder_any a' d' n' e' a d n e w;have HO:Hid (((l.Pairwise fun x y=>Fx.lessF x.1 y.1=true)→hi=Fx.rankF l (a,d)∧decide (Fx.ordF (a',d') (a,d)=0)=Fx.thereF l (a,d))):=zh fun hp=>⟨hr hp,(Fx.thereF_of (z:=Fx.ordF (a',d') (a,d)) (hr hp▸hx) rfl).symm⟩;generalize Fx.ordF (a',d') (a,d)=q at *;have CO:=zh co;clear co hx hr HL HI;have x0:=fun v (h:Below wr.heap.size wr v)=>t0 v (Below.more hw h);have x1:=fun v (h:Below wr.heap.size wr v)=>t1 v (Below.more hw h);have x2:=fun v (h:Below wr.heap.size wr v)=>t2 v (Below.more hw h);have x3:=fun v (h:Below wr.heap.size wr v)=>t3 v (Below.more hw h);have HW:=zh hw;have b0:=Below.refl wr.heap.size wr;have hB:=zh (Nat.le_refl wr.heap.size);clear hw t0 t1 t2 t3;by_cases hq:q=0
    ·go_wp2_with fail;refine tkG (S:=fun w'=>Below wr.heap.size wr w') (b0.drew) (fun hH0=>?_);refine tkY 0 ?_
     try simp only[Act.put,qA,qB,qC,qD,qE,qF]
     refine tkY 1 ?_
     try simp only[Act.put,qA,qB,qC,qD,qE,qF]
     refine tkY 2 ?_
     try simp only[Act.put,qA,qB,qC,qD,qE,qF]
     refine tkY 3 ?_
     try simp only[Act.put,qA,qB,qC,qD,qE,qF]
     refine tkY 4 ?_
     try simp only[Act.put,qA,qB,qC,qD,qE,qF]
     refine tkY 5 ?_
     try simp only[Act.put,qA,qB,qC,qD,qE,qF]
     refine tkY 6 ?_
     try simp only[Act.put,qA,qB,qC,qD,qE,qF]
     refine tkY 7 ?_
     try simp only[Act.put,qA,qB,qC,qD,qE,qF]
     refine tkY 8 ?_
     try simp only[Act.put,qA,qB,qC,qD,qE,qF]
     refine tkY 9 ?_
     try simp only[Act.put,qA,qB,qC,qD,qE,qF]
     refine tkY 10 ?_
     try simp only[Act.put,qA,qB,qC,qD,qE,qF]
     refine tkR 11 (fun K hK=>?_)
     go_simp
     refine(held (W:=wr) hB.out (CO.out _) (by assumption)).mono ?_;rintro e w'' ⟨rfl,hb,hw⟩
     (try go_wp2_with fail)
     refine hK.out _ _ hw (fun hH1=>?_);clear hK hH0 hb
     try simp only[Act.put,qA,qB,qC,qD,qE,qF]
     refine tkY 12 ?_
     try simp only[Act.put,qA,qB,qC,qD,qE,qF]
     refine tkY 13 ?_
     try simp only[Act.put,qA,qB,qC,qD,qE,qF]
     refine tkY 14 ?_
     try simp only[Act.put,qA,qB,qC,qD,qE,qF]
     refine tkY 15 ?_
     try simp only[Act.put,qA,qB,qC,qD,qE,qF]
     refine tkD ?_;have b3:=hw;clear hw;go_wp2_with fail
     go_ret2
     exact⟨⟨hi,true,rfl,by omega,fun _=>hn,fun hp=>⟨(HO.out hp).1,by rw[←(HO.out hp).2,decide_eq_true hq]⟩⟩,Below.more BW.out (Below.more HW.out b3)⟩
    ·go_wp2_with fail;refine tkG (S:=fun w'=>Below wr.heap.size wr w') (b0.drew) (fun hH0=>?_);refine tkY 0 ?_
     try simp only[Act.put,qA,qB,qC,qD,qE,qF]
     refine tkY 1 ?_
     try simp only[Act.put,qA,qB,qC,qD,qE,qF]
     refine tkY 2 ?_
     try simp only[Act.put,qA,qB,qC,qD,qE,qF]
     refine tkY 3 ?_
     try simp only[Act.put,qA,qB,qC,qD,qE,qF]
     refine tkY 4 ?_
     try simp only[Act.put,qA,qB,qC,qD,qE,qF]
     refine tkY 5 ?_
     try simp only[Act.put,qA,qB,qC,qD,qE,qF]
     refine tkY 6 ?_
     try simp only[Act.put,qA,qB,qC,qD,qE,qF]
     refine tkY 7 ?_
     try simp only[Act.put,qA,qB,qC,qD,qE,qF]
     refine tkY 8 ?_
     try simp only[Act.put,qA,qB,qC,qD,qE,qF]
     refine tkY 9 ?_
     try simp only[Act.put,qA,qB,qC,qD,qE,qF]
     refine tkY 10 ?_
     try simp only[Act.put,qA,qB,qC,qD,qE,qF]
     refine tkR 11 (fun K hK=>?_)
     go_simp
     refine(held (W:=wr) hB.out (CO.out _) (by assumption)).mono ?_;rintro e w'' ⟨rfl,hb,hw⟩
     (try go_wp2_with fail)
     refine hK.out _ _ hw (fun hH1=>?_);clear hK hH0 hb
     try simp only[Act.put,qA,qB,qC,qD,qE,qF]
     refine tkY 12 ?_
     try simp only[Act.put,qA,qB,qC,qD,qE,qF]
     refine tkY 13 ?_
     try simp only[Act.put,qA,qB,qC,qD,qE,qF]
     refine tkY 14 ?_
     try simp only[Act.put,qA,qB,qC,qD,qE,qF]
     refine tkY 15 ?_
     try simp only[Act.put,qA,qB,qC,qD,qE,qF]
     refine tkD ?_;have b3:=hw;clear hw;go_wp2_with fail
     go_ret2
     exact⟨⟨hi,false,by first|rfl|exact ret_ib2 (beq_false_of_ne hq),by omega,(fun h=>by cases h),fun hp=>⟨(HO.out hp).1,by rw[←(HO.out hp).2,decide_eq_false hq]⟩⟩,Below.more BW.out (Below.more HW.out b3)⟩
   ·have HO:Hid (((l.Pairwise fun x y=>Fx.lessF x.1 y.1=true)→hi=Fx.rankF l (a,d)∧false=Fx.thereF l (a,d))):=zh fun hp=>⟨hr hp,(Fx.thereF_no (by rw[←hr hp];omega)).symm⟩;clear hr HL HI;have x0:=fun v (h:Below wr.heap.size wr v)=>t0 v (Below.more hw h);have x1:=fun v (h:Below wr.heap.size wr v)=>t1 v (Below.more hw h);have x2:=fun v (h:Below wr.heap.size wr v)=>t2 v (Below.more hw h);have x3:=fun v (h:Below wr.heap.size wr v)=>t3 v (Below.more hw h);have HW:=zh hw;have b0:=Below.refl wr.heap.size wr;have hB:=zh (Nat.le_refl wr.heap.size);clear hw t0 t1 t2 t3;go_wp2_with fail;refine tkG (S:=fun w'=>Below wr.heap.size wr w') (b0.drew) (fun hH0=>?_);refine tkY 0 ?_
    try simp only[Act.put,qA,qB,qC,qD,qE,qF]
    refine tkY 1 ?_
    try simp only[Act.put,qA,qB,qC,qD,qE,qF]
    refine tkY 2 ?_
    try simp only[Act.put,qA,qB,qC,qD,qE,qF]
    refine tkY 3 ?_
    try simp only[Act.put,qA,qB,qC,qD,qE,qF]
    refine tkY 4 ?_
    try simp only[Act.put,qA,qB,qC,qD,qE,qF]
    refine tkN 5 ?_
    try simp only[Act.put,qA,qB,qC,qD,qE,qF]
    refine tkN 6 ?_
    try simp only[Act.put,qA,qB,qC,qD,qE,qF]
    refine tkN 7 ?_
    try simp only[Act.put,qA,qB,qC,qD,qE,qF]
    refine tkN 8 ?_
    try simp only[Act.put,qA,qB,qC,qD,qE,qF]
    refine tkN 9 ?_
    try simp only[Act.put,qA,qB,qC,qD,qE,qF]
    refine tkN 10 ?_
    try simp only[Act.put,qA,qB,qC,qD,qE,qF]
    refine tkN 11 ?_
    try simp only[Act.put,qA,qB,qC,qD,qE,qF]
    refine tkN 12 ?_
    try simp only[Act.put,qA,qB,qC,qD,qE,qF]
    refine tkY 13 ?_
    try simp only[Act.put,qA,qB,qC,qD,qE,qF]
    refine tkY 14 ?_
    try simp only[Act.put,qA,qB,qC,qD,qE,qF]
    refine tkY 15 ?_
    try simp only[Act.put,qA,qB,qC,qD,qE,qF]
    refine tkD ?_;have b3:=hH0;clear hH0;go_wp2_with fail
    go_ret2
    exact⟨⟨hi,false,rfl,by omega,(fun h=>by cases h),HO.out⟩,Below.more BW.out (Below.more HW.out b3)⟩
theorem efind_any(p:Option Addr)(c:Nat)(l:List Fx.Fix)(a:List UInt8)(d:Int)(n e:List UInt8)(w:World)(hc:l.length≤c)(hl:l.length≤1000000)(h:Fxs w p l) :
  Calls Tryz.prog 59 #[.slice p l.length c,.agg #[.string ⟨a.toArray⟩,.int .i64 d,.string ⟨n.toArray⟩,.string ⟨e.toArray⟩]] w (GiveF w l (a,d)):=by
 have cs:=fun v (hv:Below w.heap.size w v)=>esearch_any p c l a d n e v hc hl (h.below hv);have CS:=zh cs;clear cs h;go_enter Tryz.func59,Tryz.ntmps59;go_wp2_with fail;obtain⟨U,hU,bU,s1,t0,t1,t2,t3⟩:=lay4 (Below.refl w.heap.size w) (.string ⟨a.toArray⟩) (.int .i64 d) (.string ⟨n.toArray⟩) (.string ⟨e.toArray⟩) 39;rw[hU];clear hU s1;have b0:=Below.refl U.heap.size U;go_wp2_with fail;refine(CS.out _ bU).mono ?_;rintro e0 w1 ⟨⟨i,z,rfl,g1,g2,g3⟩,b⟩;have b1:=Below.more b0 b;have H3:=zh g3;clear b g3;go_wp2_with fail
 go_ret2
 exact⟨⟨i,z,rfl,g1,g2,H3.out⟩,Below.more bU b1⟩
end Go.Proofs.YtghioekjghmdaaaGreatDoor
