/- Own work. -/
import Derived.Test.YthgopcnagecbaaaGreatDoorAllRefAM
import Derived.Test.YthgopcnagecbaaaGreatDoorBlkM
set_option linter.unusedSimpArgs false
set_option linter.unusedVariables false
set_option maxHeartbeats 4000000
set_option maxRecDepth 100000
namespace Go.Proofs.YthgopcnagecbaaaGreatDoor
open Go.RowKit
theorem nan_any(x:Int)(w:World):Calls Tryz.prog 115 #[.int .i64 x] w fun e w'=>e=.returned (.bool false)∧w=w':=by
 go_enter Tryz.func115,Tryz.ntmps115;go_wp2_with fail;go_ret;exact⟨by simp,rfl⟩
theorem ccmp_any(x y:Int)(w:World):Calls Tryz.prog 96 #[.int .i64 x,.int .i64 y] w (GiveI w (Fx.cmpZ x y)):=by
 have N1:=zh (nan_any x);have N2:=zh (nan_any y)
 by_cases h1:x<y
 ·have HO:Hid (Fx.cmpZ x y=-1):=zh (by unfold Fx.cmpZ;rw[if_pos h1]);go_enter Tryz.func96,Tryz.ntmps96;go_wp2_with fail;refine(N1.out _).mono ?_;rintro e w' ⟨rfl,rfl⟩;go_wp2_with fail;refine(N2.out _).mono ?_;rintro e w' ⟨rfl,rfl⟩;go_wp2_with fail;go_ret;exact⟨ret_int (by rw[HO.out]),Below.refl _ _⟩
 ·by_cases h2:y<x
  ·have HO:Hid (Fx.cmpZ x y=1):=zh (by unfold Fx.cmpZ;rw[if_neg h1,if_pos h2]);go_enter Tryz.func96,Tryz.ntmps96;go_wp2_with fail;refine(N1.out _).mono ?_;rintro e w' ⟨rfl,rfl⟩;go_wp2_with fail;refine(N2.out _).mono ?_;rintro e w' ⟨rfl,rfl⟩;go_wp2_with fail;go_ret;exact⟨ret_int (by rw[HO.out]),Below.refl _ _⟩
  ·have HO:Hid (Fx.cmpZ x y=0):=zh (by unfold Fx.cmpZ;rw[if_neg h1,if_neg h2]);go_enter Tryz.func96,Tryz.ntmps96;go_wp2_with fail;refine(N1.out _).mono ?_;rintro e w' ⟨rfl,rfl⟩;go_wp2_with fail;refine(N2.out _).mono ?_;rintro e w' ⟨rfl,rfl⟩;go_wp2_with fail;go_ret;exact⟨ret_int (by rw[HO.out]),Below.refl _ _⟩
theorem forder_any(a:List UInt8)(d:Int)(n e c:List UInt8)(f:Int)(m g:List UInt8)(w:World) :
  Calls Tryz.prog 64 #[.agg #[.string ⟨a.toArray⟩,.int .i64 d,.string ⟨n.toArray⟩,.string ⟨e.toArray⟩],.agg #[.string ⟨c.toArray⟩,.int .i64 f,.string ⟨m.toArray⟩,.string ⟨g.toArray⟩]] w (GiveI w (Fx.ordF (a,d) (c,f))):=by
 have c1:=fun w=>scmp_any a c w;have c2:=fun w=>ccmp_any d f w;have HO:Hid (Fx.ordF (a,d) (c,f)=orZ (Lib.compareBytes a c) (Fx.cmpZ d f)):=zh rfl;generalize Fx.ordF (a,d) (c,f)=o at *;generalize Lib.compareBytes a c=x at *;generalize Fx.cmpZ d f=y at *;have C1:=zh c1;have C2:=zh c2;clear c1 c2
 go_enter Tryz.func64,Tryz.ntmps64;go_wp2_with fail;obtain⟨U1,hU,bU,s1,rx0,rx1,rx2,rx3⟩:=lay4 (Below.refl w.heap.size w) (.string ⟨a.toArray⟩) (.int .i64 d) (.string ⟨n.toArray⟩) (.string ⟨e.toArray⟩) 47;rw[hU];clear hU;obtain⟨U2,hU,bV,s2,ry0,ry1,ry2,ry3⟩:=lay4 (Below.refl U1.heap.size U1) (.string ⟨c.toArray⟩) (.int .i64 f) (.string ⟨m.toArray⟩) (.string ⟨g.toArray⟩) 47;rw[hU];clear hU;replace rx0:=fun v (h:Below U2.heap.size U2 v)=>rx0 v (Below.more bV h);replace rx1:=fun v (h:Below U2.heap.size U2 v)=>rx1 v (Below.more bV h);rw[←s1]at ry0 ry1;have BW:=Below.more bU bV;have b0:=Below.refl U2.heap.size U2;have hB:=zh (Nat.le_refl U2.heap.size);clear bU bV rx2 rx3 ry2 ry3 s1 s2
 first|(go_region_held3 (fun w'=>Below U2.heap.size U2 w')
    (first|(exact b0.drew)|(with_reducible assumption)|(exact Below.alloc (by with_reducible assumption) (Nat.le_trans hB.out (Below.size (by with_reducible assumption))) _)|(exact put2 (by with_reducible assumption) (Nat.le_refl _) _ _)|(exact put2 (by with_reducible assumption) hB.out _ _)|(exact put2 (by with_reducible assumption) (Nat.le_trans hB.out (Below.size (by with_reducible assumption))) _ _))
    (first|(go_at_call 68;(with_reducible show Calls _ _ #[.string ⟨a.toArray⟩,.string ⟨c.toArray⟩] _ _);(with_reducible refine(held (W:=U2) hB.out (C1.out _) (by assumption)).mono ?_);rintro e w'' ⟨rfl,hb,hw⟩;(first|(have hz:=zc_made0 hb)|(have hz:=zc_made hb)|skip);(try have hz:=Zc.below (by assumption) hb);(try (have z0:=hz.c0;have z1:=hz.c1;have z2:=hz.f0;have z3:=hz.f1)))|(go_at_call 96;(with_reducible refine(held (W:=U2) hB.out (C2.out _) (by assumption)).mono ?_);rintro e w'' ⟨rfl,hb,hw⟩;(first|(have hz:=zc_made0 hb)|(have hz:=zc_made hb)|skip);(try have hz:=Zc.below (by assumption) hb);(try (have z0:=hz.c0;have z1:=hz.c1;have z2:=hz.f0;have z3:=hz.f1)))|(go_at_call 95;(with_reducible refine(held (W:=U2) hB.out (or_new _ _ _ _) (by assumption)).mono ?_);rintro e w'' ⟨rfl,hb,hw⟩;(first|(have hz:=zc_made0 hb)|(have hz:=zc_made hb)|skip);(try have hz:=Zc.below (by assumption) hb);(try (have z0:=hz.c0;have z1:=hz.c1;have z2:=hz.f0;have z3:=hz.f1)))))|fail
 all_goals (go_wp2_with fail)
 all_goals go_ret
 all_goals (exact⟨ret_int (by rw[HO.out]),Below.more BW (by with_reducible assumption)⟩)
theorem fm_0{a n e:List UInt8}{d:Int}  (w:World)
  (CN:Hid (∀w,Calls Tryz.prog 41 #[.string ⟨a.toArray⟩] w (GiveB w false))) :
  Calls Tryz.prog 63 #[.agg #[.string ⟨a.toArray⟩,.int .i64 d,.string ⟨n.toArray⟩,.string ⟨e.toArray⟩]] w (GiveB w (false)):=by
 have HT:Hid (NoB w):=zh (noB w);go_enter Tryz.func63,Tryz.ntmps63;go_wp2_with fail;have BW:=Below.refl w.heap.size w;have b0:Below w.heap.size w w:=Below.refl _ _;obtain⟨U1,hU,bU,s1,rx0,rx1,rx2,rx3⟩:=lay4 b0 (.string ⟨a.toArray⟩) (.int .i64 d) (.string ⟨n.toArray⟩) (.string ⟨e.toArray⟩) 47;rw[hU];clear hU;clear s1;replace BW:=Below.more BW bU;replace HT:=zh (HT.out.below bU);clear bU;have b1:=Below.refl U1.heap.size U1;go_wp2_with fail;refine(CN.out _).mono ?_;rintro e w2 ⟨rfl,b⟩;have b2:=Below.more b1 b;clear b;go_wp2_with fail;go_ret;exact⟨ret_bool (by first|rfl|simp[*]),Below.more BW b2⟩
theorem fm_1{a n e:List UInt8}{d:Int}(h:¬0≤d)(w:World)
  (CN:Hid (∀w,Calls Tryz.prog 41 #[.string ⟨a.toArray⟩] w (GiveB w true))) :
  Calls Tryz.prog 63 #[.agg #[.string ⟨a.toArray⟩,.int .i64 d,.string ⟨n.toArray⟩,.string ⟨e.toArray⟩]] w (GiveB w (false)):=by
 have HT:Hid (NoB w):=zh (noB w);go_enter Tryz.func63,Tryz.ntmps63;go_wp2_with fail;have BW:=Below.refl w.heap.size w;have b0:Below w.heap.size w w:=Below.refl _ _;obtain⟨U1,hU,bU,s1,rx0,rx1,rx2,rx3⟩:=lay4 b0 (.string ⟨a.toArray⟩) (.int .i64 d) (.string ⟨n.toArray⟩) (.string ⟨e.toArray⟩) 47;rw[hU];clear hU;clear s1;replace BW:=Below.more BW bU;replace HT:=zh (HT.out.below bU);clear bU;have b1:=Below.refl U1.heap.size U1;go_wp2_with fail;refine(CN.out _).mono ?_;rintro e w2 ⟨rfl,b⟩;have b2:=Below.more b1 b;clear b;go_wp2_with fail;go_ret;exact⟨ret_bool (by first|rfl|simp[*]),Below.more BW b2⟩
theorem fm_2{a n e:List UInt8}{d:Int}(h:0≤d)(h2:¬d≤9999)(w:World)
  (CN:Hid (∀w,Calls Tryz.prog 41 #[.string ⟨a.toArray⟩] w (GiveB w true))) :
  Calls Tryz.prog 63 #[.agg #[.string ⟨a.toArray⟩,.int .i64 d,.string ⟨n.toArray⟩,.string ⟨e.toArray⟩]] w (GiveB w (false)):=by
 have HT:Hid (NoB w):=zh (noB w);go_enter Tryz.func63,Tryz.ntmps63;go_wp2_with fail;have BW:=Below.refl w.heap.size w;have b0:Below w.heap.size w w:=Below.refl _ _;obtain⟨U1,hU,bU,s1,rx0,rx1,rx2,rx3⟩:=lay4 b0 (.string ⟨a.toArray⟩) (.int .i64 d) (.string ⟨n.toArray⟩) (.string ⟨e.toArray⟩) 47;rw[hU];clear hU;clear s1;replace BW:=Below.more BW bU;replace HT:=zh (HT.out.below bU);clear bU;have b1:=Below.refl U1.heap.size U1;go_wp2_with fail;refine(CN.out _).mono ?_;rintro e w2 ⟨rfl,b⟩;have b2:=Below.more b1 b;clear b;go_wp2_with fail;go_ret;exact⟨ret_bool (by first|rfl|simp[*]),Below.more BW b2⟩
theorem fm_3{a n e:List UInt8}{d:Int}(h:0≤d)(h2:d≤9999){b:Bool}(w:World)
  (CN:Hid (∀w,Calls Tryz.prog 41 #[.string ⟨a.toArray⟩] w (GiveB w true)))
  (CM:Hid (∀w,Calls Tryz.prog 44 #[.agg #[.string ⟨n.toArray⟩,.string ⟨e.toArray⟩]] w (GiveB w b))) :
  Calls Tryz.prog 63 #[.agg #[.string ⟨a.toArray⟩,.int .i64 d,.string ⟨n.toArray⟩,.string ⟨e.toArray⟩]] w (GiveB w (b)):=by
 have HT:Hid (NoB w):=zh (noB w);go_enter Tryz.func63,Tryz.ntmps63;go_wp2_with fail;have BW:=Below.refl w.heap.size w;have b0:Below w.heap.size w w:=Below.refl _ _;obtain⟨U1,hU,bU,s1,rx0,rx1,rx2,rx3⟩:=lay4 b0 (.string ⟨a.toArray⟩) (.int .i64 d) (.string ⟨n.toArray⟩) (.string ⟨e.toArray⟩) 47;rw[hU];clear hU;clear s1;replace BW:=Below.more BW bU;replace HT:=zh (HT.out.below bU);clear bU;have b1:=Below.refl U1.heap.size U1;go_wp2_with fail;refine(CN.out _).mono ?_;rintro e w2 ⟨rfl,b⟩;have b2:=Below.more b1 b;clear b;go_wp2_with fail;refine(CM.out _).mono ?_;rintro e w3 ⟨rfl,b⟩;have b3:=Below.more b2 b;clear b;go_wp2_with fail;go_ret;exact⟨ret_bool (by first|rfl|simp[*]),Below.more BW b3⟩
theorem fmay1_any(a:List UInt8)(d:Int)(n e:List UInt8)(w:World)(hz:SzX ((a,d),(n,e))) :
  Calls Tryz.prog 63 #[.agg #[.string ⟨a.toArray⟩,.int .i64 d,.string ⟨n.toArray⟩,.string ⟨e.toArray⟩]] w (GiveB w (Fx.okF ((a,d),(n,e)))):=by
 obtain⟨z1,z2,z3⟩:=hz;dsimp only at z1 z2 z3;have cn:∀w,Calls Tryz.prog 41 #[.string ⟨a.toArray⟩] w (GiveB w (isName a)):=fun w=>bname_any ⟨a.toArray⟩ w;have cm:∀w,Calls Tryz.prog 44 #[.agg #[.string ⟨n.toArray⟩,.string ⟨e.toArray⟩]] w (GiveB w (isR (n,e))):=fun w=>qmay_any ⟨n.toArray⟩ ⟨e.toArray⟩ w (by rw[size_of];omega) (by rw[size_of];omega);have k:Fx.okF ((a,d),(n,e))=(isName a&&(decide (0≤d)&&(decide (d≤9999)&&isR (n,e)))):=rfl;rw[k];clear k
 cases h1:isName a with
 | false=>rw[h1]at cn;exact fm_0 w (zh cn)
 | true =>
 rw[h1]at cn;by_cases h2:0≤d
 ·rw[decide_eq_true h2];by_cases h3:d≤9999
  ·rw[decide_eq_true h3];exact fm_3 h2 h3 w (zh cn) (zh cm)
  ·rw[decide_eq_false h3];exact fm_2 h2 h3 w (zh cn)
 ·rw[decide_eq_false h2];exact fm_1 h2 w (zh cn)
def GiveF(w:World)(l:List Fx.Fix)(k:Fx.FK)(e:Ending)(w':World):Prop:=(∃ (i:Nat) (b:Bool),e=.returned (.tuple #[.int .i64 i,.bool b])∧i≤l.length∧(b=true→i<l.length)∧(l.Pairwise (fun x y=>Fx.lessF x.1 y.1=true)→i=Fx.rankF l k∧b=Fx.thereF l k))∧Below w.heap.size w w'
theorem ret_ib2{i:Nat}{a b:Bool}(k:a=b):Ending.returned (.tuple #[.int .i64 i,.bool a])=.returned (.tuple #[.int .i64 i,.bool b]):=by rw[k]
theorem fsearch_any(p:Option Addr)(c:Nat)(l:List Fx.Fix)(a:List UInt8)(d:Int)(n e:List UInt8)(w:World)(hc:l.length≤c)(hl:l.length≤1000000)(h:Fxs w p l) :
  Calls Tryz.prog 97 #[.slice p l.length c,.agg #[.string ⟨a.toArray⟩,.int .i64 d,.string ⟨n.toArray⟩,.string ⟨e.toArray⟩],.func (.func 64) #[] #[]] w (GiveF w l (a,d)):=by
 go_enter Tryz.func97,Tryz.ntmps97;go_wp2_with fail;obtain⟨U,hU,bU,s1,t0,t1,t2,t3⟩:=lay4 (Below.refl w.heap.size w) (.string ⟨a.toArray⟩) (.int .i64 d) (.string ⟨n.toArray⟩) (.string ⟨e.toArray⟩) 47;rw[hU];clear hU s1;have HS:=zh (h.below bU);have BW:=zh bU;clear h bU;go_wp2_with fail
 go_loopw [9,10] (fun x y wr=>∃lo hi:Nat,x=.int .i64 lo∧y=.int .i64 hi∧lo≤hi∧hi≤l.length∧Hid ((l.Pairwise fun x y=>Fx.lessF x.1 y.1=true)→∀t x,t<lo→l[t]?=some x→Fx.lessF x.1 (a,d)=true)∧Hid ((l.Pairwise fun x y=>Fx.lessF x.1 y.1=true)→∀t x,hi≤t→l[t]?=some x→Fx.lessF x.1 (a,d)=false)∧Below U.heap.size U wr) (fun x y _=>(intOf y).toNat-(intOf x).toNat)
 case atStart=>exact⟨0,l.length,rfl,rfl,Nat.zero_le _,Nat.le_refl _,fun _ t _ h=>absurd h (Nat.not_lt_zero t),fun _ t x h e=>absurd (List.getElem?_eq_some_iff.1 e).1 (by omega),Below.refl _ _⟩
 case round =>
  obtain⟨lo,hi,rfl,rfl,hlh,hil,HL,HI,hw⟩:=hrel;by_cases hlt:lo<hi
  ·obtain⟨m,hm⟩:∃m,m=(lo+hi) / 2:=⟨_,rfl⟩;have hmi:((lo:Int)+(hi:Int)) / 2=(m:Int):=by omega
   have hmn:(lo+hi) / 2=m:=hm.symm;have hml:m<l.length:=by omega
   have hm1:lo≤m:=by omega
   have hm2:m<hi:=by omega
   clear hm;obtain⟨⟨⟨a',d'⟩,⟨n',e'⟩⟩,hx⟩:∃x,l[m]?=some x:=⟨_,List.getElem?_eq_getElem (by omega)⟩;obtain⟨b,o,rfl,k0,k1,k2,k3⟩:=fx_rule (HS.out.below hw) hx;have co:=fun w=>forder_any a' d' n' e' a d n e w;by_cases hq:Fx.ordF (a',d') (a,d)<0
   ·have HT:Hid ((l.Pairwise fun x y=>Fx.lessF x.1 y.1=true)→∀t x,t<m+1→l[t]?=some x→Fx.lessF x.1 (a,d)=true):=zh fun hp t y ht hy=>Fx.less_mono hp (show t≤m by omega) hy hx (Fx.ordF_neg.1 hq);generalize Fx.ordF (a',d') (a,d)=q at *;have CO:=zh co;clear co hx;have x0:=fun v (h:Below wr.heap.size wr v)=>t0 v (Below.more hw h);have x1:=fun v (h:Below wr.heap.size wr v)=>t1 v (Below.more hw h);have x2:=fun v (h:Below wr.heap.size wr v)=>t2 v (Below.more hw h);have x3:=fun v (h:Below wr.heap.size wr v)=>t3 v (Below.more hw h);have HW:=zh hw;have b0:=Below.refl wr.heap.size wr;have hB:=zh (Nat.le_refl wr.heap.size);clear hw t0 t1 t2 t3;go_wp2_with fail;refine wp_region_noPanic ?_;refine wp_region_held_drew (S:=fun w'=>Below wr.heap.size wr w') (by kernel_rfl) (b0.drew) (fun hH0=>?_);refine wpAnyH_take (i:=0) (v:=?_) rfl (by kernel_rfl) (by kernel_rfl) (by kernel_rfl) (fun _ _ _ h=>h) (Or.inl ⟨by rfl,?_⟩) (by assumption) ?_;rotate_left 1
    ·(intro w hSw;(try dsimp only at hSw);go_simp<;>(with_reducible rfl))
    try simp only[Act.put,qA,qB,qC,qD,qE,qF]
    refine wpAnyH_take (i:=1) (v:=?_) rfl (by kernel_rfl) (by kernel_rfl) (by kernel_rfl) (fun _ _ _ h=>h) (Or.inl ⟨by rfl,?_⟩) (by assumption) ?_;rotate_left 1
    ·(intro w hSw;(try dsimp only at hSw);go_simp<;>(with_reducible rfl))
    try simp only[Act.put,qA,qB,qC,qD,qE,qF]
    refine wpAnyH_take (i:=2) (v:=?_) rfl (by kernel_rfl) (by kernel_rfl) (by kernel_rfl) (fun _ _ _ h=>h) (Or.inl ⟨by rfl,?_⟩) (by assumption) ?_;rotate_left 1
    ·(intro w hSw;(try dsimp only at hSw);go_simp<;>(with_reducible rfl))
    try simp only[Act.put,qA,qB,qC,qD,qE,qF]
    refine wpAnyH_take (i:=3) (v:=?_) rfl (by kernel_rfl) (by kernel_rfl) (by kernel_rfl) (fun _ _ _ h=>h) (Or.inl ⟨by rfl,?_⟩) (by assumption) ?_;rotate_left 1
    ·(intro w hSw;(try dsimp only at hSw);go_simp<;>(with_reducible rfl))
    try simp only[Act.put,qA,qB,qC,qD,qE,qF]
    refine wpAnyH_take (i:=4) (v:=?_) rfl (by kernel_rfl) (by kernel_rfl) (by kernel_rfl) (fun _ _ _ h=>h) (Or.inl ⟨by rfl,?_⟩) (by assumption) ?_;rotate_left 1
    ·(intro w hSw;(try dsimp only at hSw);go_simp<;>(with_reducible rfl))
    try simp only[Act.put,qA,qB,qC,qD,qE,qF]
    refine wpAnyH_take (i:=5) (v:=?_) rfl (by kernel_rfl) (by kernel_rfl) (by kernel_rfl) (fun _ _ _ h=>h) (Or.inl ⟨by rfl,?_⟩) (by assumption) ?_;rotate_left 1
    ·(intro w hSw;(try dsimp only at hSw);go_simp<;>(with_reducible rfl))
    try simp only[Act.put,qA,qB,qC,qD,qE,qF]
    refine wpAnyH_ready (rs:=[6]) (by kernel_rfl) (by simp) ?_;refine AllReadyH.cons rfl (fun K hK=>?_) AllReadyH.nil
    go_simp
    refine(held (W:=wr) hB.out (CO.out _) (by assumption)).mono ?_;rintro e w'' ⟨rfl,hb,hw⟩
    (try go_wp2_with fail)
    refine hK.out _ _ hw (fun hH1=>?_);clear hK hH0 hb
    try simp only[Act.put,qA,qB,qC,qD,qE,qF]
    refine wpAnyH_take (i:=7) (v:=?_) rfl (by kernel_rfl) (by kernel_rfl) (by kernel_rfl) (fun _ _ _ h=>h) (Or.inl ⟨by rfl,?_⟩) (by assumption) ?_;rotate_left 1
    ·(intro w hSw;(try dsimp only at hSw);go_simp<;>(with_reducible rfl))
    try simp only[Act.put,qA,qB,qC,qD,qE,qF]
    refine wpAnyH_done (by kernel_rfl) ?_ _;refine NoPanic.normal ?_;have b3:=hw;clear hw;go_wp2_with fail;go_roundw
    case rel=>exact⟨m+1,hi,by go_num,rfl,by omega,hil,HT.out,HI.out,Below.more HW.out b3⟩
    case measure=>simp[intOf];omega
   ·have HT:Hid ((l.Pairwise fun x y=>Fx.lessF x.1 y.1=true)→∀t x,m≤t→l[t]?=some x→Fx.lessF x.1 (a,d)=false):=zh fun hp t y ht hy=>by
     cases e:Fx.lessF y.1 (a,d) with
     | false=>rfl
     | true=>exact absurd (Fx.ordF_neg.2 (Fx.less_mono hp ht hx hy e)) hq
    generalize Fx.ordF (a',d') (a,d)=q at *;have CO:=zh co;clear co hx;have x0:=fun v (h:Below wr.heap.size wr v)=>t0 v (Below.more hw h);have x1:=fun v (h:Below wr.heap.size wr v)=>t1 v (Below.more hw h);have x2:=fun v (h:Below wr.heap.size wr v)=>t2 v (Below.more hw h);have x3:=fun v (h:Below wr.heap.size wr v)=>t3 v (Below.more hw h);have HW:=zh hw;have b0:=Below.refl wr.heap.size wr;have hB:=zh (Nat.le_refl wr.heap.size);clear hw t0 t1 t2 t3;go_wp2_with fail;refine wp_region_noPanic ?_;refine wp_region_held_drew (S:=fun w'=>Below wr.heap.size wr w') (by kernel_rfl) (b0.drew) (fun hH0=>?_);refine wpAnyH_take (i:=0) (v:=?_) rfl (by kernel_rfl) (by kernel_rfl) (by kernel_rfl) (fun _ _ _ h=>h) (Or.inl ⟨by rfl,?_⟩) (by assumption) ?_;rotate_left 1
    ·(intro w hSw;(try dsimp only at hSw);go_simp<;>(with_reducible rfl))
    try simp only[Act.put,qA,qB,qC,qD,qE,qF]
    refine wpAnyH_take (i:=1) (v:=?_) rfl (by kernel_rfl) (by kernel_rfl) (by kernel_rfl) (fun _ _ _ h=>h) (Or.inl ⟨by rfl,?_⟩) (by assumption) ?_;rotate_left 1
    ·(intro w hSw;(try dsimp only at hSw);go_simp<;>(with_reducible rfl))
    try simp only[Act.put,qA,qB,qC,qD,qE,qF]
    refine wpAnyH_take (i:=2) (v:=?_) rfl (by kernel_rfl) (by kernel_rfl) (by kernel_rfl) (fun _ _ _ h=>h) (Or.inl ⟨by rfl,?_⟩) (by assumption) ?_;rotate_left 1
    ·(intro w hSw;(try dsimp only at hSw);go_simp<;>(with_reducible rfl))
    try simp only[Act.put,qA,qB,qC,qD,qE,qF]
    refine wpAnyH_take (i:=3) (v:=?_) rfl (by kernel_rfl) (by kernel_rfl) (by kernel_rfl) (fun _ _ _ h=>h) (Or.inl ⟨by rfl,?_⟩) (by assumption) ?_;rotate_left 1
    ·(intro w hSw;(try dsimp only at hSw);go_simp<;>(with_reducible rfl))
    try simp only[Act.put,qA,qB,qC,qD,qE,qF]
    refine wpAnyH_take (i:=4) (v:=?_) rfl (by kernel_rfl) (by kernel_rfl) (by kernel_rfl) (fun _ _ _ h=>h) (Or.inl ⟨by rfl,?_⟩) (by assumption) ?_;rotate_left 1
    ·(intro w hSw;(try dsimp only at hSw);go_simp<;>(with_reducible rfl))
    try simp only[Act.put,qA,qB,qC,qD,qE,qF]
    refine wpAnyH_take (i:=5) (v:=?_) rfl (by kernel_rfl) (by kernel_rfl) (by kernel_rfl) (fun _ _ _ h=>h) (Or.inl ⟨by rfl,?_⟩) (by assumption) ?_;rotate_left 1
    ·(intro w hSw;(try dsimp only at hSw);go_simp<;>(with_reducible rfl))
    try simp only[Act.put,qA,qB,qC,qD,qE,qF]
    refine wpAnyH_ready (rs:=[6]) (by kernel_rfl) (by simp) ?_;refine AllReadyH.cons rfl (fun K hK=>?_) AllReadyH.nil
    go_simp
    refine(held (W:=wr) hB.out (CO.out _) (by assumption)).mono ?_;rintro e w'' ⟨rfl,hb,hw⟩
    (try go_wp2_with fail)
    refine hK.out _ _ hw (fun hH1=>?_);clear hK hH0 hb
    try simp only[Act.put,qA,qB,qC,qD,qE,qF]
    refine wpAnyH_take (i:=7) (v:=?_) rfl (by kernel_rfl) (by kernel_rfl) (by kernel_rfl) (fun _ _ _ h=>h) (Or.inl ⟨by rfl,?_⟩) (by assumption) ?_;rotate_left 1
    ·(intro w hSw;(try dsimp only at hSw);go_simp<;>(with_reducible rfl))
    try simp only[Act.put,qA,qB,qC,qD,qE,qF]
    refine wpAnyH_done (by kernel_rfl) ?_ _;refine NoPanic.normal ?_;have b3:=hw;clear hw;go_wp2_with fail;go_roundw
    case rel=>exact⟨lo,m,rfl,rfl,hm1,by omega,HL.out,HT.out,Below.more HW.out b3⟩
    case measure=>simp[intOf];omega
  ·obtain rfl:hi=lo:=by omega
   have hr:=fun hp=>Fx.rankF_bound hil (HL.out hp) (HI.out hp);by_cases hn:hi<l.length
   ·obtain⟨⟨⟨a',d'⟩,⟨n',e'⟩⟩,hx⟩:∃x,l[hi]?=some x:=⟨_,List.getElem?_eq_getElem (by omega)⟩;obtain⟨b,o,rfl,k0,k1,k2,k3⟩:=fx_rule (HS.out.below hw) hx;have co:=fun w=>forder_any a' d' n' e' a d n e w;have HO:Hid (((l.Pairwise fun x y=>Fx.lessF x.1 y.1=true)→hi=Fx.rankF l (a,d)∧decide (Fx.ordF (a',d') (a,d)=0)=Fx.thereF l (a,d))):=zh fun hp=>⟨hr hp,(Fx.thereF_of (z:=Fx.ordF (a',d') (a,d)) (hr hp▸hx) rfl).symm⟩;generalize Fx.ordF (a',d') (a,d)=q at *;have CO:=zh co;clear co hx hr HL HI;have x0:=fun v (h:Below wr.heap.size wr v)=>t0 v (Below.more hw h);have x1:=fun v (h:Below wr.heap.size wr v)=>t1 v (Below.more hw h);have x2:=fun v (h:Below wr.heap.size wr v)=>t2 v (Below.more hw h);have x3:=fun v (h:Below wr.heap.size wr v)=>t3 v (Below.more hw h);have HW:=zh hw;have b0:=Below.refl wr.heap.size wr;have hB:=zh (Nat.le_refl wr.heap.size);clear hw t0 t1 t2 t3;by_cases hq:q=0
    ·go_wp2_with fail;refine wp_region_noPanic ?_;refine wp_region_held_drew (S:=fun w'=>Below wr.heap.size wr w') (by kernel_rfl) (b0.drew) (fun hH0=>?_);refine wpAnyH_take (i:=0) (v:=?_) rfl (by kernel_rfl) (by kernel_rfl) (by kernel_rfl) (fun _ _ _ h=>h) (Or.inl ⟨by rfl,?_⟩) (by assumption) ?_;rotate_left 1
     ·(intro w hSw;(try dsimp only at hSw);go_simp<;>(with_reducible rfl))
     try simp only[Act.put,qA,qB,qC,qD,qE,qF]
     refine wpAnyH_take (i:=1) (v:=?_) rfl (by kernel_rfl) (by kernel_rfl) (by kernel_rfl) (fun _ _ _ h=>h) (Or.inl ⟨by rfl,?_⟩) (by assumption) ?_;rotate_left 1
     ·(intro w hSw;(try dsimp only at hSw);go_simp<;>(with_reducible rfl))
     try simp only[Act.put,qA,qB,qC,qD,qE,qF]
     refine wpAnyH_take (i:=2) (v:=?_) rfl (by kernel_rfl) (by kernel_rfl) (by kernel_rfl) (fun _ _ _ h=>h) (Or.inl ⟨by rfl,?_⟩) (by assumption) ?_;rotate_left 1
     ·(intro w hSw;(try dsimp only at hSw);go_simp<;>(with_reducible rfl))
     try simp only[Act.put,qA,qB,qC,qD,qE,qF]
     refine wpAnyH_take (i:=3) (v:=?_) rfl (by kernel_rfl) (by kernel_rfl) (by kernel_rfl) (fun _ _ _ h=>h) (Or.inl ⟨by rfl,?_⟩) (by assumption) ?_;rotate_left 1
     ·(intro w hSw;(try dsimp only at hSw);go_simp<;>(with_reducible rfl))
     try simp only[Act.put,qA,qB,qC,qD,qE,qF]
     refine wpAnyH_take (i:=4) (v:=?_) rfl (by kernel_rfl) (by kernel_rfl) (by kernel_rfl) (fun _ _ _ h=>h) (Or.inl ⟨by rfl,?_⟩) (by assumption) ?_;rotate_left 1
     ·(intro w hSw;(try dsimp only at hSw);go_simp<;>(with_reducible rfl))
     try simp only[Act.put,qA,qB,qC,qD,qE,qF]
     refine wpAnyH_take (i:=5) (v:=?_) rfl (by kernel_rfl) (by kernel_rfl) (by kernel_rfl) (fun _ _ _ h=>h) (Or.inl ⟨by rfl,?_⟩) (by assumption) ?_;rotate_left 1
     ·(intro w hSw;(try dsimp only at hSw);go_simp<;>(with_reducible rfl))
     try simp only[Act.put,qA,qB,qC,qD,qE,qF]
     refine wpAnyH_take (i:=6) (v:=?_) rfl (by kernel_rfl) (by kernel_rfl) (by kernel_rfl) (fun _ _ _ h=>h) (Or.inl ⟨by rfl,?_⟩) (by assumption) ?_;rotate_left 1
     ·(intro w hSw;(try dsimp only at hSw);go_simp<;>(with_reducible rfl))
     try simp only[Act.put,qA,qB,qC,qD,qE,qF]
     refine wpAnyH_take (i:=7) (v:=?_) rfl (by kernel_rfl) (by kernel_rfl) (by kernel_rfl) (fun _ _ _ h=>h) (Or.inl ⟨by rfl,?_⟩) (by assumption) ?_;rotate_left 1
     ·(intro w hSw;(try dsimp only at hSw);go_simp<;>(with_reducible rfl))
     try simp only[Act.put,qA,qB,qC,qD,qE,qF]
     refine wpAnyH_take (i:=8) (v:=?_) rfl (by kernel_rfl) (by kernel_rfl) (by kernel_rfl) (fun _ _ _ h=>h) (Or.inl ⟨by rfl,?_⟩) (by assumption) ?_;rotate_left 1
     ·(intro w hSw;(try dsimp only at hSw);go_simp<;>(with_reducible rfl))
     try simp only[Act.put,qA,qB,qC,qD,qE,qF]
     refine wpAnyH_take (i:=9) (v:=?_) rfl (by kernel_rfl) (by kernel_rfl) (by kernel_rfl) (fun _ _ _ h=>h) (Or.inl ⟨by rfl,?_⟩) (by assumption) ?_;rotate_left 1
     ·(intro w hSw;(try dsimp only at hSw);go_simp<;>(with_reducible rfl))
     try simp only[Act.put,qA,qB,qC,qD,qE,qF]
     refine wpAnyH_take (i:=10) (v:=?_) rfl (by kernel_rfl) (by kernel_rfl) (by kernel_rfl) (fun _ _ _ h=>h) (Or.inl ⟨by rfl,?_⟩) (by assumption) ?_;rotate_left 1
     ·(intro w hSw;(try dsimp only at hSw);go_simp<;>(with_reducible rfl))
     try simp only[Act.put,qA,qB,qC,qD,qE,qF]
     refine wpAnyH_ready (rs:=[11]) (by kernel_rfl) (by simp) ?_;refine AllReadyH.cons rfl (fun K hK=>?_) AllReadyH.nil
     go_simp
     refine(held (W:=wr) hB.out (CO.out _) (by assumption)).mono ?_;rintro e w'' ⟨rfl,hb,hw⟩
     (try go_wp2_with fail)
     refine hK.out _ _ hw (fun hH1=>?_);clear hK hH0 hb
     try simp only[Act.put,qA,qB,qC,qD,qE,qF]
     refine wpAnyH_take (i:=12) (v:=?_) rfl (by kernel_rfl) (by kernel_rfl) (by kernel_rfl) (fun _ _ _ h=>h) (Or.inl ⟨by rfl,?_⟩) (by assumption) ?_;rotate_left 1
     ·(intro w hSw;(try dsimp only at hSw);go_simp<;>(with_reducible rfl))
     try simp only[Act.put,qA,qB,qC,qD,qE,qF]
     refine wpAnyH_take (i:=13) (v:=?_) rfl (by kernel_rfl) (by kernel_rfl) (by kernel_rfl) (fun _ _ _ h=>h) (Or.inl ⟨by rfl,?_⟩) (by assumption) ?_;rotate_left 1
     ·(intro w hSw;(try dsimp only at hSw);go_simp<;>(with_reducible rfl))
     try simp only[Act.put,qA,qB,qC,qD,qE,qF]
     refine wpAnyH_take (i:=14) (v:=?_) rfl (by kernel_rfl) (by kernel_rfl) (by kernel_rfl) (fun _ _ _ h=>h) (Or.inl ⟨by rfl,?_⟩) (by assumption) ?_;rotate_left 1
     ·(intro w hSw;(try dsimp only at hSw);go_simp<;>(with_reducible rfl))
     try simp only[Act.put,qA,qB,qC,qD,qE,qF]
     refine wpAnyH_take (i:=15) (v:=?_) rfl (by kernel_rfl) (by kernel_rfl) (by kernel_rfl) (fun _ _ _ h=>h) (Or.inl ⟨by rfl,?_⟩) (by assumption) ?_;rotate_left 1
     ·(intro w hSw;(try dsimp only at hSw);go_simp<;>(with_reducible rfl))
     try simp only[Act.put,qA,qB,qC,qD,qE,qF]
     refine wpAnyH_done (by kernel_rfl) ?_ _;refine NoPanic.normal ?_;have b3:=hw;clear hw;go_wp2_with fail
     go_ret2
     exact⟨⟨hi,true,rfl,by omega,fun _=>hn,fun hp=>⟨(HO.out hp).1,by rw[←(HO.out hp).2,decide_eq_true hq]⟩⟩,Below.more BW.out (Below.more HW.out b3)⟩
    ·go_wp2_with fail;refine wp_region_noPanic ?_;refine wp_region_held_drew (S:=fun w'=>Below wr.heap.size wr w') (by kernel_rfl) (b0.drew) (fun hH0=>?_);refine wpAnyH_take (i:=0) (v:=?_) rfl (by kernel_rfl) (by kernel_rfl) (by kernel_rfl) (fun _ _ _ h=>h) (Or.inl ⟨by rfl,?_⟩) (by assumption) ?_;rotate_left 1
     ·(intro w hSw;(try dsimp only at hSw);go_simp<;>(with_reducible rfl))
     try simp only[Act.put,qA,qB,qC,qD,qE,qF]
     refine wpAnyH_take (i:=1) (v:=?_) rfl (by kernel_rfl) (by kernel_rfl) (by kernel_rfl) (fun _ _ _ h=>h) (Or.inl ⟨by rfl,?_⟩) (by assumption) ?_;rotate_left 1
     ·(intro w hSw;(try dsimp only at hSw);go_simp<;>(with_reducible rfl))
     try simp only[Act.put,qA,qB,qC,qD,qE,qF]
     refine wpAnyH_take (i:=2) (v:=?_) rfl (by kernel_rfl) (by kernel_rfl) (by kernel_rfl) (fun _ _ _ h=>h) (Or.inl ⟨by rfl,?_⟩) (by assumption) ?_;rotate_left 1
     ·(intro w hSw;(try dsimp only at hSw);go_simp<;>(with_reducible rfl))
     try simp only[Act.put,qA,qB,qC,qD,qE,qF]
     refine wpAnyH_take (i:=3) (v:=?_) rfl (by kernel_rfl) (by kernel_rfl) (by kernel_rfl) (fun _ _ _ h=>h) (Or.inl ⟨by rfl,?_⟩) (by assumption) ?_;rotate_left 1
     ·(intro w hSw;(try dsimp only at hSw);go_simp<;>(with_reducible rfl))
     try simp only[Act.put,qA,qB,qC,qD,qE,qF]
     refine wpAnyH_take (i:=4) (v:=?_) rfl (by kernel_rfl) (by kernel_rfl) (by kernel_rfl) (fun _ _ _ h=>h) (Or.inl ⟨by rfl,?_⟩) (by assumption) ?_;rotate_left 1
     ·(intro w hSw;(try dsimp only at hSw);go_simp<;>(with_reducible rfl))
     try simp only[Act.put,qA,qB,qC,qD,qE,qF]
     refine wpAnyH_take (i:=5) (v:=?_) rfl (by kernel_rfl) (by kernel_rfl) (by kernel_rfl) (fun _ _ _ h=>h) (Or.inl ⟨by rfl,?_⟩) (by assumption) ?_;rotate_left 1
     ·(intro w hSw;(try dsimp only at hSw);go_simp<;>(with_reducible rfl))
     try simp only[Act.put,qA,qB,qC,qD,qE,qF]
     refine wpAnyH_take (i:=6) (v:=?_) rfl (by kernel_rfl) (by kernel_rfl) (by kernel_rfl) (fun _ _ _ h=>h) (Or.inl ⟨by rfl,?_⟩) (by assumption) ?_;rotate_left 1
     ·(intro w hSw;(try dsimp only at hSw);go_simp<;>(with_reducible rfl))
     try simp only[Act.put,qA,qB,qC,qD,qE,qF]
     refine wpAnyH_take (i:=7) (v:=?_) rfl (by kernel_rfl) (by kernel_rfl) (by kernel_rfl) (fun _ _ _ h=>h) (Or.inl ⟨by rfl,?_⟩) (by assumption) ?_;rotate_left 1
     ·(intro w hSw;(try dsimp only at hSw);go_simp<;>(with_reducible rfl))
     try simp only[Act.put,qA,qB,qC,qD,qE,qF]
     refine wpAnyH_take (i:=8) (v:=?_) rfl (by kernel_rfl) (by kernel_rfl) (by kernel_rfl) (fun _ _ _ h=>h) (Or.inl ⟨by rfl,?_⟩) (by assumption) ?_;rotate_left 1
     ·(intro w hSw;(try dsimp only at hSw);go_simp<;>(with_reducible rfl))
     try simp only[Act.put,qA,qB,qC,qD,qE,qF]
     refine wpAnyH_take (i:=9) (v:=?_) rfl (by kernel_rfl) (by kernel_rfl) (by kernel_rfl) (fun _ _ _ h=>h) (Or.inl ⟨by rfl,?_⟩) (by assumption) ?_;rotate_left 1
     ·(intro w hSw;(try dsimp only at hSw);go_simp<;>(with_reducible rfl))
     try simp only[Act.put,qA,qB,qC,qD,qE,qF]
     refine wpAnyH_take (i:=10) (v:=?_) rfl (by kernel_rfl) (by kernel_rfl) (by kernel_rfl) (fun _ _ _ h=>h) (Or.inl ⟨by rfl,?_⟩) (by assumption) ?_;rotate_left 1
     ·(intro w hSw;(try dsimp only at hSw);go_simp<;>(with_reducible rfl))
     try simp only[Act.put,qA,qB,qC,qD,qE,qF]
     refine wpAnyH_ready (rs:=[11]) (by kernel_rfl) (by simp) ?_;refine AllReadyH.cons rfl (fun K hK=>?_) AllReadyH.nil
     go_simp
     refine(held (W:=wr) hB.out (CO.out _) (by assumption)).mono ?_;rintro e w'' ⟨rfl,hb,hw⟩
     (try go_wp2_with fail)
     refine hK.out _ _ hw (fun hH1=>?_);clear hK hH0 hb
     try simp only[Act.put,qA,qB,qC,qD,qE,qF]
     refine wpAnyH_take (i:=12) (v:=?_) rfl (by kernel_rfl) (by kernel_rfl) (by kernel_rfl) (fun _ _ _ h=>h) (Or.inl ⟨by rfl,?_⟩) (by assumption) ?_;rotate_left 1
     ·(intro w hSw;(try dsimp only at hSw);go_simp<;>(with_reducible rfl))
     try simp only[Act.put,qA,qB,qC,qD,qE,qF]
     refine wpAnyH_take (i:=13) (v:=?_) rfl (by kernel_rfl) (by kernel_rfl) (by kernel_rfl) (fun _ _ _ h=>h) (Or.inl ⟨by rfl,?_⟩) (by assumption) ?_;rotate_left 1
     ·(intro w hSw;(try dsimp only at hSw);go_simp<;>(with_reducible rfl))
     try simp only[Act.put,qA,qB,qC,qD,qE,qF]
     refine wpAnyH_take (i:=14) (v:=?_) rfl (by kernel_rfl) (by kernel_rfl) (by kernel_rfl) (fun _ _ _ h=>h) (Or.inl ⟨by rfl,?_⟩) (by assumption) ?_;rotate_left 1
     ·(intro w hSw;(try dsimp only at hSw);go_simp<;>(with_reducible rfl))
     try simp only[Act.put,qA,qB,qC,qD,qE,qF]
     refine wpAnyH_take (i:=15) (v:=?_) rfl (by kernel_rfl) (by kernel_rfl) (by kernel_rfl) (fun _ _ _ h=>h) (Or.inl ⟨by rfl,?_⟩) (by assumption) ?_;rotate_left 1
     ·(intro w hSw;(try dsimp only at hSw);go_simp<;>(with_reducible rfl))
     try simp only[Act.put,qA,qB,qC,qD,qE,qF]
     refine wpAnyH_done (by kernel_rfl) ?_ _;refine NoPanic.normal ?_;have b3:=hw;clear hw;go_wp2_with fail
     go_ret2
     exact⟨⟨hi,false,by first|rfl|exact ret_ib2 (beq_false_of_ne hq),by omega,(fun h=>by cases h),fun hp=>⟨(HO.out hp).1,by rw[←(HO.out hp).2,decide_eq_false hq]⟩⟩,Below.more BW.out (Below.more HW.out b3)⟩
   ·have HO:Hid (((l.Pairwise fun x y=>Fx.lessF x.1 y.1=true)→hi=Fx.rankF l (a,d)∧false=Fx.thereF l (a,d))):=zh fun hp=>⟨hr hp,(Fx.thereF_no (by rw[←hr hp];omega)).symm⟩;clear hr HL HI;have x0:=fun v (h:Below wr.heap.size wr v)=>t0 v (Below.more hw h);have x1:=fun v (h:Below wr.heap.size wr v)=>t1 v (Below.more hw h);have x2:=fun v (h:Below wr.heap.size wr v)=>t2 v (Below.more hw h);have x3:=fun v (h:Below wr.heap.size wr v)=>t3 v (Below.more hw h);have HW:=zh hw;have b0:=Below.refl wr.heap.size wr;have hB:=zh (Nat.le_refl wr.heap.size);clear hw t0 t1 t2 t3;go_wp2_with fail;refine wp_region_noPanic ?_;refine wp_region_held_drew (S:=fun w'=>Below wr.heap.size wr w') (by kernel_rfl) (b0.drew) (fun hH0=>?_);refine wpAnyH_take (i:=0) (v:=?_) rfl (by kernel_rfl) (by kernel_rfl) (by kernel_rfl) (fun _ _ _ h=>h) (Or.inl ⟨by rfl,?_⟩) (by assumption) ?_;rotate_left 1
    ·(intro w hSw;(try dsimp only at hSw);go_simp<;>(with_reducible rfl))
    try simp only[Act.put,qA,qB,qC,qD,qE,qF]
    refine wpAnyH_take (i:=1) (v:=?_) rfl (by kernel_rfl) (by kernel_rfl) (by kernel_rfl) (fun _ _ _ h=>h) (Or.inl ⟨by rfl,?_⟩) (by assumption) ?_;rotate_left 1
    ·(intro w hSw;(try dsimp only at hSw);go_simp<;>(with_reducible rfl))
    try simp only[Act.put,qA,qB,qC,qD,qE,qF]
    refine wpAnyH_take (i:=2) (v:=?_) rfl (by kernel_rfl) (by kernel_rfl) (by kernel_rfl) (fun _ _ _ h=>h) (Or.inl ⟨by rfl,?_⟩) (by assumption) ?_;rotate_left 1
    ·(intro w hSw;(try dsimp only at hSw);go_simp<;>(with_reducible rfl))
    try simp only[Act.put,qA,qB,qC,qD,qE,qF]
    refine wpAnyH_take (i:=3) (v:=?_) rfl (by kernel_rfl) (by kernel_rfl) (by kernel_rfl) (fun _ _ _ h=>h) (Or.inl ⟨by rfl,?_⟩) (by assumption) ?_;rotate_left 1
    ·(intro w hSw;(try dsimp only at hSw);go_simp<;>(with_reducible rfl))
    try simp only[Act.put,qA,qB,qC,qD,qE,qF]
    refine wpAnyH_take (i:=4) (v:=?_) rfl (by kernel_rfl) (by kernel_rfl) (by kernel_rfl) (fun _ _ _ h=>h) (Or.inl ⟨by rfl,?_⟩) (by assumption) ?_;rotate_left 1
    ·(intro w hSw;(try dsimp only at hSw);go_simp<;>(with_reducible rfl))
    try simp only[Act.put,qA,qB,qC,qD,qE,qF]
    refine wpAnyH_take (i:=5) (v:=undef) rfl (by kernel_rfl) (by kernel_rfl) (by kernel_rfl) (fun _ _ _ h=>h) (Or.inr ⟨by rfl,rfl⟩) (by assumption) ?_
    try simp only[Act.put,qA,qB,qC,qD,qE,qF]
    refine wpAnyH_take (i:=6) (v:=undef) rfl (by kernel_rfl) (by kernel_rfl) (by kernel_rfl) (fun _ _ _ h=>h) (Or.inr ⟨by rfl,rfl⟩) (by assumption) ?_
    try simp only[Act.put,qA,qB,qC,qD,qE,qF]
    refine wpAnyH_take (i:=7) (v:=undef) rfl (by kernel_rfl) (by kernel_rfl) (by kernel_rfl) (fun _ _ _ h=>h) (Or.inr ⟨by rfl,rfl⟩) (by assumption) ?_
    try simp only[Act.put,qA,qB,qC,qD,qE,qF]
    refine wpAnyH_take (i:=8) (v:=undef) rfl (by kernel_rfl) (by kernel_rfl) (by kernel_rfl) (fun _ _ _ h=>h) (Or.inr ⟨by rfl,rfl⟩) (by assumption) ?_
    try simp only[Act.put,qA,qB,qC,qD,qE,qF]
    refine wpAnyH_take (i:=9) (v:=undef) rfl (by kernel_rfl) (by kernel_rfl) (by kernel_rfl) (fun _ _ _ h=>h) (Or.inr ⟨by rfl,rfl⟩) (by assumption) ?_
    try simp only[Act.put,qA,qB,qC,qD,qE,qF]
    refine wpAnyH_take (i:=10) (v:=undef) rfl (by kernel_rfl) (by kernel_rfl) (by kernel_rfl) (fun _ _ _ h=>h) (Or.inr ⟨by rfl,rfl⟩) (by assumption) ?_
    try simp only[Act.put,qA,qB,qC,qD,qE,qF]
    refine wpAnyH_take (i:=11) (v:=undef) rfl (by kernel_rfl) (by kernel_rfl) (by kernel_rfl) (fun _ _ _ h=>h) (Or.inr ⟨by rfl,rfl⟩) (by assumption) ?_
    try simp only[Act.put,qA,qB,qC,qD,qE,qF]
    refine wpAnyH_take (i:=12) (v:=undef) rfl (by kernel_rfl) (by kernel_rfl) (by kernel_rfl) (fun _ _ _ h=>h) (Or.inr ⟨by rfl,rfl⟩) (by assumption) ?_
    try simp only[Act.put,qA,qB,qC,qD,qE,qF]
    refine wpAnyH_take (i:=13) (v:=?_) rfl (by kernel_rfl) (by kernel_rfl) (by kernel_rfl) (fun _ _ _ h=>h) (Or.inl ⟨by rfl,?_⟩) (by assumption) ?_;rotate_left 1
    ·(intro w hSw;(try dsimp only at hSw);go_simp<;>(with_reducible rfl))
    try simp only[Act.put,qA,qB,qC,qD,qE,qF]
    refine wpAnyH_take (i:=14) (v:=?_) rfl (by kernel_rfl) (by kernel_rfl) (by kernel_rfl) (fun _ _ _ h=>h) (Or.inl ⟨by rfl,?_⟩) (by assumption) ?_;rotate_left 1
    ·(intro w hSw;(try dsimp only at hSw);go_simp<;>(with_reducible rfl))
    try simp only[Act.put,qA,qB,qC,qD,qE,qF]
    refine wpAnyH_take (i:=15) (v:=?_) rfl (by kernel_rfl) (by kernel_rfl) (by kernel_rfl) (fun _ _ _ h=>h) (Or.inl ⟨by rfl,?_⟩) (by assumption) ?_;rotate_left 1
    ·(intro w hSw;(try dsimp only at hSw);go_simp<;>(with_reducible rfl))
    try simp only[Act.put,qA,qB,qC,qD,qE,qF]
    refine wpAnyH_done (by kernel_rfl) ?_ _;refine NoPanic.normal ?_;have b3:=hH0;clear hH0;go_wp2_with fail
    go_ret2
    exact⟨⟨hi,false,rfl,by omega,(fun h=>by cases h),HO.out⟩,Below.more BW.out (Below.more HW.out b3)⟩
theorem ffind_any(p:Option Addr)(c:Nat)(l:List Fx.Fix)(a:List UInt8)(d:Int)(n e:List UInt8)(w:World)(hc:l.length≤c)(hl:l.length≤1000000)(h:Fxs w p l) :
  Calls Tryz.prog 65 #[.slice p l.length c,.agg #[.string ⟨a.toArray⟩,.int .i64 d,.string ⟨n.toArray⟩,.string ⟨e.toArray⟩]] w (GiveF w l (a,d)):=by
 have cs:=fun v (hv:Below w.heap.size w v)=>fsearch_any p c l a d n e v hc hl (h.below hv);have CS:=zh cs;clear cs h;go_enter Tryz.func65,Tryz.ntmps65;go_wp2_with fail;obtain⟨U,hU,bU,s1,t0,t1,t2,t3⟩:=lay4 (Below.refl w.heap.size w) (.string ⟨a.toArray⟩) (.int .i64 d) (.string ⟨n.toArray⟩) (.string ⟨e.toArray⟩) 47;rw[hU];clear hU s1;have b0:=Below.refl U.heap.size U;go_wp2_with fail;refine(CS.out _ bU).mono ?_;rintro e0 w1 ⟨⟨i,z,rfl,g1,g2,g3⟩,b⟩;have b1:=Below.more b0 b;have H3:=zh g3;clear b g3;go_wp2_with fail
 go_ret2
 exact⟨⟨i,z,rfl,g1,g2,H3.out⟩,Below.more bU b1⟩
end Go.Proofs.YthgopcnagecbaaaGreatDoor
