/- Own work. -/
import Derived.Test.YtghioekjghmdaaaGreatDoorSortL
import Derived.Test.YtghioekjghmdaaaGreatDoorAllEv1
import Derived.Test.YtghioekjghmdaaaGreatDoorEvQM
set_option linter.unusedSimpArgs false
set_option linter.unusedVariables false
namespace Go.Proofs.YtghioekjghmdaaaGreatDoor
open Go.RowKit Go.Sort Go.Shelf
def cfF(x y:Fx.Fix):Int:=Fx.ordF x.1 y.1
theorem lt_cfF(x y:Fx.Fix):ltOf cfF x y=Fx.lessF x.1 y.1:=by
 unfold ltOf cfF
 cases h:Fx.lessF x.1 y.1 with
 | true=>exact decide_eq_true (Fx.ordF_neg.2 h)
 | false=>exact decide_eq_false fun k=>by rw[Fx.ordF_neg.1 k]at h;cases h
theorem swoF:SWO (ltOf cfF) where
 irrefl x:=by rw[lt_cfF];exact Fx.lt_irrefl _
 trans x y z h k:=by rw[lt_cfF]at *;exact Fx.lt_trans h k
 ntrans x y z h k:=by
  rw[lt_cfF]at *;rcases Fx.lt_cases x.1 y.1 with c|c|c
  ·rw[c]at h;cases h
  ·rw[c];exact k
  ·rcases Fx.lt_cases y.1 z.1 with c2|c2|c2
   ·rw[c2]at k;cases k
   ·rw[←c2];exact h
   ·exact Fx.lt_asym (Fx.lt_trans c2 c)
theorem cmpF(blk off size:Nat)(w:World):CmpLays Tryz.prog 63 #[] encFx 4 cfF blk off size w:=fun m os dk _ x y=>by
 obtain⟨⟨a,s⟩,⟨n,d⟩⟩:=x;obtain⟨⟨c,t⟩,⟨k,e⟩⟩:=y;refine(eorderG_any a s n d c t k e _).mono ?_;rintro e' w' ⟨rfl,q,ot,rfl⟩;exact⟨rfl,q,ot,rfl⟩
theorem isAggF(w:World):(isAgg 39).run Tryz.prog w=.ok true w:=by kernel_rfl
theorem sizeF(w:World):(Go.sizeOf 39).run Tryz.prog w=.ok 4 w:=by kernel_rfl
theorem enters_orderF:∀ (args:Array Value) (w:World),(callFunc 63 args).run Tryz.prog w=.ok (.enter 63 args) w:=enters_of Tryz.func63 (by kernel_rfl) rfl
theorem holdsG_of{α:Type}[Inhabited α]{enc:α→List Value}{k:Nat}(hk:∀x,(enc x).length=k)(h0:0<k){w:World}{g:Nat}{ls:List α}{cur:Array Value}{e:TypeId}(hg:w.heap[g]?=some (.cells cur e (0,0)))(h:RowsG enc k w (some ⟨g,0,none⟩) ls):HoldsK enc k w g 0 ls.toArray:=fun j hj=>by
 rw[size_flatK]at hj;have hj:j<ls.length*k:=hj;have hq:j / k<ls.length:=(Nat.div_lt_iff_lt_mul h0).2 hj;have hr:j % k<k:=Nat.mod_lt _ h0;obtain⟨b,o,hp,hl,c⟩:=h (j / k) _ (List.getElem?_eq_getElem hq)
 cases hp
 have e1:(ls.toArray)[j / k]! = ls[j / k]:=by rw[getElem!_pos ls.toArray (j / k) (by simpa using hq)];rfl
 rw[get_flatK _ _ _ _ (by simpa using hj),e1];refine⟨?_,by simp[World.frozen?,hg]⟩;have hx:(enc ls[j / k])[j % k]?=some ((enc ls[j / k])[j % k]!):=by
  rw[List.getElem!_eq_getElem?_getD,List.getElem?_eq_getElem (by rw[hk];exact hr)];rfl
 have:=c (j % k) _ hx;rw[Nat.zero_add]at this ⊢;rw[show j / k*k+j % k=j by rw[Nat.mul_comm];exact Nat.div_add_mod j k]at this;exact this
theorem sortW_own{blk off m:Nat}{α:Type}[Inhabited α]{enc:α→List Value}{k:Nat}{w:World}{d:Array α}{os:Array Obj}(hb:blk<w.heap.size):w.grownBy (sortWorldK enc k w blk off m d os) (some blk):=by
 refine⟨rfl,rfl,rfl,size_sortWorldK_c enc k w blk off m d os,fun j hk hne=>?_⟩;unfold sortWorldK putRowK putRow mapBlock Go.Sort.ahead grow;simp only[Array.getElem?_append,Array.size_modify,hk,if_true,Array.getElem?_modify];rw[if_neg (fun e=>hne (by rw[e]))]
theorem esort_any{B:Nat}(v:Value)(ls:List Fx.Fix)(w:World)(h:OwnX B w v ls)(hl:ls.length≤1000000) :
  Calls Tryz.prog 62 #[v,.func (.func 63) #[] #[]] w fun e w'=>e=.returned (.tuple #[]) ∧
   ((v=.slice none 0 0∧ls=[]∧w'=w)∨∃g c d,v=.slice (some ⟨g,0,none⟩) d.size c∧d.size≤c∧B≤g∧g<w'.heap.size∧d.toList.Perm ls∧d.toList.Pairwise (fun x y=>Fx.lessF y.1 x.1=false)∧HoldsK encFx 4 w' g 0 d∧w.grownBy w' (some g)):=by
 obtain⟨p,c,rfl,hc,hL,hf⟩:=ownG_rows (enc:=encFx) (k:=4) (fun _=>rfl) h;rcases h.2 with ⟨hv,h0⟩|⟨g,cap,cur,hv,k2,k3,k4,k5⟩
 ·have:ls=[]:=List.length_eq_zero_iff.1 h0;subst this;have k:=AnyF.slices_SortFunc_none Tryz.sortLn p c (.func (.func 63) #[] #[]) w
  change Calls Tryz.prog 62 _ _ _ at k
  refine k.mono ?_;rintro e w' ⟨rfl,rfl⟩;exact⟨rfl,.inl ⟨hv,rfl,rfl⟩⟩
 ·cases hv
  have hg:g<w.heap.size:=(Array.getElem?_eq_some_iff.1 k3).1;have hH:=holdsG_of (enc:=encFx) (k:=4) (fun _=>rfl) (by decide) k3 hL;have k:=AnyQ.slices_SortFunc Tryz.sortLn 4 (fun w=>isAggF w) (fun w=>sizeF w) encFx (fun _=>rfl) encFx_one cfF swoF 63 #[] g 0 c ls.toArray w enters_orderF (cmpF _ _ _ _) hH hg (by rw[List.size_toArray];omega)
  change Calls Tryz.prog 62 _ _ _ at k
  rw[List.size_toArray]at k;refine k.mono ?_;rintro e w' ⟨rfl,d,n,os,hp,hs,rfl⟩;have hsz:d.size=ls.length:=by rw[hp.1,List.size_toArray]
  have hperm:d.toList.Perm ls:=by
   have k:=hp.2.2;have e1:(d.extract 0 ls.length).toList=d.toList:=by rw[←hsz,Array.extract_size]
   have e2:(ls.toArray.extract 0 ls.length).toList=ls:=by simp
   rw[e1,e2]at k;exact k
  have hpw:d.toList.Pairwise (fun x y=>Fx.lessF y.1 x.1=false):=List.pairwise_iff_getElem.2 fun i j hi hj hij=>by
   have hi':i<d.size:=by simpa using hi
   have hj':j<d.size:=by simpa using hj
   have hs:SortedIn (ltOf cfF) 0 d.size d:=by rw[hsz];exact hs
   have k:=hs i j (Nat.zero_le _) hij hj';rw[lt_cfF,getElem!_pos d i hi',getElem!_pos d j hj']at k;exact k
  exact⟨rfl,.inr ⟨g,c,d,by rw[hsz],by rw[hsz];exact hc,k2,Nat.lt_of_lt_of_le hg (size_sortWorldK_c encFx 4 w g 0 n d os),hperm,hpw,holdsK_sortWorldK_c encFx 4 w g 0 ls.toArray d n os hH hg (by rw[hsz,List.size_toArray]),sortW_own hg⟩⟩
end Go.Proofs.YtghioekjghmdaaaGreatDoor
namespace Go.Proofs.YtghioekjghmdaaaGreatDoor
open Go.RowKit
def ShP(x:Rat):Prop:=(rd x).1.length≤19500∧(rd x).2.length≤19500
theorem pcmp{x y:Rat}(h1:(rd x).1.length≤19500∧(rd x).2.length≤19500)(h2:(rd y).1.length≤19500∧(rd y).2.length≤19500){s:Int}(hs:sgnQ (x-y)=s)(V:World):Calls Tryz.prog 147 #[.agg #[.string ⟨(rd x).1.toArray⟩,.string ⟨(rd x).2.toArray⟩],.agg #[.string ⟨(rd y).1.toArray⟩,.string ⟨(rd y).2.toArray⟩]] V (GiveI V s):=by
 have c:=qcmp_any ⟨(rd x).1.toArray⟩ ⟨(rd x).2.toArray⟩ ⟨(rd y).1.toArray⟩ ⟨(rd y).2.toArray⟩ V (by rw[size_of];omega) (by rw[size_of];omega) (by rw[size_of];omega) (by rw[size_of];omega);have e:cmpR (rd x) (rd y)=s:=by unfold cmpR;rw[isR_rd,isR_rd,valR_rd,valR_rd];exact hs
 rw[←e];exact c
theorem padd{x y:Rat}(hx:ShP x)(hy:ShP y)(V:World):Calls Tryz.prog 144 #[.agg #[.string ⟨(rd x).1.toArray⟩,.string ⟨(rd x).2.toArray⟩],.agg #[.string ⟨(rd y).1.toArray⟩,.string ⟨(rd y).2.toArray⟩]] V (GiveR V (rd (x+y))):=by
 have c:=qadd_any ⟨(rd x).1.toArray⟩ ⟨(rd x).2.toArray⟩ ⟨(rd y).1.toArray⟩ ⟨(rd y).2.toArray⟩ V (by rw[size_of];have:=hx.1;omega) (by rw[size_of];have:=hx.2;omega) (by rw[size_of];have:=hy.1;omega) (by rw[size_of];have:=hy.2;omega);have e:addR (rd x) (rd y)=rd (x+y):=by unfold addR;rw[isR_rd,isR_rd,valR_rd,valR_rd];rfl
 rw[←e];exact c
theorem psub{x y:Rat}(hx:ShP x)(hy:ShP y)(V:World):Calls Tryz.prog 145 #[.agg #[.string ⟨(rd x).1.toArray⟩,.string ⟨(rd x).2.toArray⟩],.agg #[.string ⟨(rd y).1.toArray⟩,.string ⟨(rd y).2.toArray⟩]] V (GiveR V (rd (x-y))):=by
 have c:=qsub_any ⟨(rd x).1.toArray⟩ ⟨(rd x).2.toArray⟩ ⟨(rd y).1.toArray⟩ ⟨(rd y).2.toArray⟩ V (by rw[size_of];have:=hx.1;omega) (by rw[size_of];have:=hx.2;omega) (by rw[size_of];have:=hy.1;omega) (by rw[size_of];have:=hy.2;omega);have e:subR (rd x) (rd y)=rd (x-y):=by unfold subR;rw[isR_rd,isR_rd,valR_rd,valR_rd];rfl
 rw[←e];exact c
theorem pmul{x y:Rat}(hx:ShP x)(hy:ShP y)(V:World):Calls Tryz.prog 146 #[.agg #[.string ⟨(rd x).1.toArray⟩,.string ⟨(rd x).2.toArray⟩],.agg #[.string ⟨(rd y).1.toArray⟩,.string ⟨(rd y).2.toArray⟩]] V (GiveR V (rd (x*y))):=by
 have c:=qmul_any ⟨(rd x).1.toArray⟩ ⟨(rd x).2.toArray⟩ ⟨(rd y).1.toArray⟩ ⟨(rd y).2.toArray⟩ V (by rw[size_of];have:=hx.1;omega) (by rw[size_of];have:=hx.2;omega) (by rw[size_of];have:=hy.1;omega) (by rw[size_of];have:=hy.2;omega);have e:mulR (rd x) (rd y)=rd (x*y):=by unfold mulR;rw[isR_rd,isR_rd,valR_rd,valR_rd];rfl
 rw[←e];exact c
theorem pdiv{x y:Rat}(hx:ShP x)(hy:ShP y)(V:World)(h0:y≠0):Calls Tryz.prog 136 #[.agg #[.string ⟨(rd x).1.toArray⟩,.string ⟨(rd x).2.toArray⟩],.agg #[.string ⟨(rd y).1.toArray⟩,.string ⟨(rd y).2.toArray⟩]] V (GiveRB V ((rd (x / y),true))):=by
 have c:=qdiv_any ⟨(rd x).1.toArray⟩ ⟨(rd x).2.toArray⟩ ⟨(rd y).1.toArray⟩ ⟨(rd y).2.toArray⟩ V (by rw[size_of];have:=hx.1;omega) (by rw[size_of];have:=hx.2;omega) (by rw[size_of];have:=hy.1;omega) (by rw[size_of];have:=hy.2;omega);have e:divR (rd x) (rd y)=(rd (x / y),true):=by unfold divR;rw[isR_rd,isR_rd,valR_rd,valR_rd,beq_false_of_ne h0];rfl
 rw[←e];exact c
theorem pdiv0{x:Rat}(hx:ShP x)(V:World):Calls Tryz.prog 136 #[.agg #[.string ⟨(rd x).1.toArray⟩,.string ⟨(rd x).2.toArray⟩],.agg #[.string ⟨(rd 0).1.toArray⟩,.string ⟨(rd 0).2.toArray⟩]] V (GiveRB V (([],[]),false)):=by
 have c:=qdiv_any ⟨(rd x).1.toArray⟩ ⟨(rd x).2.toArray⟩ ⟨(rd 0).1.toArray⟩ ⟨(rd 0).2.toArray⟩ V (by rw[size_of];have:=hx.1;omega) (by rw[size_of];have:=hx.2;omega) (by rw[size_of];exact(by decide +kernel:(rd 0).1.length≤20000)) (by rw[size_of];exact(by decide +kernel:(rd 0).2.length≤20000));have e:divR (rd x) (rd 0)=(([],[]),false):=by unfold divR;rw[isR_rd,isR_rd,valR_rd,valR_rd,beq_self_eq_true];rfl
 rw[←e];exact c
theorem pneg{x:Rat}(hx:ShP x)(V:World):Calls Tryz.prog 106 #[.agg #[.string ⟨(rd x).1.toArray⟩,.string ⟨(rd x).2.toArray⟩]] V (GiveR V (rd (-x))):=by
 have c:=qneg_any ⟨(rd x).1.toArray⟩ ⟨(rd x).2.toArray⟩ V (by rw[size_of];have:=hx.1;omega) (by rw[size_of];have:=hx.2;omega);have e:negR (rd x)=rd (-x):=by unfold negR;rw[isR_rd,valR_rd];rfl
 rw[←e];exact c
theorem psign{x:Rat}(hx:ShP x)(V:World):Calls Tryz.prog 107 #[.agg #[.string ⟨(rd x).1.toArray⟩,.string ⟨(rd x).2.toArray⟩]] V (GiveI V (sgnQ x)):=by
 have c:=qsign_any ⟨(rd x).1.toArray⟩ ⟨(rd x).2.toArray⟩ V (by rw[size_of];have:=hx.1;omega) (by rw[size_of];have:=hx.2;omega);have e:sgnR (rd x)=sgnQ x:=by unfold sgnR;rw[isR_rd,valR_rd];rfl
 rw[←e];exact c
end Go.Proofs.YtghioekjghmdaaaGreatDoor
set_option maxHeartbeats 4000000
set_option maxRecDepth 100000
namespace Go.Proofs.YtghioekjghmdaaaGreatDoor
open Go.RowKit
open Tm (Nd okN)
theorem epriced_any(op a b:Int)(n e s:List UInt8)(w:World):Calls Tryz.prog 60 #[.agg #[.int .i64 op,.string ⟨n.toArray⟩,.string ⟨e.toArray⟩,.string ⟨s.toArray⟩,.int .i64 a,.int .i64 b]] w (GiveB w (!(s == []))):=by
 cases h:(s == [])<;>(
  go_enter Tryz.func60,Tryz.ntmps60;go_wp2_with fail;go_ret;exact⟨ret_bool (by first|rfl|simp_all),Below.alloc (Below.refl w.heap.size w) (Nat.le_refl _) _⟩)
theorem elastP_any(op a b:Int)(n e s:List UInt8)(w:World):Calls Tryz.prog 61 #[.agg #[.int .i64 op,.string ⟨n.toArray⟩,.string ⟨e.toArray⟩,.string ⟨s.toArray⟩,.int .i64 a,.int .i64 b]] w (GiveI w (max a b)):=by
 go_enter Tryz.func61,Tryz.ntmps61;go_wp2_with fail;go_ret;exact⟨rfl,Below.alloc (Below.refl w.heap.size w) (Nat.le_refl _) _⟩
theorem edear_any(a:List UInt8)(d:Int)(n e c:List UInt8)(f:Int)(m g:List UInt8)(w:World)(hn:n.length≤20000)(he:e.length≤20000)(hm:m.length≤20000)(hg:g.length≤20000) :
  Calls Tryz.prog 140 #[.agg #[.string ⟨a.toArray⟩,.int .i64 d,.string ⟨n.toArray⟩,.string ⟨e.toArray⟩],.agg #[.string ⟨c.toArray⟩,.int .i64 f,.string ⟨m.toArray⟩,.string ⟨g.toArray⟩]] w (GiveI w (cmpR (n,e) (m,g))):=by
 have CC:=zh fun V=>qcmp_any ⟨n.toArray⟩ ⟨e.toArray⟩ ⟨m.toArray⟩ ⟨g.toArray⟩ V (by rw[size_of];exact hn) (by rw[size_of];exact he) (by rw[size_of];exact hm) (by rw[size_of];exact hg);obtain⟨z,hz⟩:∃z,cmpR (n,e) (m,g)=z:=⟨_,rfl⟩;rw[hz]
 change Hid (∀V,Calls _ _ _ V (GiveI V (cmpR (n,e) (m,g)))) at CC
 rw[hz]at CC;clear hz hn he hm hg;go_enter Tryz.func140,Tryz.ntmps140;go_wp2_with fail;obtain⟨U1,hU,bU,s1,rx0,rx1,rx2,rx3⟩:=lay4 (Below.refl w.heap.size w) (.string ⟨a.toArray⟩) (.int .i64 d) (.string ⟨n.toArray⟩) (.string ⟨e.toArray⟩) 39;rw[hU];clear hU;obtain⟨U2,hU,bV,s2,ry0,ry1,ry2,ry3⟩:=lay4 (Below.refl U1.heap.size U1) (.string ⟨c.toArray⟩) (.int .i64 f) (.string ⟨m.toArray⟩) (.string ⟨g.toArray⟩) 39;rw[hU];clear hU;replace rx2:=fun v (h:Below U2.heap.size U2 v)=>rx2 v (Below.more bV h);replace rx3:=fun v (h:Below U2.heap.size U2 v)=>rx3 v (Below.more bV h);rw[←s1]at ry2 ry3;have BW:=Below.more bU bV;have b0:=Below.refl U2.heap.size U2;clear bU bV rx0 rx1 ry0 ry1 s1 s2;go_wp2_with fail;refine(CC.out _).mono ?_;rintro e0 w1 ⟨rfl,b⟩;have b1:=Below.more b0 b;clear b;go_wp2_with fail;go_ret;exact⟨rfl,Below.more BW b1⟩
theorem enamed_any(x:Nd)(pb po c:Nat)(l:List Fx.Fix)(w:World)(hx:okN x=true)(h1:1≤x.op∧x.op≤4)(hc:l.length≤c)(hl:l.length≤1000000)(hg:Fx.GoodF l)(ht:∀k∈Ev.spanN x,Fx.thereF l k=true)(h:Fxs w (some ⟨pb,po,none⟩) l) :
  Calls Tryz.prog 105 #[.agg #[.int .i64 x.op,.string ⟨x.num.1.toArray⟩,.string ⟨x.num.2.toArray⟩,.string ⟨x.ast.toArray⟩,.int .i64 x.a,.int .i64 x.b],.slice (some ⟨pb,po,none⟩) l.length c] w (fun e w'=>e=.returned (.slice (some ⟨pb,po+Fx.rankF l (x.ast,x.a)*4,none⟩) (Ev.namedF l x).length (c-Fx.rankF l (x.ast,x.a)))∧Below w.heap.size w w'):=by
 have hd:=Ev.days hx h1;have hnl:=Ev.named_len hg ht;have hat:=(Ev.named_at hg ht).1;have hs:=Ev.span_m hx h1;have hne:0<(Ev.spanN x).length:=by omega
 rw[←hnl]at hs hat hne;generalize Ev.namedF l x=N at *;have CF:=zh fun V (hV:Below w.heap.size w V)=>efind_any (some ⟨pb,po,none⟩) c l x.ast x.a [] [] V hc hl (h.below hV);have CL:=zh fun V=>elastP_any x.op x.a x.b x.num.1 x.num.2 x.ast V;have HG:=zh hg;generalize hmx:max x.a x.b=m at *;clear hg h ht hnl;generalize hra:Fx.rankF l (x.ast,x.a)=r at *;have HR:=zh hra;clear hra;have ha0:=hd.1;have hb0:=hd.2;generalize x.a=a at *;generalize x.b=b at *;go_enter Tryz.func105,Tryz.ntmps105;go_wp2_with fail;obtain⟨U,hU,bU,s1,r0,r1,r2,r3,r4,r5⟩:=lay6 (Below.refl w.heap.size w) (.int .i64 x.op) (.string ⟨x.num.1.toArray⟩) (.string ⟨x.num.2.toArray⟩) (.string ⟨x.ast.toArray⟩) (.int .i64 a) (.int .i64 b) 55;rw[hU];clear hU s1;have b0:=Below.refl U.heap.size U;go_wp2_with fail;refine(CF.out _ bU).mono ?_;rintro e0 w1 ⟨⟨i,z,rfl,g1,g2,g3⟩,bb⟩;have b1:=Below.more b0 bb;obtain rfl:i=r:=(g3 HG.out.2).1.trans HR.out;clear bb g1 g2 g3 CF HR HG;obtain⟨E,hE⟩:∃E,E=i+N.length:=⟨_,rfl⟩;have hif:¬c=i:=by omega
 have hfe:i≤E:=by omega
 have hec:E≤c:=by omega
 have hfeI:(i:Int)≤(E:Int):=by omega
 have hecI:(E:Int)≤(c:Int):=by omega
 have HB:=zh bU;have hB:=zh (Nat.le_refl U.heap.size);have HQ:Hid (IntKind.i64.wrap ((i:Int)+1)=(i:Int)+1∧IntKind.i64.wrap ((i:Int)+1+m)=(i:Int)+1+m∧IntKind.i64.wrap ((i:Int)+1+m-a)=(E:Int)):=zh ⟨IntWalk.i64_in _ (by omega),IntWalk.i64_in _ (by omega),(IntWalk.i64_in _ (by omega)).trans (by omega)⟩;have HE:=zh (show E-i=N.length by omega);clear bU hs hd hat hne ha0 hb0 hc hl hx h1 hE;go_wp2_with fail;obtain⟨q1,q2,q3⟩:=HQ.out;clear HQ
 first|(go_region_held3 (fun w'=>Below U.heap.size U w')
     (first|(exact b1.drew)|(with_reducible assumption)|(exact Below.alloc (by with_reducible assumption) (Nat.le_trans hB.out (Below.size (by with_reducible assumption))) _)|(exact put2 (by with_reducible assumption) (Nat.le_refl _) _ _)|(exact put2 (by with_reducible assumption) hB.out _ _)|(exact put2 (by with_reducible assumption) (Nat.le_trans hB.out (Below.size (by with_reducible assumption))) _ _))
     (first|(go_at_call 61;(with_reducible refine(held (W:=U) hB.out (CL.out _) (by assumption)).mono ?_);rintro e w'' ⟨rfl,hb,hw⟩;(first|(have hz:=zc_made0 hb)|(have hz:=zc_made hb)|skip);(try have hz:=Zc.below (by assumption) hb);(try (have z0:=hz.c0;have z1:=hz.c1;have z2:=hz.f0;have z3:=hz.f1)))))|fail
 all_goals (go_wp2_with fail)
 all_goals go_ret
 all_goals (exact⟨by first|(rw[HE.out];rfl)|rfl,Below.more HB.out (by with_reducible assumption)⟩)
end Go.Proofs.YtghioekjghmdaaaGreatDoor
namespace Go.Proofs.YtghioekjghmdaaaGreatDoor
open Go.RowKit
structure Blk(b:Nat)(xs:List Value)(w:World):Prop where
 lt:b<w.heap.size
 c:∀i x,xs[i]?=some x→w.cell? ⟨b,i,none⟩=some x
 f:∀i,i<xs.length→w.frozen? ⟨b,i,none⟩=false
theorem Blk.below{b:Nat}{xs:List Value}{w w':World}(h:Blk b xs w)(hb:Below w.heap.size w w'):Blk b xs w' :=
 ⟨Nat.lt_of_lt_of_le h.lt hb.size,fun i x e=>(hb.cell (p:=⟨b,i,none⟩) h.lt).trans (h.c i x e),fun i e=>(hb.frozen (p:=⟨b,i,none⟩) h.lt).trans (h.f i e)⟩
theorem blk_new(w:World)(cs:Array Value)(t:TypeId):Blk w.heap.size cs.toList (w.alloc (.cells cs t)) :=
 ⟨by simp,fun i x e=>(cell_new w _ _ _ rfl i).trans (by simpa using e),fun i _=>by rw[frozen?_alloc_cells];simp[World.frozen?]⟩
theorem Blk.set{b:Nat}{xs:List Value}{w:World}(h:Blk b xs w)(k:Nat)(hk:k<xs.length)(x:Value):Blk b (xs.set k x) (w.setCell ⟨b,k,none⟩ x):=by
 have old:∃y,w.cell? ⟨b,k,none⟩=some y:=⟨_,h.c k _ (List.getElem?_eq_getElem hk)⟩;refine⟨by rw[size_setCell];exact h.lt,fun i y e=>?_,fun i e=>by rw[World.frozen?_setCell];exact h.f i (by simpa using e)⟩;by_cases hi:k=i
 ·subst hi;rw[List.getElem?_set_self hk]at e;obtain⟨z,hz⟩:=old;rw[←Option.some.inj e];exact World.cell?_setCell_same' _ _ _ (by rw[hz];rfl)
 ·rw[List.getElem?_set_ne hi]at e;rw[cell?_setCell_ne _ _ _ _ _ hi];exact h.c i y e
structure WrB(Xs:List Nat)(w w':World):Prop where
 os:w'.os=w.os
 tape:w'.tape=w.tape
 output:w'.output=w.output
 size:w.heap.size≤w'.heap.size
 block:∀k,k<w.heap.size→k∉Xs→w'.heap[k]?=w.heap[k]?
theorem WrB.refl(Xs:List Nat)(w:World):WrB Xs w w:=⟨rfl,rfl,rfl,Nat.le_refl _,fun _ _ _=>rfl⟩
theorem WrB.trans{Xs:List Nat}{a b c:World}(h:WrB Xs a b)(k:WrB Xs b c):WrB Xs a c :=
 ⟨k.os.trans h.os,k.tape.trans h.tape,k.output.trans h.output,Nat.le_trans h.size k.size,fun i hi hn=>(k.block i (Nat.lt_of_lt_of_le hi h.size) hn).trans (h.block i hi hn)⟩
theorem WrB.of_below{w w':World}(h:Below w.heap.size w w')(Xs:List Nat):WrB Xs w w':=⟨h.os,h.tape,h.output,h.size,fun k hk _=>h.block k hk⟩
theorem WrB.of_set(w:World)(b i:Nat)(x:Value){Xs:List Nat}(h:b∈Xs):WrB Xs w (w.setCell ⟨b,i,none⟩ x) :=
 ⟨rfl,rfl,rfl,by rw[size_setCell];exact Nat.le_refl _,fun k _ hn=>Below.heap_setCell w _ x k fun c=>hn (by rw[c];exact h)⟩
theorem WrB.below{Xs:List Nat}{w w':World}{B:Nat}(h:WrB Xs w w')(hb:∀x∈Xs,B≤x)(hB:B≤w.heap.size):Below B w w' :=
 ⟨h.os,h.tape,h.output,h.size,fun k hk=>h.block k (Nat.lt_of_lt_of_le hk hB) fun c=>by have:=hb k c;omega⟩
theorem Blk.wr{b:Nat}{cs:List Value}{w w':World}{Xs:List Nat}(h:Blk b cs w)(hg:WrB Xs w w')(hb:b∉Xs):Blk b cs w':=by
 have e:w'.heap[b]?=w.heap[b]?:=hg.block b h.lt hb;exact⟨Nat.lt_of_lt_of_le h.lt hg.size,fun i x c=>(World.cell?_of_block (w:=w) (a:=⟨b,i,none⟩) e).trans (h.c i x c),fun i c=>(World.frozen?_of_block (w:=w) (a:=⟨b,i,none⟩) e).trans (h.f i c)⟩
theorem own_lt{α:Type}{enc:α→List Value}{k:Nat}{e:TypeId}{B:Nat}{w:World}{v:Value}{l:List α}(h:OwnG enc k e B w v l):∀g,v.ownBlock=some g→B≤g∧g<w.heap.size:=by
 rcases h.2 with ⟨rfl,_⟩|⟨g,cap,cur,rfl,k2,k3,_⟩
 ·exact fun g c=>by simp[Value.ownBlock]at c
 ·exact fun b c=>by
   have e:g=b:=Option.some.inj c;subst e;exact⟨k2,(Array.getElem?_eq_some_iff.1 k3).1⟩
end Go.Proofs.YtghioekjghmdaaaGreatDoor
