/- Own work. -/
import Derived.Test.YtghioekjghmdaaaGreatDoorAllEv1
set_option linter.unusedSimpArgs false
set_option linter.unusedVariables false
namespace Go.Proofs.YtghioekjghmdaaaGreatDoor
open Go.RowKit
def ShP(x:Rat):Prop:=(rd x).1.length≤19500∧(rd x).2.length≤19500
theorem pcmp{x y:Rat}(h1:(rd x).1.length≤19500∧(rd x).2.length≤19500)(h2:(rd y).1.length≤19500∧(rd y).2.length≤19500){s:Int}(hs:sgnQ (x-y)=s)(V:World):Calls Tryz.prog 147 #[.agg #[.string ⟨(rd x).1.toArray⟩,.string ⟨(rd x).2.toArray⟩],.agg #[.string ⟨(rd y).1.toArray⟩,.string ⟨(rd y).2.toArray⟩]] V (GiveI V s):=by
 have c:=qcmp_any ⟨(rd x).1.toArray⟩ ⟨(rd x).2.toArray⟩ ⟨(rd y).1.toArray⟩ ⟨(rd y).2.toArray⟩ V (by rw[size_of];omega) (by rw[size_of];omega) (by rw[size_of];omega) (by rw[size_of];omega);have e:cmpR (rd x) (rd y)=s:=by unfold cmpR;rw[isR_rd,isR_rd,valR_rd,valR_rd];exact hs
 rw[←e];exact c
theorem padd{x y:Rat}(hx:ShP x)(hy:ShP y)(V:World):Calls Tryz.prog 144 #[.agg #[.string ⟨(rd x).1.toArray⟩,.string ⟨(rd x).2.toArray⟩],.agg #[.string ⟨(rd y).1.toArray⟩,.string ⟨(rd y).2.toArray⟩]] V (GiveR V (rd (x+y))):=by
 have c:=qadd_any ⟨(rd x).1.toArray⟩ ⟨(rd x).2.toArray⟩ ⟨(rd y).1.toArray⟩ ⟨(rd y).2.toArray⟩ V (by rw[size_of];have:=hx.1;omega) (by rw[size_of];have:=hx.2;omega) (by rw[size_of];have:=hy.1;omega) (by rw[size_of];have:=hy.2;omega);have e:addR (rd x) (rd y)=rd (x+y):=by unfold addR;rw[isR_rd,isR_rd,valR_rd,valR_rd];rfl
 rw[←e];exact c
theorem psub{x y:Rat}(hx:ShP x)(hy:ShP y)(V:World):Calls Tryz.prog 145 #[.agg #[.string ⟨(rd x).1.toArray⟩,.string ⟨(rd x).2.toArray⟩],.agg #[.string ⟨(rd y).1.toArray⟩,.string ⟨(rd y).2.toArray⟩]] V (GiveR V (rd (x-y))):=by
 have c:=qsub_any ⟨(rd x).1.toArray⟩ ⟨(rd x).2.toArray⟩ ⟨(rd y).1.toArray⟩ ⟨(rd y).2.toArray⟩ V (by rw[size_of];have:=hx.1;omega) (by rw[size_of];have:=hx.2;omega) (by rw[size_of];have:=hy.1;omega) (by rw[size_of];have:=hy.2;omega);have e:subR (rd x) (rd y)=rd (x-y):=by unfold subR;rw[isR_rd,isR_rd,valR_rd,valR_rd];rfl
 rw[←e];exact c
theorem pmul{x y:Rat}(hx:ShP x)(hy:ShP y)(V:World):Calls Tryz.prog 146 #[.agg #[.string ⟨(rd x).1.toArray⟩,.string ⟨(rd x).2.toArray⟩],.agg #[.string ⟨(rd y).1.toArray⟩,.string ⟨(rd y).2.toArray⟩]] V (GiveR V (rd (x*y))):=by
 have c:=qmul_any ⟨(rd x).1.toArray⟩ ⟨(rd x).2.toArray⟩ ⟨(rd y).1.toArray⟩ ⟨(rd y).2.toArray⟩ V (by rw[size_of];have:=hx.1;omega) (by rw[size_of];have:=hx.2;omega) (by rw[size_of];have:=hy.1;omega) (by rw[size_of];have:=hy.2;omega);have e:mulR (rd x) (rd y)=rd (x*y):=by unfold mulR;rw[isR_rd,isR_rd,valR_rd,valR_rd];rfl
 rw[←e];exact c
theorem pdiv{x y:Rat}(hx:ShP x)(hy:ShP y)(V:World)(h0:y≠0):Calls Tryz.prog 136 #[.agg #[.string ⟨(rd x).1.toArray⟩,.string ⟨(rd x).2.toArray⟩],.agg #[.string ⟨(rd y).1.toArray⟩,.string ⟨(rd y).2.toArray⟩]] V (GiveRB V ((rd (x / y),true))):=by
 have c:=qdiv_any ⟨(rd x).1.toArray⟩ ⟨(rd x).2.toArray⟩ ⟨(rd y).1.toArray⟩ ⟨(rd y).2.toArray⟩ V (by rw[size_of];have:=hx.1;omega) (by rw[size_of];have:=hx.2;omega) (by rw[size_of];have:=hy.1;omega) (by rw[size_of];have:=hy.2;omega);have e:divR (rd x) (rd y)=(rd (x / y),true):=by unfold divR;rw[isR_rd,isR_rd,valR_rd,valR_rd,beq_false_of_ne h0];rfl
 rw[←e];exact c
theorem pdiv0{x:Rat}(hx:ShP x)(V:World):Calls Tryz.prog 136 #[.agg #[.string ⟨(rd x).1.toArray⟩,.string ⟨(rd x).2.toArray⟩],.agg #[.string ⟨(rd 0).1.toArray⟩,.string ⟨(rd 0).2.toArray⟩]] V (GiveRB V (([],[]),false)):=by
 have c:=qdiv_any ⟨(rd x).1.toArray⟩ ⟨(rd x).2.toArray⟩ ⟨(rd 0).1.toArray⟩ ⟨(rd 0).2.toArray⟩ V (by rw[size_of];have:=hx.1;omega) (by rw[size_of];have:=hx.2;omega) (by rw[size_of];exact(by decide +kernel:(rd 0).1.length≤20000)) (by rw[size_of];exact(by decide +kernel:(rd 0).2.length≤20000));have e:divR (rd x) (rd 0)=(([],[]),false):=by unfold divR;rw[isR_rd,isR_rd,valR_rd,valR_rd,beq_self_eq_true];rfl
 rw[←e];exact c
theorem pneg{x:Rat}(hx:ShP x)(V:World):Calls Tryz.prog 106 #[.agg #[.string ⟨(rd x).1.toArray⟩,.string ⟨(rd x).2.toArray⟩]] V (GiveR V (rd (-x))):=by
 have c:=qneg_any ⟨(rd x).1.toArray⟩ ⟨(rd x).2.toArray⟩ V (by rw[size_of];have:=hx.1;omega) (by rw[size_of];have:=hx.2;omega);have e:negR (rd x)=rd (-x):=by unfold negR;rw[isR_rd,valR_rd];rfl
 rw[←e];exact c
theorem psign{x:Rat}(hx:ShP x)(V:World):Calls Tryz.prog 107 #[.agg #[.string ⟨(rd x).1.toArray⟩,.string ⟨(rd x).2.toArray⟩]] V (GiveI V (sgnQ x)):=by
 have c:=qsign_any ⟨(rd x).1.toArray⟩ ⟨(rd x).2.toArray⟩ V (by rw[size_of];have:=hx.1;omega) (by rw[size_of];have:=hx.2;omega);have e:sgnR (rd x)=sgnQ x:=by unfold sgnR;rw[isR_rd,valR_rd];rfl
 rw[←e];exact c
end Go.Proofs.YtghioekjghmdaaaGreatDoor
set_option maxHeartbeats 4000000
set_option maxRecDepth 100000
namespace Go.Proofs.YtghioekjghmdaaaGreatDoor
open Go.RowKit
open Tm (Nd okN)
theorem epriced_any(op a b:Int)(n e s:List UInt8)(w:World):Calls Tryz.prog 60 #[.agg #[.int .i64 op,.string ⟨n.toArray⟩,.string ⟨e.toArray⟩,.string ⟨s.toArray⟩,.int .i64 a,.int .i64 b]] w (GiveB w (!(s == []))):=by
 cases h:(s == [])<;>(
  go_enter Tryz.func60,Tryz.ntmps60;go_wp2_with fail;go_ret;exact⟨ret_bool (by first|rfl|simp_all),Below.alloc (Below.refl w.heap.size w) (Nat.le_refl _) _⟩)
theorem elastP_any(op a b:Int)(n e s:List UInt8)(w:World):Calls Tryz.prog 61 #[.agg #[.int .i64 op,.string ⟨n.toArray⟩,.string ⟨e.toArray⟩,.string ⟨s.toArray⟩,.int .i64 a,.int .i64 b]] w (GiveI w (max a b)):=by
 go_enter Tryz.func61,Tryz.ntmps61;go_wp2_with fail;go_ret;exact⟨rfl,Below.alloc (Below.refl w.heap.size w) (Nat.le_refl _) _⟩
theorem edear_any(a:List UInt8)(d:Int)(n e c:List UInt8)(f:Int)(m g:List UInt8)(w:World)(hn:n.length≤20000)(he:e.length≤20000)(hm:m.length≤20000)(hg:g.length≤20000) :
  Calls Tryz.prog 140 #[.agg #[.string ⟨a.toArray⟩,.int .i64 d,.string ⟨n.toArray⟩,.string ⟨e.toArray⟩],.agg #[.string ⟨c.toArray⟩,.int .i64 f,.string ⟨m.toArray⟩,.string ⟨g.toArray⟩]] w (GiveI w (cmpR (n,e) (m,g))):=by
 have CC:=zh fun V=>qcmp_any ⟨n.toArray⟩ ⟨e.toArray⟩ ⟨m.toArray⟩ ⟨g.toArray⟩ V (by rw[size_of];exact hn) (by rw[size_of];exact he) (by rw[size_of];exact hm) (by rw[size_of];exact hg);obtain⟨z,hz⟩:∃z,cmpR (n,e) (m,g)=z:=⟨_,rfl⟩;rw[hz]
 change Hid (∀V,Calls _ _ _ V (GiveI V (cmpR (n,e) (m,g)))) at CC
 rw[hz]at CC;clear hz hn he hm hg;go_enter Tryz.func140,Tryz.ntmps140;go_wp2_with fail;obtain⟨U1,hU,bU,s1,rx0,rx1,rx2,rx3⟩:=lay4 (Below.refl w.heap.size w) (.string ⟨a.toArray⟩) (.int .i64 d) (.string ⟨n.toArray⟩) (.string ⟨e.toArray⟩) 39;rw[hU];clear hU;obtain⟨U2,hU,bV,s2,ry0,ry1,ry2,ry3⟩:=lay4 (Below.refl U1.heap.size U1) (.string ⟨c.toArray⟩) (.int .i64 f) (.string ⟨m.toArray⟩) (.string ⟨g.toArray⟩) 39;rw[hU];clear hU;replace rx2:=fun v (h:Below U2.heap.size U2 v)=>rx2 v (Below.more bV h);replace rx3:=fun v (h:Below U2.heap.size U2 v)=>rx3 v (Below.more bV h);rw[←s1]at ry2 ry3;have BW:=Below.more bU bV;have b0:=Below.refl U2.heap.size U2;clear bU bV rx0 rx1 ry0 ry1 s1 s2;go_wp2_with fail;refine(CC.out _).mono ?_;rintro e0 w1 ⟨rfl,b⟩;have b1:=Below.more b0 b;clear b;go_wp2_with fail;go_ret;exact⟨rfl,Below.more BW b1⟩
theorem enamed_any(x:Nd)(pb po c:Nat)(l:List Fx.Fix)(w:World)(hx:okN x=true)(h1:1≤x.op∧x.op≤4)(hc:l.length≤c)(hl:l.length≤1000000)(hg:Fx.GoodF l)(ht:∀k∈Ev.spanN x,Fx.thereF l k=true)(h:Fxs w (some ⟨pb,po,none⟩) l) :
  Calls Tryz.prog 105 #[.agg #[.int .i64 x.op,.string ⟨x.num.1.toArray⟩,.string ⟨x.num.2.toArray⟩,.string ⟨x.ast.toArray⟩,.int .i64 x.a,.int .i64 x.b],.slice (some ⟨pb,po,none⟩) l.length c] w (fun e w'=>e=.returned (.slice (some ⟨pb,po+Fx.rankF l (x.ast,x.a)*4,none⟩) (Ev.namedF l x).length (c-Fx.rankF l (x.ast,x.a)))∧Below w.heap.size w w'):=by
 have hd:=Ev.days hx h1;have hnl:=Ev.named_len hg ht;have hat:=(Ev.named_at hg ht).1;have hs:=Ev.span_m hx h1;have hne:0<(Ev.spanN x).length:=by omega
 rw[←hnl]at hs hat hne;generalize Ev.namedF l x=N at *;have CF:=zh fun V (hV:Below w.heap.size w V)=>efind_any (some ⟨pb,po,none⟩) c l x.ast x.a [] [] V hc hl (h.below hV);have CL:=zh fun V=>elastP_any x.op x.a x.b x.num.1 x.num.2 x.ast V;have HG:=zh hg;generalize hmx:max x.a x.b=m at *;clear hg h ht hnl;generalize hra:Fx.rankF l (x.ast,x.a)=r at *;have HR:=zh hra;clear hra;have ha0:=hd.1;have hb0:=hd.2;generalize x.a=a at *;generalize x.b=b at *;go_enter Tryz.func105,Tryz.ntmps105;go_wp2_with fail;obtain⟨U,hU,bU,s1,r0,r1,r2,r3,r4,r5⟩:=lay6 (Below.refl w.heap.size w) (.int .i64 x.op) (.string ⟨x.num.1.toArray⟩) (.string ⟨x.num.2.toArray⟩) (.string ⟨x.ast.toArray⟩) (.int .i64 a) (.int .i64 b) 55;rw[hU];clear hU s1;have b0:=Below.refl U.heap.size U;go_wp2_with fail;refine(CF.out _ bU).mono ?_;rintro e0 w1 ⟨⟨i,z,rfl,g1,g2,g3⟩,bb⟩;have b1:=Below.more b0 bb;obtain rfl:i=r:=(g3 HG.out.2).1.trans HR.out;clear bb g1 g2 g3 CF HR HG;obtain⟨E,hE⟩:∃E,E=i+N.length:=⟨_,rfl⟩;have hif:¬c=i:=by omega
 have hfe:i≤E:=by omega
 have hec:E≤c:=by omega
 have hfeI:(i:Int)≤(E:Int):=by omega
 have hecI:(E:Int)≤(c:Int):=by omega
 have HB:=zh bU;have hB:=zh (Nat.le_refl U.heap.size);have HQ:Hid (IntKind.i64.wrap ((i:Int)+1)=(i:Int)+1∧IntKind.i64.wrap ((i:Int)+1+m)=(i:Int)+1+m∧IntKind.i64.wrap ((i:Int)+1+m-a)=(E:Int)):=zh ⟨IntWalk.i64_in _ (by omega),IntWalk.i64_in _ (by omega),(IntWalk.i64_in _ (by omega)).trans (by omega)⟩;have HE:=zh (show E-i=N.length by omega);clear bU hs hd hat hne ha0 hb0 hc hl hx h1 hE;go_wp2_with fail;obtain⟨q1,q2,q3⟩:=HQ.out;clear HQ
 first|(go_region_held3 (fun w'=>Below U.heap.size U w')
     (first|(exact b1.drew)|(with_reducible assumption)|(exact Below.alloc (by with_reducible assumption) (Nat.le_trans hB.out (Below.size (by with_reducible assumption))) _)|(exact put2 (by with_reducible assumption) (Nat.le_refl _) _ _)|(exact put2 (by with_reducible assumption) hB.out _ _)|(exact put2 (by with_reducible assumption) (Nat.le_trans hB.out (Below.size (by with_reducible assumption))) _ _))
     (first|(go_at_call 61;(with_reducible refine(held (W:=U) hB.out (CL.out _) (by assumption)).mono ?_);rintro e w'' ⟨rfl,hb,hw⟩;(first|(have hz:=zc_made0 hb)|(have hz:=zc_made hb)|skip);(try have hz:=Zc.below (by assumption) hb);(try (have z0:=hz.c0;have z1:=hz.c1;have z2:=hz.f0;have z3:=hz.f1)))))|fail
 all_goals (go_wp2_with fail)
 all_goals go_ret
 all_goals (exact⟨by first|(rw[HE.out];rfl)|rfl,Below.more HB.out (by with_reducible assumption)⟩)
end Go.Proofs.YtghioekjghmdaaaGreatDoor
namespace Go.Proofs.YtghioekjghmdaaaGreatDoor
open Go.RowKit
structure Blk(b:Nat)(xs:List Value)(w:World):Prop where
 lt:b<w.heap.size
 c:∀i x,xs[i]?=some x→w.cell? ⟨b,i,none⟩=some x
 f:∀i,i<xs.length→w.frozen? ⟨b,i,none⟩=false
theorem Blk.below{b:Nat}{xs:List Value}{w w':World}(h:Blk b xs w)(hb:Below w.heap.size w w'):Blk b xs w' :=
 ⟨Nat.lt_of_lt_of_le h.lt hb.size,fun i x e=>(hb.cell (p:=⟨b,i,none⟩) h.lt).trans (h.c i x e),fun i e=>(hb.frozen (p:=⟨b,i,none⟩) h.lt).trans (h.f i e)⟩
theorem blk_new(w:World)(cs:Array Value)(t:TypeId):Blk w.heap.size cs.toList (w.alloc (.cells cs t)) :=
 ⟨by simp,fun i x e=>(cell_new w _ _ _ rfl i).trans (by simpa using e),fun i _=>by rw[frozen?_alloc_cells];simp[World.frozen?]⟩
theorem Blk.set{b:Nat}{xs:List Value}{w:World}(h:Blk b xs w)(k:Nat)(hk:k<xs.length)(x:Value):Blk b (xs.set k x) (w.setCell ⟨b,k,none⟩ x):=by
 have old:∃y,w.cell? ⟨b,k,none⟩=some y:=⟨_,h.c k _ (List.getElem?_eq_getElem hk)⟩;refine⟨by rw[size_setCell];exact h.lt,fun i y e=>?_,fun i e=>by rw[World.frozen?_setCell];exact h.f i (by simpa using e)⟩;by_cases hi:k=i
 ·subst hi;rw[List.getElem?_set_self hk]at e;obtain⟨z,hz⟩:=old;rw[←Option.some.inj e];exact World.cell?_setCell_same' _ _ _ (by rw[hz];rfl)
 ·rw[List.getElem?_set_ne hi]at e;rw[cell?_setCell_ne _ _ _ _ _ hi];exact h.c i y e
structure WrB(Xs:List Nat)(w w':World):Prop where
 os:w'.os=w.os
 tape:w'.tape=w.tape
 output:w'.output=w.output
 size:w.heap.size≤w'.heap.size
 block:∀k,k<w.heap.size→k∉Xs→w'.heap[k]?=w.heap[k]?
theorem WrB.refl(Xs:List Nat)(w:World):WrB Xs w w:=⟨rfl,rfl,rfl,Nat.le_refl _,fun _ _ _=>rfl⟩
theorem WrB.trans{Xs:List Nat}{a b c:World}(h:WrB Xs a b)(k:WrB Xs b c):WrB Xs a c :=
 ⟨k.os.trans h.os,k.tape.trans h.tape,k.output.trans h.output,Nat.le_trans h.size k.size,fun i hi hn=>(k.block i (Nat.lt_of_lt_of_le hi h.size) hn).trans (h.block i hi hn)⟩
theorem WrB.of_below{w w':World}(h:Below w.heap.size w w')(Xs:List Nat):WrB Xs w w':=⟨h.os,h.tape,h.output,h.size,fun k hk _=>h.block k hk⟩
theorem WrB.of_set(w:World)(b i:Nat)(x:Value){Xs:List Nat}(h:b∈Xs):WrB Xs w (w.setCell ⟨b,i,none⟩ x) :=
 ⟨rfl,rfl,rfl,by rw[size_setCell];exact Nat.le_refl _,fun k _ hn=>Below.heap_setCell w _ x k fun c=>hn (by rw[c];exact h)⟩
theorem WrB.below{Xs:List Nat}{w w':World}{B:Nat}(h:WrB Xs w w')(hb:∀x∈Xs,B≤x)(hB:B≤w.heap.size):Below B w w' :=
 ⟨h.os,h.tape,h.output,h.size,fun k hk=>h.block k (Nat.lt_of_lt_of_le hk hB) fun c=>by have:=hb k c;omega⟩
theorem Blk.wr{b:Nat}{cs:List Value}{w w':World}{Xs:List Nat}(h:Blk b cs w)(hg:WrB Xs w w')(hb:b∉Xs):Blk b cs w':=by
 have e:w'.heap[b]?=w.heap[b]?:=hg.block b h.lt hb;exact⟨Nat.lt_of_lt_of_le h.lt hg.size,fun i x c=>(World.cell?_of_block (w:=w) (a:=⟨b,i,none⟩) e).trans (h.c i x c),fun i c=>(World.frozen?_of_block (w:=w) (a:=⟨b,i,none⟩) e).trans (h.f i c)⟩
theorem own_lt{α:Type}{enc:α→List Value}{k:Nat}{e:TypeId}{B:Nat}{w:World}{v:Value}{l:List α}(h:OwnG enc k e B w v l):∀g,v.ownBlock=some g→B≤g∧g<w.heap.size:=by
 rcases h.2 with ⟨rfl,_⟩|⟨g,cap,cur,rfl,k2,k3,_⟩
 ·exact fun g c=>by simp[Value.ownBlock]at c
 ·exact fun b c=>by
   have e:g=b:=Option.some.inj c;subst e;exact⟨k2,(Array.getElem?_eq_some_iff.1 k3).1⟩
end Go.Proofs.YtghioekjghmdaaaGreatDoor
set_option maxHeartbeats 4000000
set_option maxRecDepth 100000
namespace Go.Proofs.YtghioekjghmdaaaGreatDoor
open Go.RowKit
open Ev (prF sumF maxF minF prcQ)
def PrX(f:Fx.Fix):Prop:=isR f.2=true∧f.2.1.length≤19000∧f.2.2.length≤19000
theorem prx_cmp{f g:Fx.Fix}(hf:PrX f)(hg:PrX g):cmpR f.2 g.2=sgnQ (prF f-prF g):=by
 unfold cmpR prF;rw[hf.1,hg.1];rfl
theorem prx_rd{f:Fx.Fix}(hf:PrX f):rd (prF f)=f.2:=rd_valR hf.1
def GiveFix(w:World)(f:Fx.Fix)(e:Ending)(w':World):Prop:=e=.returned (.agg #[.string ⟨f.1.1.toArray⟩,.int .i64 f.1.2,.string ⟨f.2.1.toArray⟩,.string ⟨f.2.2.toArray⟩])∧Below w.heap.size w w'
theorem max_next{f x:Fx.Fix}{r:List Fx.Fix}{k:Nat}(h:r[k]?=some x):maxF f (r.take (k+1))=if 0<sgnQ (prF x-prF (maxF f (r.take k))) then x else maxF f (r.take k):=by
 induction r generalizing f k with
 | nil=>cases h
 | cons y r ih =>
  cases k with
  | zero =>
   obtain rfl:y=x:=Option.some.inj h;rw[List.take_succ_cons,List.take_zero,List.take_zero];show (if _ then maxF y [] else maxF f [])=_
   rfl
  | succ k =>
   have h:r[k]?=some x:=h;rw[List.take_succ_cons,List.take_succ_cons];show (if _ then maxF y (r.take (k+1)) else maxF f (r.take (k+1)))=if 0<sgnQ (prF x-prF (if _ then maxF y (r.take k) else maxF f (r.take k))) then x else (if _ then maxF y (r.take k) else maxF f (r.take k))
   by_cases c:0<sgnQ (prF y-prF f)
   ·rw[if_pos c,if_pos c];exact ih h
   ·rw[if_neg c,if_neg c];exact ih h
theorem min_next{f x:Fx.Fix}{r:List Fx.Fix}{k:Nat}(h:r[k]?=some x):minF f (r.take (k+1))=if sgnQ (prF x-prF (minF f (r.take k)))<0 then x else minF f (r.take k):=by
 induction r generalizing f k with
 | nil=>cases h
 | cons y r ih =>
  cases k with
  | zero =>
   obtain rfl:y=x:=Option.some.inj h;rw[List.take_succ_cons,List.take_zero,List.take_zero];show (if _ then minF y [] else minF f [])=_
   rfl
  | succ k =>
   have h:r[k]?=some x:=h;rw[List.take_succ_cons,List.take_succ_cons];show (if _ then minF y (r.take (k+1)) else minF f (r.take (k+1)))=if sgnQ (prF x-prF (if _ then minF y (r.take k) else minF f (r.take k)))<0 then x else (if _ then minF y (r.take k) else minF f (r.take k))
   by_cases c:sgnQ (prF y-prF f)<0
   ·rw[if_pos c,if_pos c];exact ih h
   ·rw[if_neg c,if_neg c];exact ih h
theorem blk4{b:Nat}{xs:List Value}{w:World}(h:Blk b xs w)(hx:xs.length=4)(x y z u:Value):Blk b [x,y,z,u] ((((w.setCell ⟨b,0,none⟩ x).setCell ⟨b,1,none⟩ y).setCell ⟨b,2,none⟩ z).setCell ⟨b,3,none⟩ u):=by
 match xs,hx with
 | [_,_,_,_],_=>exact(((h.set 0 (by simp) x).set 1 (by simp) y).set 2 (by simp) z).set 3 (by simp) u
theorem wr4(w:World)(b:Nat)(x y z u:Value):WrB [b] w ((((w.setCell ⟨b,0,none⟩ x).setCell ⟨b,1,none⟩ y).setCell ⟨b,2,none⟩ z).setCell ⟨b,3,none⟩ u) :=
 (((WrB.of_set w b 0 x (List.mem_singleton.2 rfl)).trans (WrB.of_set _ b 1 y (List.mem_singleton.2 rfl))).trans (WrB.of_set _ b 2 z (List.mem_singleton.2 rfl))).trans (WrB.of_set _ b 3 u (List.mem_singleton.2 rfl))
theorem two4(w:World)(a b c d x y z u:Value)(t:TypeId):∃U,(w.alloc (.cells #[a,b,c,d] t)).alloc (.cells #[x,y,z,u] t)=U∧Below w.heap.size w U∧Blk w.heap.size [a,b,c,d] U∧Blk (w.heap.size+1) [x,y,z,u] U:=by
 have h1:=blk_new w #[a,b,c,d] t;have h2:=blk_new (w.alloc (.cells #[a,b,c,d] t)) #[x,y,z,u] t;have e:(w.alloc (.cells #[a,b,c,d] t)).heap.size=w.heap.size+1:=by simp
 rw[e]at h2;exact⟨_,rfl,Below.alloc (Below.alloc (Below.refl _ _) (Nat.le_refl _) _) (by rw[e];omega) _,h1.below (Below.alloc (Below.refl _ _) (Nat.le_refl _) _),h2⟩
theorem blk_rule{b:Nat}{x y z u:Value}{w:World}(h:Blk b [x,y,z,u] w):(∀v,Below w.heap.size w v→v.cell? ⟨b,0,none⟩=some x)∧(∀v,Below w.heap.size w v→v.cell? ⟨b,1,none⟩=some y)∧(∀v,Below w.heap.size w v→v.cell? ⟨b,2,none⟩=some z)∧(∀v,Below w.heap.size w v→v.cell? ⟨b,3,none⟩=some u) ∧
  (∀v,Below w.heap.size w v→v.frozen? ⟨b,0,none⟩=false)∧(∀v,Below w.heap.size w v→v.frozen? ⟨b,1,none⟩=false)∧(∀v,Below w.heap.size w v→v.frozen? ⟨b,2,none⟩=false)∧(∀v,Below w.heap.size w v→v.frozen? ⟨b,3,none⟩=false) :=
 ⟨fun v k=>(h.below k).c 0 _ rfl,fun v k=>(h.below k).c 1 _ rfl,fun v k=>(h.below k).c 2 _ rfl,fun v k=>(h.below k).c 3 _ rfl,fun v k=>(h.below k).f 0 (by decide:0<4),fun v k=>(h.below k).f 1 (by decide:1<4),fun v k=>(h.below k).f 2 (by decide:2<4),fun v k=>(h.below k).f 3 (by decide:3<4)⟩
theorem emax_any(p:Option Addr)(c:Nat)(f:Fx.Fix)(r:List Fx.Fix)(w:World)(hc:r.length+1≤c)(hl:r.length+1≤1000000)(hz:∀x∈f::r,PrX x)(h:Fxs w p (f::r)) :
  Calls Tryz.prog 139 #[.slice p (r.length+1) c,.func (.func 140) #[] #[]] w (GiveFix w (maxF f r)):=by
 obtain⟨pb,po,rfl,f0,f1,f2,f3⟩:=fx_rule h (k:=0) (show (f::r)[0]?=some ((f.1.1,f.1.2),(f.2.1,f.2.2)) from rfl);simp only[Nat.zero_mul,Nat.add_zero]at f0 f1 f2 f3;have b0:=Below.refl w.heap.size w;have g0:=f0 _ b0;have g1:=f1 _ b0;have g2:=f2 _ b0;have g3:=f3 _ b0
 have HS:=zh h;have HZ:=zh hz
 have hpb:pb<w.heap.size:=by
  obtain⟨b',o',e,hl,_⟩:=h 0 f rfl
  cases e;exact hl
 clear h hz f0 f1 f2 f3 b0;have h1:¬((r.length+1:Nat):Int)<1:=by omega
 go_enter Tryz.func139,Tryz.ntmps139;go_wp2_with fail;obtain⟨U,hU,bU,hr4,hm4⟩:=two4 w (.string ⟨#[]⟩) (.int .i64 0) (.string ⟨#[]⟩) (.string ⟨#[]⟩) (.string ⟨f.1.1.toArray⟩) (.int .i64 f.1.2) (.string ⟨f.2.1.toArray⟩) (.string ⟨f.2.2.toArray⟩) 39;rw[hU];clear hU g0 g1 g2 g3;have HI0:Hid (Blk (w.heap.size+1) (encFx (maxF f (r.take 0))) U∧Blk w.heap.size [.string ⟨#[]⟩,.int .i64 0,.string ⟨#[]⟩,.string ⟨#[]⟩] U∧Below w.heap.size w U):=zh ⟨hm4,hr4,bU⟩;clear hm4 hr4 bU
 go_loopw [6] (fun i wv=>∃k:Nat,k≤r.length∧i=.int .i64 ((k:Int)+1)∧Hid (Blk (w.heap.size+1) (encFx (maxF f (r.take k))) wv∧Blk w.heap.size [.string ⟨#[]⟩,.int .i64 0,.string ⟨#[]⟩,.string ⟨#[]⟩] wv∧Below w.heap.size w wv)) (fun i _=>r.length+1-(intOf i).toNat)
 case atStart=>exact⟨0,Nat.zero_le _,rfl,HI0⟩
 case round =>
  obtain⟨k,hk,rfl,HI⟩:=hrel;clear HI0;obtain⟨m0,m1,m2,m3,m4,m5,m6,m7⟩:=blk_rule HI.out.1;obtain⟨r0,r1,r2,r3,r4,r5,r6,r7⟩:=blk_rule HI.out.2.1;have b0:=Below.refl wr.heap.size wr;by_cases hlt:k<r.length
  ·obtain⟨⟨⟨a,d⟩,⟨n,e⟩⟩,hx⟩:∃x,r[k]?=some x:=⟨_,List.getElem?_eq_getElem hlt⟩;have HN:=zh (max_next (f:=f) hx);have HX:=zh hx;have hmem:maxF f (r.take k)∈f::r:=by
    have:=Ev.max_in (r.take k) f;rcases List.mem_cons.1 this with e|e
    ·rw[e];exact List.mem_cons_self ..
    ·exact List.mem_cons_of_mem _ (List.mem_of_mem_take e)
   have pm:=HZ.out _ hmem;have px:=HZ.out _ (List.mem_cons_of_mem _ (List.mem_of_getElem? hx));have hcx:=prx_cmp px pm;generalize maxF f (r.take k)=M at *;obtain⟨⟨a',d'⟩,⟨n',e'⟩⟩:=M;obtain⟨_,x1,x2⟩:=px;obtain⟨_,y1,y2⟩:=pm;dsimp only at *;obtain⟨b',o',hp,k0,k1,k2,k3⟩:=fx_rule (HS.out.below HI.out.2.2) (k:=k+1) (show (f::r)[k+1]?=some ((a,d),(n,e)) from hx)
   cases hp
   have cd:=fun V=>edear_any a d n e a' d' n' e' V (by omega) (by omega) (by omega) (by omega);rw[hcx]at cd;obtain⟨z,hzz⟩:∃z,sgnQ (prF ((a,d),(n,e))-prF ((a',d'),(n',e')))=z:=⟨_,rfl⟩;rw[hzz]at cd HN;have CD:=zh cd;clear cd hcx hzz x1 x2 y1 y2 hx hmem;have hki:(k:Int)+1<((r.length+1:Nat):Int):=by omega
   have hk0:(0:Int)≤(k:Int)+1:=by omega
   have hk1:(k:Int)+1<(r.length:Int)+1:=by omega
   have hk2:(k:Int)<(r.length:Int):=by omega
   have hB:=zh (Nat.le_refl wr.heap.size);by_cases hq:0<z
   ·have HQ:=zh hq;go_wp2_with fail
    first|(go_region_held3 (fun w'=>Below wr.heap.size wr w')
        (first|(exact b0.drew)|(with_reducible assumption)|(exact Below.alloc (by with_reducible assumption) (Nat.le_trans hB.out (Below.size (by with_reducible assumption))) _)|(exact put2 (by with_reducible assumption) (Nat.le_refl _) _ _)|(exact put2 (by with_reducible assumption) hB.out _ _)|(exact put2 (by with_reducible assumption) (Nat.le_trans hB.out (Below.size (by with_reducible assumption))) _ _))
        (first|(go_at_call 140;(with_reducible refine(held (W:=wr) hB.out (CD.out _) (by assumption)).mono ?_);rintro e w'' ⟨rfl,hb,hw⟩;(first|(have hz:=zc_made0 hb)|(have hz:=zc_made hb)|skip);(try have hz:=Zc.below (by assumption) hb);(try (have z0:=hz.c0;have z1:=hz.c1;have z2:=hz.f0;have z3:=hz.f1)))))|fail
    all_goals (go_wp2_with fail)
    go_roundw
    case rel=>exact⟨k+1,hlt,by go_num,zh ⟨by rw[HN.out,if_pos (by have:=HQ.out;omega)];exact blk4 (HI.out.1.below (by with_reducible assumption)) rfl _ _ _ _,(HI.out.2.1.below (by with_reducible assumption)).wr (wr4 _ _ _ _ _ _) (by simp),Below.setCell (Below.setCell (Below.setCell (Below.setCell (Below.more HI.out.2.2 (by with_reducible assumption)) (Nat.le_succ _) _) (Nat.le_succ _) _) (Nat.le_succ _) _) (Nat.le_succ _) _⟩⟩
    case measure=>simp[intOf];omega
   ·have HQ:=zh hq;go_wp2_with fail
    first|(go_region_held3 (fun w'=>Below wr.heap.size wr w')
        (first|(exact b0.drew)|(with_reducible assumption)|(exact Below.alloc (by with_reducible assumption) (Nat.le_trans hB.out (Below.size (by with_reducible assumption))) _)|(exact put2 (by with_reducible assumption) (Nat.le_refl _) _ _)|(exact put2 (by with_reducible assumption) hB.out _ _)|(exact put2 (by with_reducible assumption) (Nat.le_trans hB.out (Below.size (by with_reducible assumption))) _ _))
        (first|(go_at_call 140;(with_reducible refine(held (W:=wr) hB.out (CD.out _) (by assumption)).mono ?_);rintro e w'' ⟨rfl,hb,hw⟩;(first|(have hz:=zc_made0 hb)|(have hz:=zc_made hb)|skip);(try have hz:=Zc.below (by assumption) hb);(try (have z0:=hz.c0;have z1:=hz.c1;have z2:=hz.f0;have z3:=hz.f1)))))|fail
    all_goals (go_wp2_with fail)
    go_roundw
    case rel=>exact⟨k+1,hlt,by go_num,zh ⟨by rw[HN.out,if_neg (by have:=HQ.out;omega)];exact HI.out.1.below (by with_reducible assumption),HI.out.2.1.below (by with_reducible assumption),Below.more HI.out.2.2 (by with_reducible assumption)⟩⟩
    case measure=>simp[intOf];omega
  ·obtain rfl:k=r.length:=by omega
   have hki:¬(r.length:Int)+1<((r.length+1:Nat):Int):=by omega
   obtain⟨M,hM⟩:∃M,maxF f (r.take r.length)=M:=⟨_,rfl⟩;have HM:Hid (maxF f r=M):=zh (by rw[←hM,List.take_length]);rw[hM]at HI m0 m1 m2 m3;clear hM;obtain⟨⟨a,d⟩,⟨n,e⟩⟩:=M;have BW:=zh HI.out.2.2;clear HI;go_wp2_with fail;refine bodyPost_ret (v:=.agg #[.string ⟨a.toArray⟩,.int .i64 d,.string ⟨n.toArray⟩,.string ⟨e.toArray⟩]) (by simp[results,Tryz.results139,go_sem, *]) rfl ⟨by rw[HM.out],?_⟩;exact Below.setCell (Below.setCell (Below.setCell (Below.setCell BW.out (Nat.le_refl _) _) (Nat.le_refl _) _) (Nat.le_refl _) _) (Nat.le_refl _) _
theorem emin_any(p:Option Addr)(c:Nat)(f:Fx.Fix)(r:List Fx.Fix)(w:World)(hc:r.length+1≤c)(hl:r.length+1≤1000000)(hz:∀x∈f::r,PrX x)(h:Fxs w p (f::r)) :
  Calls Tryz.prog 141 #[.slice p (r.length+1) c,.func (.func 140) #[] #[]] w (GiveFix w (minF f r)):=by
 obtain⟨pb,po,rfl,f0,f1,f2,f3⟩:=fx_rule h (k:=0) (show (f::r)[0]?=some ((f.1.1,f.1.2),(f.2.1,f.2.2)) from rfl);simp only[Nat.zero_mul,Nat.add_zero]at f0 f1 f2 f3;have b0:=Below.refl w.heap.size w;have g0:=f0 _ b0;have g1:=f1 _ b0;have g2:=f2 _ b0;have g3:=f3 _ b0
 have HS:=zh h;have HZ:=zh hz
 have hpb:pb<w.heap.size:=by
  obtain⟨b',o',e,hl,_⟩:=h 0 f rfl
  cases e;exact hl
 clear h hz f0 f1 f2 f3 b0;have h1:¬((r.length+1:Nat):Int)<1:=by omega
 go_enter Tryz.func141,Tryz.ntmps141;go_wp2_with fail;obtain⟨U,hU,bU,hr4,hm4⟩:=two4 w (.string ⟨#[]⟩) (.int .i64 0) (.string ⟨#[]⟩) (.string ⟨#[]⟩) (.string ⟨f.1.1.toArray⟩) (.int .i64 f.1.2) (.string ⟨f.2.1.toArray⟩) (.string ⟨f.2.2.toArray⟩) 39;rw[hU];clear hU g0 g1 g2 g3;have HI0:Hid (Blk (w.heap.size+1) (encFx (minF f (r.take 0))) U∧Blk w.heap.size [.string ⟨#[]⟩,.int .i64 0,.string ⟨#[]⟩,.string ⟨#[]⟩] U∧Below w.heap.size w U):=zh ⟨hm4,hr4,bU⟩;clear hm4 hr4 bU
 go_loopw [6] (fun i wv=>∃k:Nat,k≤r.length∧i=.int .i64 ((k:Int)+1)∧Hid (Blk (w.heap.size+1) (encFx (minF f (r.take k))) wv∧Blk w.heap.size [.string ⟨#[]⟩,.int .i64 0,.string ⟨#[]⟩,.string ⟨#[]⟩] wv∧Below w.heap.size w wv)) (fun i _=>r.length+1-(intOf i).toNat)
 case atStart=>exact⟨0,Nat.zero_le _,rfl,HI0⟩
 case round =>
  obtain⟨k,hk,rfl,HI⟩:=hrel;clear HI0;obtain⟨m0,m1,m2,m3,m4,m5,m6,m7⟩:=blk_rule HI.out.1;obtain⟨r0,r1,r2,r3,r4,r5,r6,r7⟩:=blk_rule HI.out.2.1;have b0:=Below.refl wr.heap.size wr;by_cases hlt:k<r.length
  ·obtain⟨⟨⟨a,d⟩,⟨n,e⟩⟩,hx⟩:∃x,r[k]?=some x:=⟨_,List.getElem?_eq_getElem hlt⟩;have HN:=zh (min_next (f:=f) hx);have HX:=zh hx;have hmem:minF f (r.take k)∈f::r:=by
    have:=Ev.min_in (r.take k) f;rcases List.mem_cons.1 this with e|e
    ·rw[e];exact List.mem_cons_self ..
    ·exact List.mem_cons_of_mem _ (List.mem_of_mem_take e)
   have pm:=HZ.out _ hmem;have px:=HZ.out _ (List.mem_cons_of_mem _ (List.mem_of_getElem? hx));have hcx:=prx_cmp px pm;generalize minF f (r.take k)=M at *;obtain⟨⟨a',d'⟩,⟨n',e'⟩⟩:=M;obtain⟨_,x1,x2⟩:=px;obtain⟨_,y1,y2⟩:=pm;dsimp only at *;obtain⟨b',o',hp,k0,k1,k2,k3⟩:=fx_rule (HS.out.below HI.out.2.2) (k:=k+1) (show (f::r)[k+1]?=some ((a,d),(n,e)) from hx)
   cases hp
   have cd:=fun V=>edear_any a d n e a' d' n' e' V (by omega) (by omega) (by omega) (by omega);rw[hcx]at cd;obtain⟨z,hzz⟩:∃z,sgnQ (prF ((a,d),(n,e))-prF ((a',d'),(n',e')))=z:=⟨_,rfl⟩;rw[hzz]at cd HN;have CD:=zh cd;clear cd hcx hzz x1 x2 y1 y2 hx hmem;have hki:(k:Int)+1<((r.length+1:Nat):Int):=by omega
   have hk0:(0:Int)≤(k:Int)+1:=by omega
   have hk1:(k:Int)+1<(r.length:Int)+1:=by omega
   have hk2:(k:Int)<(r.length:Int):=by omega
   have hB:=zh (Nat.le_refl wr.heap.size);by_cases hq:z<0
   ·have HQ:=zh hq;go_wp2_with fail
    first|(go_region_held3 (fun w'=>Below wr.heap.size wr w')
        (first|(exact b0.drew)|(with_reducible assumption)|(exact Below.alloc (by with_reducible assumption) (Nat.le_trans hB.out (Below.size (by with_reducible assumption))) _)|(exact put2 (by with_reducible assumption) (Nat.le_refl _) _ _)|(exact put2 (by with_reducible assumption) hB.out _ _)|(exact put2 (by with_reducible assumption) (Nat.le_trans hB.out (Below.size (by with_reducible assumption))) _ _))
        (first|(go_at_call 140;(with_reducible refine(held (W:=wr) hB.out (CD.out _) (by assumption)).mono ?_);rintro e w'' ⟨rfl,hb,hw⟩;(first|(have hz:=zc_made0 hb)|(have hz:=zc_made hb)|skip);(try have hz:=Zc.below (by assumption) hb);(try (have z0:=hz.c0;have z1:=hz.c1;have z2:=hz.f0;have z3:=hz.f1)))))|fail
    all_goals (go_wp2_with fail)
    go_roundw
    case rel=>exact⟨k+1,hlt,by go_num,zh ⟨by rw[HN.out,if_pos (by have:=HQ.out;omega)];exact blk4 (HI.out.1.below (by with_reducible assumption)) rfl _ _ _ _,(HI.out.2.1.below (by with_reducible assumption)).wr (wr4 _ _ _ _ _ _) (by simp),Below.setCell (Below.setCell (Below.setCell (Below.setCell (Below.more HI.out.2.2 (by with_reducible assumption)) (Nat.le_succ _) _) (Nat.le_succ _) _) (Nat.le_succ _) _) (Nat.le_succ _) _⟩⟩
    case measure=>simp[intOf];omega
   ·have HQ:=zh hq;go_wp2_with fail
    first|(go_region_held3 (fun w'=>Below wr.heap.size wr w')
        (first|(exact b0.drew)|(with_reducible assumption)|(exact Below.alloc (by with_reducible assumption) (Nat.le_trans hB.out (Below.size (by with_reducible assumption))) _)|(exact put2 (by with_reducible assumption) (Nat.le_refl _) _ _)|(exact put2 (by with_reducible assumption) hB.out _ _)|(exact put2 (by with_reducible assumption) (Nat.le_trans hB.out (Below.size (by with_reducible assumption))) _ _))
        (first|(go_at_call 140;(with_reducible refine(held (W:=wr) hB.out (CD.out _) (by assumption)).mono ?_);rintro e w'' ⟨rfl,hb,hw⟩;(first|(have hz:=zc_made0 hb)|(have hz:=zc_made hb)|skip);(try have hz:=Zc.below (by assumption) hb);(try (have z0:=hz.c0;have z1:=hz.c1;have z2:=hz.f0;have z3:=hz.f1)))))|fail
    all_goals (go_wp2_with fail)
    go_roundw
    case rel=>exact⟨k+1,hlt,by go_num,zh ⟨by rw[HN.out,if_neg (by have:=HQ.out;omega)];exact HI.out.1.below (by with_reducible assumption),HI.out.2.1.below (by with_reducible assumption),Below.more HI.out.2.2 (by with_reducible assumption)⟩⟩
    case measure=>simp[intOf];omega
  ·obtain rfl:k=r.length:=by omega
   have hki:¬(r.length:Int)+1<((r.length+1:Nat):Int):=by omega
   obtain⟨M,hM⟩:∃M,minF f (r.take r.length)=M:=⟨_,rfl⟩;have HM:Hid (minF f r=M):=zh (by rw[←hM,List.take_length]);rw[hM]at HI m0 m1 m2 m3;clear hM;obtain⟨⟨a,d⟩,⟨n,e⟩⟩:=M;have BW:=zh HI.out.2.2;clear HI;go_wp2_with fail;refine bodyPost_ret (v:=.agg #[.string ⟨a.toArray⟩,.int .i64 d,.string ⟨n.toArray⟩,.string ⟨e.toArray⟩]) (by simp[results,Tryz.results141,go_sem, *]) rfl ⟨by rw[HM.out],?_⟩;exact Below.setCell (Below.setCell (Below.setCell (Below.setCell BW.out (Nat.le_refl _) _) (Nat.le_refl _) _) (Nat.le_refl _) _) (Nat.le_refl _) _
def Prs(D:Nat)(L:List Fx.Fix):Prop:=L.length≤60∧∀f∈L,isR f.2=true∧Ev.Dg D (prF f)
theorem Prs.sub{D:Nat}{L M:List Fx.Fix}(h:Prs D L)(hl:M.length≤L.length)(hs:∀f∈M,f∈L):Prs D M:=⟨Nat.le_trans hl h.1,fun f hf=>h.2 f (hs f hf)⟩
theorem Prs.sh{D:Nat}{L:List Fx.Fix}(h:Prs D L)(hD:60*D+4≤19000):ShP (sumF L):=by
 have h2:∀y∈L.map prF,Ev.Dg D y:=fun y hy=>by
  obtain⟨f,hf,rfl⟩:=List.mem_map.1 hy;exact(h.2 f hf).2
 obtain⟨a,b⟩:=Ev.sum_dg (D:=D) (L.map prF) 0 0 (Nat.zero_le _) (Nat.le_of_eq rfl) h2;rw[Nat.zero_add,List.length_map]at a b;have hp:10 ^ (D*L.length)≤10 ^ (60*D):=Nat.pow_le_pow_right (by decide) (by rw[Nat.mul_comm];exact Nat.mul_le_mul_right _ h.1);have hs:Ev.Dg (60*D+2) (sumF L):=by
  have e:10 ^ (60*D+2)=10 ^ (60*D)*100:=by rw[Nat.pow_add]
  have q:0<10 ^ (60*D):=Nat.pow_pos (by decide);have m:=Nat.mul_le_mul h.1 hp;unfold sumF;refine⟨⟨?_,?_⟩,by omega⟩<;>rw[e]<;>omega
 have:=hs.len;exact⟨by omega,by omega⟩
theorem esum_any{D:Nat}(hD:60*D+4≤19000):∀ (n:Nat) (p:Option Addr) (c:Nat) (L:List Fx.Fix) (w:World),L.length=n→1≤n→n≤c→Prs D L→Fxs w p L →
  Calls Tryz.prog 137 #[.slice p n c] w (GiveR w (rd (sumF L))):=by
 intro n
 induction n using Nat.strongRecOn with
 | ind n ih =>
 intro p c L w hn h1 hc hP h;have hn60:n≤60:=hn▸hP.1;obtain⟨⟨⟨a,d⟩,⟨u,v⟩⟩,hx⟩:∃x,L[0]?=some x:=⟨_,List.getElem?_eq_getElem (by omega)⟩;obtain⟨pb,po,rfl,k0,k1,k2,k3⟩:=fx_rule h hx;simp only[Nat.zero_mul,Nat.add_zero]at k0 k1 k2 k3;have hpb:pb<w.heap.size:=by
  obtain⟨b',o',e,hl,_⟩:=h 0 _ hx
  cases e;exact hl
 by_cases hn1:n=1
 ·have HV:Hid (rd (sumF L)=(u,v)):=zh (by
   obtain⟨f,rfl⟩:∃f,L=[f]:=by
    match L,hn.trans hn1 with
    | [f],_=>exact⟨f,rfl⟩
   obtain rfl:f=((a,d),(u,v)):=Option.some.inj hx;rw[Ev.sum_one];exact rd_valR (hP.2 _ (List.mem_singleton.2 rfl)).1)
  subst hn1;clear hn hx ih hP h k0 k1;go_enter Tryz.func137,Tryz.ntmps137
  go_upto_region 1 with fail
  obtain⟨W,hW,BW,sW,r0,r1,r2,r3⟩:=box0z w (.string ⟨#[]⟩) (.string ⟨#[]⟩) 28;rw[hW];clear hW;have c2:=k2 _ BW;have c3:=k3 _ BW
  have b0:=Below.refl W.heap.size W;clear k2 k3;go_wp2_with fail;refine bodyPost_ret (v:=.agg #[.string ⟨u.toArray⟩,.string ⟨v.toArray⟩]) (by simp[results,Tryz.results137,go_sem, *]) rfl ⟨by rw[HV.out],put2 BW (Nat.le_refl _) _ _⟩
 ·obtain⟨m,hm⟩:∃m,m=n / 2:=⟨_,rfl⟩;have hm1:1≤m:=by omega
  have hm2:m<n:=by omega
  have hq3:n / 2=m:=hm.symm;have hq2:(n:Int) / 2=(m:Int):=by omega
  have PA:=hP.sub (M:=L.take m) (List.length_take_le' ..) fun f hf=>List.mem_of_mem_take hf;have PB:=hP.sub (M:=L.drop m) (by rw[List.length_drop];omega) fun f hf=>List.mem_of_mem_drop hf;have ra:=h.part 0 m;have rb:=h.part m (n-m);rw[List.drop_zero,Nat.zero_mul,Nat.add_zero]at ra;rw[List.take_of_length_le (by rw[List.length_drop];omega)]at rb;have CA:=zh fun V (hV:Below w.heap.size w V)=>ih m hm2 (some ⟨pb,po,none⟩) c (L.take m) V (by rw[List.length_take];omega) hm1 (by omega) PA (ra.below hV);have CB:=zh fun V (hV:Below w.heap.size w V)=>ih (n-m) (by omega) (some ⟨pb,po+m*4,none⟩) (c-m) (L.drop m) V (by rw[List.length_drop];omega) (by omega) (by omega) PB (rb.below hV);have cc:=fun V=>padd (PA.sh hD) (PB.sh hD) V;rw[Ev.sum_split]at cc;have CC:=zh cc;generalize sumF (L.take m)=S1 at *;generalize sumF (L.drop m)=S2 at *;generalize sumF L=S at *;have hnm:m≤n:=by omega
  have hcm:¬c=m:=by omega
  have i1:(m:Int)≤(n:Int):=by omega
  have i2:(n:Int)≤(c:Int):=by omega
  have i3:(m:Int)≤(c:Int):=by omega
  have i4:m≤c:=by omega
  have hn1i:¬(n:Int)=1:=by omega
  have hn1b:((n:Int)==1)=false:=beq_false_of_ne hn1i;clear hn hx ih hP h PA PB ra rb cc k0 k1 k2 k3 hm;go_enter Tryz.func137,Tryz.ntmps137;go_wp2_with fail;obtain⟨W,hW,hbw,hz⟩:∃W,w.alloc (.cells #[.string ⟨#[]⟩,.string ⟨#[]⟩] 28)=W∧Below w.heap.size w W∧Zc w.heap.size (.string ⟨#[]⟩) (.string ⟨#[]⟩) W:=⟨_,rfl,Below.alloc (Below.refl _ _) (Nat.le_refl _) _,zc_new _ _ _ _⟩;rw[hW];clear hW;have hB:=zh (Nat.le_refl w.heap.size);go_wp2_with fail;have hzd:=hz.drew
  first|(go_region_held3 (fun w'=>Below w.heap.size w w')
      (first|(exact hbw.drew)|(with_reducible assumption)|(exact Below.alloc (by with_reducible assumption) (Nat.le_trans hB.out (Below.size (by with_reducible assumption))) _)|(exact put2 (by with_reducible assumption) (Nat.le_refl _) _ _)|(exact put2 (by with_reducible assumption) hB.out _ _)|(exact put2 (by with_reducible assumption) (Nat.le_trans hB.out (Below.size (by with_reducible assumption))) _ _))
      (first|(go_at_call 137;(with_reducible show Calls _ _ #[.slice (some ⟨pb,po,none⟩) m c] _ _);(with_reducible refine(held (W:=w) hB.out (CA.out _ (by with_reducible assumption)) (by assumption)).mono ?_);rintro e w'' ⟨rfl,hb,hw⟩;(first|(have hz:=zc_made0 hb)|(have hz:=zc_made hb)|skip);(try have hz:=Zc.below (by assumption) hb);(try (have z0:=hz.c0;have z1:=hz.c1;have z2:=hz.f0;have z3:=hz.f1)))|(go_at_call 137;(with_reducible show Calls _ _ #[.slice (some ⟨pb,po+m*4,none⟩) (n-m) (c-m)] _ _);(with_reducible refine(held (W:=w) hB.out (CB.out _ (by with_reducible assumption)) (by assumption)).mono ?_);rintro e w'' ⟨rfl,hb,hw⟩;(first|(have hz:=zc_made0 hb)|(have hz:=zc_made hb)|skip);(try have hz:=Zc.below (by assumption) hb);(try (have z0:=hz.c0;have z1:=hz.c1;have z2:=hz.f0;have z3:=hz.f1)))|(go_at_call 144;(with_reducible refine(held (W:=w) hB.out (CC.out _) (by assumption)).mono ?_);rintro e w'' ⟨rfl,hb,hw⟩;(first|(have hz:=zc_made0 hb)|(have hz:=zc_made hb)|skip);(try have hz:=Zc.below (by assumption) hb);(try (have z0:=hz.c0;have z1:=hz.c1;have z2:=hz.f0;have z3:=hz.f1)))))|fail
  all_goals (go_wp2_with fail)
  all_goals (refine bodyPost_ret (v:=.agg #[.string ⟨(rd S).1.toArray⟩,.string ⟨(rd S).2.toArray⟩]) (by simp[results,Tryz.results137,go_sem, *]) rfl ⟨rfl,by with_reducible assumption⟩)
theorem fld_P(a u v:List UInt8)(d:Int)(w:World):(Instr.field 39 (.agg #[.string ⟨a.toArray⟩,.int .i64 d,.string ⟨u.toArray⟩,.string ⟨v.toArray⟩]) 2).run Tryz.prog w=.ok (.agg #[.string ⟨u.toArray⟩,.string ⟨v.toArray⟩]) w:=by kernel_rfl
theorem eprice_P{D:Nat}(hD0:0<D)(hD:60*D+4≤19000)(op:Int)(p:Option Addr)(c:Nat)(f:Fx.Fix)(r:List Fx.Fix)(w:World)(hc:r.length+1≤c)(hP:Prs D (f::r))(h:Fxs w p (f::r))(hg:GoodT w) :
  Calls Tryz.prog 104 #[.int .i64 op,.slice p (r.length+1) c] w (GiveR w (rd (prcQ op f r))):=by
 have hX:∀x∈f::r,PrX x:=fun x hx=>by
  have k:=hP.2 x hx;have e:=k.2.len;rw[show rd (prF x)=x.2 from rd_valR k.1]at e;exact⟨k.1,by omega,by omega⟩
 have hl:=hP.1;rw[List.length_cons]at hl;have HS:=zh h;by_cases h2:op=2
 ·subst h2;have hS:=hP.sh hD;have CA:=zh fun V (hV:Below w.heap.size w V)=>esum_any hD (r.length+1) p c (f::r) V rfl (by omega) hc hP (h.below hV);have CO:=zh fun V (hV:Below w.heap.size w V)=>qof_any ((r.length+1:Nat):Int) V (by omega) (by omega) (hg.below hV);have hn0:(((r.length+1:Nat):Nat):Rat)≠0:=fun e=>by
   have:=congrArg Rat.num e;rw[Rat.num_natCast]at this;have:((r.length+1:Nat):Int)=0:=this;omega
  have hn:ShP (((r.length+1:Nat):Nat):Rat):=Ev.nat_len (show r.length+1≤60 from hl);have e3:rd (((r.length+1:Nat):Nat):Rat)=(wd ((r.length+1:Nat):Int),[49]):=Ev.rd_nat _;have CD:=zh fun V=>pdiv hS hn V hn0;rw[e3]at CD;have HV:Hid (rd (prcQ 2 f r)=rd (sumF (f::r) / (((r.length+1:Nat):Nat):Rat))):=zh rfl;generalize sumF (f::r)=S at *;generalize S / (((r.length+1:Nat):Nat):Rat)=Q at *;generalize wd ((r.length+1:Nat):Int)=nn at *;clear hX hS hP h hg hn0 hn e3;generalize r.length+1=N at *;go_enter Tryz.func104,Tryz.ntmps104;go_wp2_with fail;obtain⟨W,hW,BW,sW,r0,r1,r2,r3⟩:=box0z w (.string ⟨#[]⟩) (.string ⟨#[]⟩) 28;rw[hW];clear hW;have b0:=Below.refl W.heap.size W;refine(CA.out _ BW).mono ?_;rintro e0 w1 ⟨rfl,b⟩;have b1:=Below.more b0 b;clear b;go_wp2_with fail;refine(CO.out _ (Below.more BW b1)).mono ?_;rintro e0 w2 ⟨rfl,b⟩;have b2:=Below.more b1 b;clear b;go_wp2_with fail;refine(CD.out _).mono ?_;rintro e0 w3 ⟨rfl,b⟩;have b3:=Below.more b2 b;clear b;have ba:=fun x=>Below.alloc b3 (Below.size b3) x;go_wp2_with fail;refine bodyPost_ret (v:=.agg #[.string ⟨(rd Q).1.toArray⟩,.string ⟨(rd Q).2.toArray⟩]) (by simp[results,Tryz.results104,go_sem, *]) rfl ⟨by rw[HV.out],put2 (Below.more BW (ba _)) (Nat.le_refl _) _ _⟩
 ·by_cases h3:op=3
  ·subst h3;have CM:=zh fun V (hV:Below w.heap.size w V)=>emax_any p c f r V hc (by omega) hX (h.below hV);have HV:Hid (rd (prcQ 3 f r)=(maxF f r).2):=zh (prx_rd (hX _ (Ev.max_in r f)));generalize maxF f r=M at *;obtain⟨⟨a,d⟩,⟨u,v⟩⟩:=M;clear hX hP h hg;generalize r.length+1=N at *;go_enter Tryz.func104,Tryz.ntmps104;go_wp2_with fail;obtain⟨W,hW,BW,sW,r0,r1,r2,r3⟩:=box0z w (.string ⟨#[]⟩) (.string ⟨#[]⟩) 28;rw[hW];clear hW;have b0:=Below.refl W.heap.size W;refine(CM.out _ BW).mono ?_;rintro e0 w1 ⟨rfl,b⟩;have b1:=Below.more b0 b;clear b;go_wp2_with fail;rw[fld_P];go_wp2_with fail;refine bodyPost_ret (v:=.agg #[.string ⟨u.toArray⟩,.string ⟨v.toArray⟩]) (by simp[results,Tryz.results104,go_sem, *]) rfl ⟨by rw[HV.out],put2 (Below.more BW b1) (Nat.le_refl _) _ _⟩
  ·have CM:=zh fun V (hV:Below w.heap.size w V)=>emin_any p c f r V hc (by omega) hX (h.below hV);have HV:Hid (rd (prcQ op f r)=(minF f r).2):=zh (by unfold prcQ;rw[if_neg h2,if_neg h3];exact prx_rd (hX _ (Ev.min_in r f)));generalize prcQ op f r=Q at *;generalize minF f r=M at *;obtain⟨⟨a,d⟩,⟨u,v⟩⟩:=M;clear hX hP h hg;generalize r.length+1=N at *;go_enter Tryz.func104,Tryz.ntmps104;go_wp2_with fail;obtain⟨W,hW,BW,sW,r0,r1,r2,r3⟩:=box0z w (.string ⟨#[]⟩) (.string ⟨#[]⟩) 28;rw[hW];clear hW;have b0:=Below.refl W.heap.size W;refine(CM.out _ BW).mono ?_;rintro e0 w1 ⟨rfl,b⟩;have b1:=Below.more b0 b;clear b;go_wp2_with fail;rw[fld_P];go_wp2_with fail;refine bodyPost_ret (v:=.agg #[.string ⟨u.toArray⟩,.string ⟨v.toArray⟩]) (by simp[results,Tryz.results104,go_sem, *]) rfl ⟨by rw[HV.out],put2 (Below.more BW b1) (Nat.le_refl _) _ _⟩
end Go.Proofs.YtghioekjghmdaaaGreatDoor
