/- Own work. -/
import Derived.Test.YtghioekjghmdaaaGreatDoorAllEv3M
import Derived.Lib.BufferMore
set_option linter.unusedSimpArgs false
set_option linter.unusedVariables false
set_option maxHeartbeats 4000000
set_option maxRecDepth 100000
namespace Go.Proofs.YtghioekjghmdaaaGreatDoor
open Go.RowKit
open Tm (Nd okN arN)
open Ev (upQ hiQ loQ stepV)
def vB(o:Option Rat):Key×Bool:=match o with|some r=>(rd r,true)|none=>(([],[]),false)
theorem ejoin_any(op:Int)(x y:Rat)(w:World)(hx:ShP x)(hy:ShP y)(h6:6≤op∧op≤11) :
  Calls Tryz.prog 108 #[.int .i64 op,.agg #[.string ⟨(rd x).1.toArray⟩,.string ⟨(rd x).2.toArray⟩],.agg #[.string ⟨(rd y).1.toArray⟩,.string ⟨(rd y).2.toArray⟩]] w (GiveRB w (vB (upQ op [x,y]))):=by
 obtain⟨⟨u,v⟩,hx1⟩:∃p,rd x=p:=⟨_,rfl⟩;obtain⟨⟨s,t⟩,hy1⟩:∃p,rd y=p:=⟨_,rfl⟩;rw[hx1,hy1];rcases(show op=6∨op=7∨op=8∨op=9∨op=10∨op=11 by omega) with h|h|h|h|h|h
 ·subst h;have cc:=fun V=>padd hx hy V;obtain⟨z,hz⟩:∃z,rd (x+y)=z:=⟨_,rfl⟩;have HV:Hid (vB (upQ 6 [x,y])=(z,true)):=zh (by rw[←hz];rfl);rw[hz]at cc;clear hz;rw[hx1,hy1]at cc;have CC:=zh cc;clear cc;obtain⟨z1,z2⟩:=z;go_enter Tryz.func108,Tryz.ntmps108;go_wp2_with fail;obtain⟨W,hW,BW,sW,k0,k1,k2,k3,r0,r1,r2,r3⟩:=box2z w (.string ⟨u.toArray⟩) (.string ⟨v.toArray⟩) (.string ⟨s.toArray⟩) (.string ⟨t.toArray⟩) (.string ⟨#[]⟩) (.string ⟨#[]⟩) 28 28 28;rw[hW];clear hW;have b0:=Below.refl W.heap.size W;refine(CC.out _).mono ?_;rintro e0 w1 ⟨rfl,b⟩;have b1:=Below.more b0 b;clear b;go_wp2_with fail;refine bodyPost_ret (v:=.tuple #[.agg #[.string ⟨z1.toArray⟩,.string ⟨z2.toArray⟩],.bool true]) (by simp[results,Tryz.results108,go_sem, *]) rfl ⟨by rw[HV.out],put2 (Below.more BW b1) (Nat.le_succ_of_le (Nat.le_succ _)) _ _⟩
 ·subst h;have cc:=fun V=>psub hx hy V;obtain⟨z,hz⟩:∃z,rd (x-y)=z:=⟨_,rfl⟩;have HV:Hid (vB (upQ 7 [x,y])=(z,true)):=zh (by rw[←hz];rfl);rw[hz]at cc;clear hz;rw[hx1,hy1]at cc;have CC:=zh cc;clear cc;obtain⟨z1,z2⟩:=z;go_enter Tryz.func108,Tryz.ntmps108;go_wp2_with fail;obtain⟨W,hW,BW,sW,k0,k1,k2,k3,r0,r1,r2,r3⟩:=box2z w (.string ⟨u.toArray⟩) (.string ⟨v.toArray⟩) (.string ⟨s.toArray⟩) (.string ⟨t.toArray⟩) (.string ⟨#[]⟩) (.string ⟨#[]⟩) 28 28 28;rw[hW];clear hW;have b0:=Below.refl W.heap.size W;refine(CC.out _).mono ?_;rintro e0 w1 ⟨rfl,b⟩;have b1:=Below.more b0 b;clear b;go_wp2_with fail;refine bodyPost_ret (v:=.tuple #[.agg #[.string ⟨z1.toArray⟩,.string ⟨z2.toArray⟩],.bool true]) (by simp[results,Tryz.results108,go_sem, *]) rfl ⟨by rw[HV.out],put2 (Below.more BW b1) (Nat.le_succ_of_le (Nat.le_succ _)) _ _⟩
 ·subst h;have cc:=fun V=>pmul hx hy V;obtain⟨z,hz⟩:∃z,rd (x*y)=z:=⟨_,rfl⟩;have HV:Hid (vB (upQ 8 [x,y])=(z,true)):=zh (by rw[←hz];rfl);rw[hz]at cc;clear hz;rw[hx1,hy1]at cc;have CC:=zh cc;clear cc;obtain⟨z1,z2⟩:=z;go_enter Tryz.func108,Tryz.ntmps108;go_wp2_with fail;obtain⟨W,hW,BW,sW,k0,k1,k2,k3,r0,r1,r2,r3⟩:=box2z w (.string ⟨u.toArray⟩) (.string ⟨v.toArray⟩) (.string ⟨s.toArray⟩) (.string ⟨t.toArray⟩) (.string ⟨#[]⟩) (.string ⟨#[]⟩) 28 28 28;rw[hW];clear hW;have b0:=Below.refl W.heap.size W;refine(CC.out _).mono ?_;rintro e0 w1 ⟨rfl,b⟩;have b1:=Below.more b0 b;clear b;go_wp2_with fail;refine bodyPost_ret (v:=.tuple #[.agg #[.string ⟨z1.toArray⟩,.string ⟨z2.toArray⟩],.bool true]) (by simp[results,Tryz.results108,go_sem, *]) rfl ⟨by rw[HV.out],put2 (Below.more BW b1) (Nat.le_succ_of_le (Nat.le_succ _)) _ _⟩
 ·subst h;by_cases h0:y=0
  ·have cc:=fun V=>pdiv0 hx V;have HV:Hid (vB (upQ 9 [x,y])=(([],[]),false)):=zh (by
    have:upQ 9 [x,y]=none:=by show (if y=0 then none else some (x / y))=none;rw[if_pos h0]
    rw[this];rfl)
   rw[←h0,hx1,hy1]at cc;have CC:=zh cc;clear cc h0;go_enter Tryz.func108,Tryz.ntmps108;go_wp2_with fail;obtain⟨W,hW,BW,sW,k0,k1,k2,k3,r0,r1,r2,r3⟩:=box2z w (.string ⟨u.toArray⟩) (.string ⟨v.toArray⟩) (.string ⟨s.toArray⟩) (.string ⟨t.toArray⟩) (.string ⟨#[]⟩) (.string ⟨#[]⟩) 28 28 28;rw[hW];clear hW;have b0:=Below.refl W.heap.size W;refine(CC.out _).mono ?_;rintro e0 w1 ⟨rfl,b⟩;have b1:=Below.more b0 b;clear b;go_wp2_with fail;refine bodyPost_ret (v:=.tuple #[.agg #[.string ⟨#[]⟩,.string ⟨#[]⟩],.bool false]) (by simp[results,Tryz.results108,go_sem, *]) rfl ⟨by rw[HV.out];first|done|rfl,put2 (Below.more BW b1) (Nat.le_succ_of_le (Nat.le_succ _)) _ _⟩
  ·have cc:=fun V=>pdiv hx hy V h0;obtain⟨z,hz⟩:∃z,rd (x / y)=z:=⟨_,rfl⟩;have HV:Hid (vB (upQ 9 [x,y])=(z,true)):=zh (by
    have:upQ 9 [x,y]=some (x / y):=by show (if y=0 then none else some (x / y))=_;rw[if_neg h0]
    rw[this,← hz];rfl)
   rw[hz,hx1,hy1]at cc;have CC:=zh cc;clear cc h0 hz;obtain⟨z1,z2⟩:=z;go_enter Tryz.func108,Tryz.ntmps108;go_wp2_with fail;obtain⟨W,hW,BW,sW,k0,k1,k2,k3,r0,r1,r2,r3⟩:=box2z w (.string ⟨u.toArray⟩) (.string ⟨v.toArray⟩) (.string ⟨s.toArray⟩) (.string ⟨t.toArray⟩) (.string ⟨#[]⟩) (.string ⟨#[]⟩) 28 28 28;rw[hW];clear hW;have b0:=Below.refl W.heap.size W;refine(CC.out _).mono ?_;rintro e0 w1 ⟨rfl,b⟩;have b1:=Below.more b0 b;clear b;go_wp2_with fail;refine bodyPost_ret (v:=.tuple #[.agg #[.string ⟨z1.toArray⟩,.string ⟨z2.toArray⟩],.bool true]) (by simp[results,Tryz.results108,go_sem, *]) rfl ⟨by rw[HV.out],put2 (Below.more BW b1) (Nat.le_succ_of_le (Nat.le_succ _)) _ _⟩
 ·subst h;obtain⟨q,hq⟩:∃q,sgnQ (x-y)=q:=⟨_,rfl⟩;have cc:=fun V=>pcmp hx hy hq V;rw[hx1,hy1]at cc;have CC:=zh cc;clear cc;have HA:Hid (0<q→vB (upQ 10 [x,y])=((u,v),true)):=zh fun h0=>by
   show (rd (hiQ x y),true)=_;unfold hiQ;rw[if_pos (by omega),hx1]
  have HB:Hid (¬0<q→vB (upQ 10 [x,y])=((s,t),true)):=zh fun h0=>by
   show (rd (hiQ x y),true)=_;unfold hiQ;by_cases h1:q=0
   ·rw[if_pos (by omega),← hy1,Ev.sgn_eq (hq.trans h1)]
   ·rw[if_neg (by omega),hy1]
  clear hq;go_enter Tryz.func108,Tryz.ntmps108;go_wp2_with fail;obtain⟨W,hW,BW,sW,k0,k1,k2,k3,r0,r1,r2,r3⟩:=box2z w (.string ⟨u.toArray⟩) (.string ⟨v.toArray⟩) (.string ⟨s.toArray⟩) (.string ⟨t.toArray⟩) (.string ⟨#[]⟩) (.string ⟨#[]⟩) 28 28 28;rw[hW];clear hW;have b0:=Below.refl W.heap.size W;refine(CC.out _).mono ?_;rintro e0 w1 ⟨rfl,b⟩;have b1:=Below.more b0 b;clear b;by_cases h0:0<q
  ·have HQ:=zh h0;have hd:decide (0<q)=true:=decide_eq_true h0;go_wp2_with fail;refine bodyPost_ret (v:=.tuple #[.agg #[.string ⟨u.toArray⟩,.string ⟨v.toArray⟩],.bool true]) (by simp[results,Tryz.results108,go_sem, *]) rfl ⟨by rw[HA.out (by have:=HQ.out;omega)],put2 (Below.more BW b1) (Nat.le_succ_of_le (Nat.le_succ _)) _ _⟩
  ·have HQ:=zh h0;have hd:decide (0<q)=false:=decide_eq_false h0;go_wp2_with fail;refine bodyPost_ret (v:=.tuple #[.agg #[.string ⟨s.toArray⟩,.string ⟨t.toArray⟩],.bool true]) (by simp[results,Tryz.results108,go_sem, *]) rfl ⟨by rw[HB.out (by have:=HQ.out;omega)],put2 (Below.more BW b1) (Nat.le_succ_of_le (Nat.le_succ _)) _ _⟩
 ·subst h;obtain⟨q,hq⟩:∃q,sgnQ (x-y)=q:=⟨_,rfl⟩;have cc:=fun V=>pcmp hx hy hq V;rw[hx1,hy1]at cc;have CC:=zh cc;clear cc;have HA:Hid (0<q→vB (upQ 11 [x,y])=((s,t),true)):=zh fun h0=>by
   show (rd (loQ x y),true)=_;unfold loQ;rw[if_neg (by omega),hy1]
  have HB:Hid (¬0<q→vB (upQ 11 [x,y])=((u,v),true)):=zh fun h0=>by
   show (rd (loQ x y),true)=_;unfold loQ;rw[if_pos (by omega),hx1]
  clear hq;go_enter Tryz.func108,Tryz.ntmps108;go_wp2_with fail;obtain⟨W,hW,BW,sW,k0,k1,k2,k3,r0,r1,r2,r3⟩:=box2z w (.string ⟨u.toArray⟩) (.string ⟨v.toArray⟩) (.string ⟨s.toArray⟩) (.string ⟨t.toArray⟩) (.string ⟨#[]⟩) (.string ⟨#[]⟩) 28 28 28;rw[hW];clear hW;have b0:=Below.refl W.heap.size W;refine(CC.out _).mono ?_;rintro e0 w1 ⟨rfl,b⟩;have b1:=Below.more b0 b;clear b;by_cases h0:0<q
  ·have HQ:=zh h0;have hd:decide (0<q)=true:=decide_eq_true h0;go_wp2_with fail;refine bodyPost_ret (v:=.tuple #[.agg #[.string ⟨s.toArray⟩,.string ⟨t.toArray⟩],.bool true]) (by simp[results,Tryz.results108,go_sem, *]) rfl ⟨by rw[HA.out (by have:=HQ.out;omega)],put2 (Below.more BW b1) (Nat.le_succ_of_le (Nat.le_succ _)) _ _⟩
  ·have HQ:=zh h0;have hd:decide (0<q)=false:=decide_eq_false h0;go_wp2_with fail;refine bodyPost_ret (v:=.tuple #[.agg #[.string ⟨u.toArray⟩,.string ⟨v.toArray⟩],.bool true]) (by simp[results,Tryz.results108,go_sem, *]) rfl ⟨by rw[HB.out (by have:=HQ.out;omega)],put2 (Below.more BW b1) (Nat.le_succ_of_le (Nat.le_succ _)) _ _⟩
theorem box6r(w:World)(xa xb xc xd xe xf x y:Value)(t t':TypeId):∃W,(w.alloc (.cells #[xa,xb,xc,xd,xe,xf] t)).alloc (.cells #[x,y] t')=W∧Below w.heap.size w W∧w.heap.size+1+1=W.heap.size ∧
  (∀v,Below (w.heap.size+1) W v→v.cell? ⟨w.heap.size,0,none⟩=some xa)∧(∀v,Below (w.heap.size+1) W v→v.cell? ⟨w.heap.size,1,none⟩=some xb)∧(∀v,Below (w.heap.size+1) W v→v.cell? ⟨w.heap.size,2,none⟩=some xc) ∧
  (∀v,Below (w.heap.size+1) W v→v.cell? ⟨w.heap.size,3,none⟩=some xd)∧(∀v,Below (w.heap.size+1) W v→v.cell? ⟨w.heap.size,4,none⟩=some xe)∧(∀v,Below (w.heap.size+1) W v→v.cell? ⟨w.heap.size,5,none⟩=some xf)∧Zc (w.heap.size+1) x y W:=by
 have s1:(w.alloc (.cells #[xa,xb,xc,xd,xe,xf] t)).heap.size=w.heap.size+1:=by simp
 have hz:=zc_new (w.alloc (.cells #[xa,xb,xc,xd,xe,xf] t)) x y t';rw[s1]at hz;have k:∀j u,(#[xa,xb,xc,xd,xe,xf]:Array Value)[j]?=some u→∀v,Below (w.heap.size+1) ((w.alloc (.cells #[xa,xb,xc,xd,xe,xf] t)).alloc (.cells #[x,y] t')) v→v.cell? ⟨w.heap.size,j,none⟩=some u:=fun j u e v hv=>by
  have hb:v.heap[w.heap.size]?=((w.alloc (.cells #[xa,xb,xc,xd,xe,xf] t)).alloc (.cells #[x,y] t')).heap[w.heap.size]?:=hv.block _ (Nat.lt_succ_self _);have h2:((w.alloc (.cells #[xa,xb,xc,xd,xe,xf] t)).alloc (.cells #[x,y] t')).heap[w.heap.size]?=(w.alloc (.cells #[xa,xb,xc,xd,xe,xf] t)).heap[w.heap.size]?:=(Below.alloc (Below.refl _ _) (Nat.le_refl _) _:Below (w.alloc (.cells #[xa,xb,xc,xd,xe,xf] t)).heap.size (w.alloc (.cells #[xa,xb,xc,xd,xe,xf] t)) _).block _ (by rw[s1];exact Nat.lt_succ_self _);exact(World.cell?_of_block (w:=w.alloc (.cells #[xa,xb,xc,xd,xe,xf] t)) (a:=⟨w.heap.size,j,none⟩) (hb.trans h2)).trans ((cell_new w _ _ _ rfl j).trans e)
 exact⟨_,rfl,Below.alloc (Below.alloc (Below.refl _ _) (Nat.le_refl _) _) (by rw[s1];omega) _,by simp,k 0 _ rfl,k 1 _ rfl,k 2 _ rfl,k 3 _ rfl,k 4 _ rfl,k 5 _ rfl,hz⟩
theorem evalue_leaf{D:Nat}(hD0:0<D)(hD:60*D+4≤19000)(x:Nd)(p':Option Addr)(d' m:Nat)(p:Option Addr)(c:Nat)(l:List Fx.Fix)(w:World)(hx:okN x=true)(h1:1≤x.op∧x.op≤4)(hc:l.length≤c)(hl:l.length≤1000000)(hgf:Fx.GoodF l)(hs:∀f∈l,Ev.Dg D (Ev.prF f))(ht:∀k∈Ev.spanN x,Fx.thereF l k=true)(h:Fxs w p l)(hg:GoodT w) :
  Calls Tryz.prog 66 #[.agg #[.int .i64 x.op,.string ⟨x.num.1.toArray⟩,.string ⟨x.num.2.toArray⟩,.string ⟨x.ast.toArray⟩,.int .i64 x.a,.int .i64 x.b],.slice p' m d',.slice p l.length c] w (GiveRB w (rd (Ev.leafQ l x),true)):=by
 obtain⟨f,r,hn,hv⟩:=Ev.leaf_price hgf hx h1 ht;have hlen:=Ev.named_len hgf ht;have hs60:=Ev.span_len hx;have hat:=(Ev.named_at hgf ht).1;rw[hn,List.length_cons]at hlen;have hPr:Prs D (f::r):=⟨by rw[List.length_cons];omega,fun y hy=>by
  have hm:=Ev.named_in (hn▸hy);have ho:=hgf.1 _ hm;unfold Fx.okF at ho;simp only[Bool.and_eq_true]at ho;exact⟨ho.2.2.2,hs y hm⟩⟩
 obtain⟨y,hy⟩:∃y,l[0]?=some y:=⟨_,List.getElem?_eq_getElem (by omega)⟩;obtain⟨pb,po,rfl,_⟩:=h 0 _ hy;have rows:=h.part (Fx.rankF l (x.ast,x.a)) (Ev.spanN x).length;rw[show (l.drop (Fx.rankF l (x.ast,x.a))).take (Ev.spanN x).length=f::r from hn]at rows;have cf:=fun V (hV:Below w.heap.size w V)=>enamed_any x pb po c l V hx h1 hc hl hgf ht (h.below hV);rw[hn,List.length_cons]at cf;have cp:=fun V (hV:Below w.heap.size w V)=>eprice_P hD0 hD x.op (some ⟨pb,po+Fx.rankF l (x.ast,x.a)*4,none⟩) (c-Fx.rankF l (x.ast,x.a)) f r V (by omega) hPr (rows.below hV) (hg.below hV);rw[hv];generalize rd (Ev.prcQ x.op f r)=z at *;obtain⟨u,v⟩:=z;have CF:=zh cf;have CP:=zh cp
 have hne:(x.ast == [])=false:=by
  cases e:(x.ast == []) with
  | false=>rfl
  | true =>
   have e:=beq_iff_eq.1 e;have k:Tm.astB x.ast=true:=by
    by_cases g:x.op=1
    ·exact(Tm.ok_px hx g).2.1
    ·exact(Tm.ok_avg hx (by omega)).2.1
   rw[e]at k;exact absurd k (by decide)
 have cn:=fun V=>epriced_any x.op x.a x.b x.num.1 x.num.2 x.ast V;rw[hne]at cn;have CN:=zh cn;clear cf cp cn hne hn hv hlen hat hPr hy rows h hg ht hs hgf;generalize Fx.rankF l (x.ast,x.a)=i at *;generalize r.length+1=N at *;go_enter Tryz.func66,Tryz.ntmps66;go_wp2_with fail;obtain⟨W,hW,BW,sW,k0,k1,k2,k3,k4,k5,hz⟩:=box6r w (.int .i64 x.op) (.string ⟨x.num.1.toArray⟩) (.string ⟨x.num.2.toArray⟩) (.string ⟨x.ast.toArray⟩) (.int .i64 x.a) (.int .i64 x.b) (.string ⟨#[]⟩) (.string ⟨#[]⟩) 55 28;rw[hW];clear hW;have b0:=Below.refl W.heap.size W;have hB:Hid (w.heap.size+1≤W.heap.size):=zh (by omega);have q0:=Below.refl (w.heap.size+1) W;have g0:=k0 _ q0;have g1:=k1 _ q0;have g2:=k2 _ q0;have g3:=k3 _ q0;have g4:=k4 _ q0;have g5:=k5 _ q0
 refine(CN.out _).mono ?_;rintro e0 w1 ⟨rfl,b⟩;have p1:Below (w.heap.size+1) W w1:=b.mono hB.out;have b1:=Below.more b0 b;have hz1:=hz.below b;have z0:=hz1.c0;have z1:=hz1.c1;have z2:=hz1.f0;have z3:=hz1.f1
 clear b hz q0 g0 g1 g2 g3 g4 g5;have BV:Hid (∀V,Below (w.heap.size+1) W V→Below w.heap.size w V):=zh fun V h=>BW.trans (h.mono (Nat.le_succ _));go_wp2_with fail;have hzd:=hz1.drew
 first|(go_region_held3 (fun w'=>Below (w.heap.size+1) W w')
     (first|(exact p1.drew)|(with_reducible assumption)|(exact Below.alloc (by with_reducible assumption) (Nat.le_trans hB.out (Below.size (by with_reducible assumption))) _)|(exact put2 (by with_reducible assumption) (Nat.le_refl _) _ _)|(exact put2 (by with_reducible assumption) hB.out _ _)|(exact put2 (by with_reducible assumption) (Nat.le_trans hB.out (Below.size (by with_reducible assumption))) _ _))
     (first|(go_at_call 105;(with_reducible refine(held (W:=W) hB.out (CF.out _ (BV.out _ (by with_reducible assumption))) (by assumption)).mono ?_);rintro e w'' ⟨rfl,hb,hw⟩;(first|(have hz:=zc_made0 hb)|(have hz:=zc_made hb)|skip);(try have hz:=Zc.below (by assumption) hb);(try (have z0:=hz.c0;have z1:=hz.c1;have z2:=hz.f0;have z3:=hz.f1)))|(go_at_call 104;(with_reducible refine(held (W:=W) hB.out (CP.out _ (BV.out _ (by with_reducible assumption))) (by assumption)).mono ?_);rintro e w'' ⟨rfl,hb,hw⟩;(first|(have hz:=zc_made0 hb)|(have hz:=zc_made hb)|skip);(try have hz:=Zc.below (by assumption) hb);(try (have z0:=hz.c0;have z1:=hz.c1;have z2:=hz.f0;have z3:=hz.f1)))))|fail
 all_goals (go_wp2_with fail)
 all_goals (refine bodyPost_ret (v:=.tuple #[.agg #[.string ⟨u.toArray⟩,.string ⟨v.toArray⟩],.bool true]) (by simp[results,Tryz.results66,go_sem, *]) rfl ⟨rfl,BV.out _ (by with_reducible assumption)⟩)
theorem evalue_num(x:Nd)(p':Option Addr)(d':Nat)(p:Option Addr)(c m:Nat)(w:World)(hx:okN x=true)(h0:x.op=0):Calls Tryz.prog 66 #[.agg #[.int .i64 x.op,.string ⟨x.num.1.toArray⟩,.string ⟨x.num.2.toArray⟩,.string ⟨x.ast.toArray⟩,.int .i64 x.a,.int .i64 x.b],.slice p' 0 d',.slice p m c] w (GiveRB w (x.num,true)):=by
 have hne:(x.ast == [])=true:=by rw[show x.ast=[] from by rw[(Tm.ok_num hx h0).1]];rfl
 have cn:=fun V=>epriced_any x.op x.a x.b x.num.1 x.num.2 x.ast V;rw[hne]at cn;have CN:=zh cn;clear cn hne;rw[h0]at *;go_enter Tryz.func66,Tryz.ntmps66;go_wp2_with fail;obtain⟨W,hW,BW,sW,k0,k1,k2,k3,k4,k5,hz⟩:=box6r w (.int .i64 0) (.string ⟨x.num.1.toArray⟩) (.string ⟨x.num.2.toArray⟩) (.string ⟨x.ast.toArray⟩) (.int .i64 x.a) (.int .i64 x.b) (.string ⟨#[]⟩) (.string ⟨#[]⟩) 55 28;rw[hW];clear hW;have b0:=Below.refl W.heap.size W;have hB:Hid (w.heap.size+1≤W.heap.size):=zh (by omega);have q0:=Below.refl (w.heap.size+1) W;have g0:=k0 _ q0;have g1:=k1 _ q0;have g2:=k2 _ q0;have g3:=k3 _ q0;have g4:=k4 _ q0;have g5:=k5 _ q0
 refine(CN.out _).mono ?_;rintro e0 w1 ⟨rfl,b⟩;have p1:Below (w.heap.size+1) W w1:=b.mono hB.out;have b1:=Below.more b0 b;have hz1:=hz.below b;have z0:=hz1.c0;have z1:=hz1.c1;have z2:=hz1.f0;have z3:=hz1.f1
 clear b hz q0 g0 g1 g2 g3 g4 g5;have BV:Hid (∀V,Below (w.heap.size+1) W V→Below w.heap.size w V):=zh fun V h=>BW.trans (h.mono (Nat.le_succ _));go_wp2_with fail;refine bodyPost_ret (v:=.tuple #[.agg #[.string ⟨x.num.1.toArray⟩,.string ⟨x.num.2.toArray⟩],.bool true]) (by simp[results,Tryz.results66,go_sem, *]) rfl ⟨rfl,BV.out _ (put2 p1 (Nat.le_refl _) _ _)⟩
theorem evalue_neg(x:Nd)(p':Option Addr)(d':Nat)(p:Option Addr)(c m:Nat)(w:World)(y:Rat)(hx:okN x=true)(h0:x.op=5)(hy:ShP y)(h:Qs w p' [y]):Calls Tryz.prog 66 #[.agg #[.int .i64 x.op,.string ⟨x.num.1.toArray⟩,.string ⟨x.num.2.toArray⟩,.string ⟨x.ast.toArray⟩,.int .i64 x.a,.int .i64 x.b],.slice p' 1 d',.slice p m c] w (GiveRB w (rd (-y),true)):=by
 have hne:(x.ast == [])=true:=by rw[show x.ast=[] from by rw[Tm.ok_more hx (by omega)];rfl];rfl
 have cn:=fun V=>epriced_any x.op x.a x.b x.num.1 x.num.2 x.ast V;rw[hne]at cn;have CN:=zh cn;clear cn hne;rw[h0]at *;obtain⟨qb,qo,rfl,a00,a01⟩:=q_rule h (k:=0) (x:=y) rfl
 try simp only[Nat.zero_mul,Nat.add_zero,Nat.one_mul]at a00 a01
 have cc:=fun V=>pneg hy V;obtain⟨⟨u,v⟩,hu⟩:∃z,rd (-y)=z:=⟨_,rfl⟩;rw[hu]at cc ⊢;have CC:=zh cc;clear cc hu hy h h0;go_enter Tryz.func66,Tryz.ntmps66;go_wp2_with fail;obtain⟨W,hW,BW,sW,k0,k1,k2,k3,k4,k5,hz⟩:=box6r w (.int .i64 5) (.string ⟨x.num.1.toArray⟩) (.string ⟨x.num.2.toArray⟩) (.string ⟨x.ast.toArray⟩) (.int .i64 x.a) (.int .i64 x.b) (.string ⟨#[]⟩) (.string ⟨#[]⟩) 55 28;rw[hW];clear hW;have b0:=Below.refl W.heap.size W;have hB:Hid (w.heap.size+1≤W.heap.size):=zh (by omega);have q0:=Below.refl (w.heap.size+1) W;have g0:=k0 _ q0;have g1:=k1 _ q0;have g2:=k2 _ q0;have g3:=k3 _ q0;have g4:=k4 _ q0;have g5:=k5 _ q0
 refine(CN.out _).mono ?_;rintro e0 w1 ⟨rfl,b⟩;have p1:Below (w.heap.size+1) W w1:=b.mono hB.out;have b1:=Below.more b0 b;have hz1:=hz.below b;have z0:=hz1.c0;have z1:=hz1.c1;have z2:=hz1.f0;have z3:=hz1.f1
 clear b hz q0 g0 g1 g2 g3 g4 g5;have BV:Hid (∀V,Below (w.heap.size+1) W V→Below w.heap.size w V):=zh fun V h=>BW.trans (h.mono (Nat.le_succ _));replace a00:=fun v (h:Below (w.heap.size+1) W v)=>a00 v (BV.out v h);replace a01:=fun v (h:Below (w.heap.size+1) W v)=>a01 v (BV.out v h);have c00:=a00 _ p1;have c01:=a01 _ p1;go_wp2_with fail;refine(CC.out _).mono ?_;rintro e0 w2 ⟨rfl,b⟩;have p2:Below (w.heap.size+1) W w2:=p1.trans (b.mono (Nat.le_trans hB.out (Below.size b1)));have hz2:=hz1.below b;have z4:=hz2.c0;have z5:=hz2.c1;have z6:=hz2.f0;have z7:=hz2.f1
 go_wp2_with fail;refine bodyPost_ret (v:=.tuple #[.agg #[.string ⟨u.toArray⟩,.string ⟨v.toArray⟩],.bool true]) (by simp[results,Tryz.results66,go_sem, *]) rfl ⟨rfl,BV.out _ (put2 p2 (Nat.le_refl _) _ _)⟩
theorem evalue_if(x:Nd)(p':Option Addr)(d':Nat)(p:Option Addr)(c m:Nat)(w:World)(y z s:Rat)(hx:okN x=true)(h0:x.op=12)(hy:ShP y)(h:Qs w p' [y,z,s]):Calls Tryz.prog 66 #[.agg #[.int .i64 x.op,.string ⟨x.num.1.toArray⟩,.string ⟨x.num.2.toArray⟩,.string ⟨x.ast.toArray⟩,.int .i64 x.a,.int .i64 x.b],.slice p' 3 d',.slice p m c] w (GiveRB w (rd (if 0<sgnQ y then z else s),true)):=by
 have hne:(x.ast == [])=true:=by rw[show x.ast=[] from by rw[Tm.ok_more hx (by omega)];rfl];rfl
 have cn:=fun V=>epriced_any x.op x.a x.b x.num.1 x.num.2 x.ast V;rw[hne]at cn;have CN:=zh cn;clear cn hne;rw[h0]at *;obtain⟨qb,qo,rfl,a00,a01⟩:=q_rule h (k:=0) (x:=y) rfl
 try simp only[Nat.zero_mul,Nat.add_zero,Nat.one_mul]at a00 a01
 obtain⟨qb,qo,hq1,a10,a11⟩:=q_rule h (k:=1) (x:=z) rfl
 cases hq1
 try simp only[Nat.zero_mul,Nat.add_zero,Nat.one_mul]at a10 a11
 obtain⟨qb,qo,hq2,a20,a21⟩:=q_rule h (k:=2) (x:=s) rfl
 cases hq2
 try simp only[Nat.zero_mul,Nat.add_zero,Nat.one_mul]at a20 a21
 have cc:=fun V=>psign hy V;obtain⟨t,ht⟩:∃t,sgnQ y=t:=⟨_,rfl⟩;rw[ht]at cc ⊢;have CC:=zh cc;obtain⟨R,hR⟩:∃R,rd (if 0<t then z else s)=R:=⟨_,rfl⟩;have HA:Hid (0<t→R=rd z):=zh fun h=>by rw[←hR,if_pos h]
 have HC:Hid (¬0<t→R=rd s):=zh fun h=>by rw[←hR,if_neg h]
 rw[hR];clear hR;clear cc ht hy h h0;go_enter Tryz.func66,Tryz.ntmps66;go_wp2_with fail;obtain⟨W,hW,BW,sW,k0,k1,k2,k3,k4,k5,hz⟩:=box6r w (.int .i64 12) (.string ⟨x.num.1.toArray⟩) (.string ⟨x.num.2.toArray⟩) (.string ⟨x.ast.toArray⟩) (.int .i64 x.a) (.int .i64 x.b) (.string ⟨#[]⟩) (.string ⟨#[]⟩) 55 28;rw[hW];clear hW;have b0:=Below.refl W.heap.size W;have hB:Hid (w.heap.size+1≤W.heap.size):=zh (by omega);have q0:=Below.refl (w.heap.size+1) W;have g0:=k0 _ q0;have g1:=k1 _ q0;have g2:=k2 _ q0;have g3:=k3 _ q0;have g4:=k4 _ q0;have g5:=k5 _ q0
 refine(CN.out _).mono ?_;rintro e0 w1 ⟨rfl,b⟩;have p1:Below (w.heap.size+1) W w1:=b.mono hB.out;have b1:=Below.more b0 b;have hz1:=hz.below b;have z0:=hz1.c0;have z1:=hz1.c1;have z2:=hz1.f0;have z3:=hz1.f1
 clear b hz q0 g0 g1 g2 g3 g4 g5;have BV:Hid (∀V,Below (w.heap.size+1) W V→Below w.heap.size w V):=zh fun V h=>BW.trans (h.mono (Nat.le_succ _));replace a00:=fun v (h:Below (w.heap.size+1) W v)=>a00 v (BV.out v h);replace a01:=fun v (h:Below (w.heap.size+1) W v)=>a01 v (BV.out v h);replace a10:=fun v (h:Below (w.heap.size+1) W v)=>a10 v (BV.out v h);replace a11:=fun v (h:Below (w.heap.size+1) W v)=>a11 v (BV.out v h);replace a20:=fun v (h:Below (w.heap.size+1) W v)=>a20 v (BV.out v h);replace a21:=fun v (h:Below (w.heap.size+1) W v)=>a21 v (BV.out v h);have c00:=a00 _ p1;have c01:=a01 _ p1;have c10:=a10 _ p1;have c11:=a11 _ p1;have c20:=a20 _ p1;have c21:=a21 _ p1;go_wp2_with fail;refine(CC.out _).mono ?_;rintro e0 w2 ⟨rfl,b⟩;have p2:Below (w.heap.size+1) W w2:=p1.trans (b.mono (Nat.le_trans hB.out (Below.size b1)));have hz2:=hz1.below b;have z4:=hz2.c0;have z5:=hz2.c1;have z6:=hz2.f0;have z7:=hz2.f1
 have d10:=a10 _ p2;have d11:=a11 _ p2;have d20:=a20 _ p2;have d21:=a21 _ p2
 by_cases ht:0<t
 ·have HQ:=zh ht;go_wp2_with fail;refine bodyPost_ret (v:=.tuple #[.agg #[.string ⟨(rd z).1.toArray⟩,.string ⟨(rd z).2.toArray⟩],.bool true]) (by simp[results,Tryz.results66,go_sem, *]) rfl ⟨by rw[HA.out (by have:=HQ.out;omega)],BV.out _ (put2 p2 (Nat.le_refl _) _ _)⟩
 ·have HQ:=zh ht;go_wp2_with fail;refine bodyPost_ret (v:=.tuple #[.agg #[.string ⟨(rd s).1.toArray⟩,.string ⟨(rd s).2.toArray⟩],.bool true]) (by simp[results,Tryz.results66,go_sem, *]) rfl ⟨by rw[HC.out (by have:=HQ.out;omega)],BV.out _ (put2 p2 (Nat.le_refl _) _ _)⟩
theorem evalue_two(x:Nd)(p':Option Addr)(d':Nat)(p:Option Addr)(c m:Nat)(w:World)(y z:Rat)(hx:okN x=true)(h0:6≤x.op∧x.op≤11)(hy:ShP y)(hz':ShP z)(h:Qs w p' [y,z]):Calls Tryz.prog 66 #[.agg #[.int .i64 x.op,.string ⟨x.num.1.toArray⟩,.string ⟨x.num.2.toArray⟩,.string ⟨x.ast.toArray⟩,.int .i64 x.a,.int .i64 x.b],.slice p' 2 d',.slice p m c] w (GiveRB w (vB (upQ x.op [y,z]))):=by
 have hne:(x.ast == [])=true:=by rw[show x.ast=[] from by rw[Tm.ok_more hx (by omega)];rfl];rfl
 have cn:=fun V=>epriced_any x.op x.a x.b x.num.1 x.num.2 x.ast V;rw[hne]at cn;have CN:=zh cn;clear cn hne;obtain⟨qb,qo,rfl,a00,a01⟩:=q_rule h (k:=0) (x:=y) rfl
 try simp only[Nat.zero_mul,Nat.add_zero,Nat.one_mul]at a00 a01
 obtain⟨qb,qo,hq1,a10,a11⟩:=q_rule h (k:=1) (x:=z) rfl
 cases hq1
 try simp only[Nat.zero_mul,Nat.add_zero,Nat.one_mul]at a10 a11
 have cj:=fun V=>ejoin_any x.op y z V hy hz' h0;generalize vB (upQ x.op [y,z])=r at *;obtain⟨⟨u,v⟩,t⟩:=r;have CJ:=zh cj;have n0:¬x.op=0:=by omega
 have n5:¬x.op=5:=by omega
 have n12:¬x.op=12:=by omega
 have m0:=beq_false_of_ne n0;have m5:=beq_false_of_ne n5;have m12:=beq_false_of_ne n12
 clear cj hy hz' h h0 hx;go_enter Tryz.func66,Tryz.ntmps66;go_wp2_with fail;obtain⟨W,hW,BW,sW,k0,k1,k2,k3,k4,k5,hz⟩:=box6r w (.int .i64 x.op) (.string ⟨x.num.1.toArray⟩) (.string ⟨x.num.2.toArray⟩) (.string ⟨x.ast.toArray⟩) (.int .i64 x.a) (.int .i64 x.b) (.string ⟨#[]⟩) (.string ⟨#[]⟩) 55 28;rw[hW];clear hW;have b0:=Below.refl W.heap.size W;have hB:Hid (w.heap.size+1≤W.heap.size):=zh (by omega);have q0:=Below.refl (w.heap.size+1) W;have g0:=k0 _ q0;have g1:=k1 _ q0;have g2:=k2 _ q0;have g3:=k3 _ q0;have g4:=k4 _ q0;have g5:=k5 _ q0
 refine(CN.out _).mono ?_;rintro e0 w1 ⟨rfl,b⟩;have p1:Below (w.heap.size+1) W w1:=b.mono hB.out;have b1:=Below.more b0 b;have hz1:=hz.below b;have z0:=hz1.c0;have z1:=hz1.c1;have z2:=hz1.f0;have z3:=hz1.f1
 clear b hz q0 g0 g1 g2 g3 g4 g5;have BV:Hid (∀V,Below (w.heap.size+1) W V→Below w.heap.size w V):=zh fun V h=>BW.trans (h.mono (Nat.le_succ _));replace a00:=fun v (h:Below (w.heap.size+1) W v)=>a00 v (BV.out v h);replace a01:=fun v (h:Below (w.heap.size+1) W v)=>a01 v (BV.out v h);replace a10:=fun v (h:Below (w.heap.size+1) W v)=>a10 v (BV.out v h);replace a11:=fun v (h:Below (w.heap.size+1) W v)=>a11 v (BV.out v h);go_wp2_with fail;have hzd:=hz1.drew
 first|(go_region_held3 (fun w'=>Below (w.heap.size+1) W w')
     (first|(exact p1.drew)|(with_reducible assumption)|(exact Below.alloc (by with_reducible assumption) (Nat.le_trans hB.out (Below.size (by with_reducible assumption))) _)|(exact put2 (by with_reducible assumption) (Nat.le_refl _) _ _)|(exact put2 (by with_reducible assumption) hB.out _ _)|(exact put2 (by with_reducible assumption) (Nat.le_trans hB.out (Below.size (by with_reducible assumption))) _ _))
     (first|(go_at_call 108;(with_reducible refine(held (W:=W) hB.out (CJ.out _) (by assumption)).mono ?_);rintro e w'' ⟨rfl,hb,hw⟩;(first|(have hz:=zc_made0 hb)|(have hz:=zc_made hb)|skip);(try have hz:=Zc.below (by assumption) hb);(try (have z0:=hz.c0;have z1:=hz.c1;have z2:=hz.f0;have z3:=hz.f1)))))|fail
 all_goals (go_wp2_with fail)
 all_goals (refine bodyPost_ret (v:=.tuple #[.agg #[.string ⟨u.toArray⟩,.string ⟨v.toArray⟩],.bool t]) (by simp[results,Tryz.results66,go_sem, *]) rfl ⟨rfl,BV.out _ (by with_reducible assumption)⟩)
theorem evalue_any{D:Nat}(x:Nd)(q:List Rat)(p':Option Addr)(d':Nat)(p:Option Addr)(c:Nat)(l:List Fx.Fix)(w:World)(hx:okN x=true)(ha:arN x.op=some q.length)(hq:∀y∈q,ShP y)(hT:Qs w p' q)(hc:l.length≤c)(hl:l.length≤1000000)(hgf:Fx.GoodF l)(ht:∀k∈Ev.spanN x,Fx.thereF l k=true)(hD:1≤x.op∧x.op≤4→60*D+4≤19000∧∀f∈l,Ev.Dg D (Ev.prF f))(h:Fxs w p l)(hg:GoodT w) :
  Calls Tryz.prog 66 #[.agg #[.int .i64 x.op,.string ⟨x.num.1.toArray⟩,.string ⟨x.num.2.toArray⟩,.string ⟨x.ast.toArray⟩,.int .i64 x.a,.int .i64 x.b],.slice p' q.length d',.slice p l.length c] w (GiveRB w (vB (stepV l x q))):=by
 match q,ha,hq,hT with
 | [],ha,hq,hT =>
  have ho:=(Tm.ar_zero x.op).1 ha;show Calls _ _ _ w (GiveRB w (rd (Ev.leafQ l x),true));by_cases h0:x.op=0
  ·have e:rd (Ev.leafQ l x)=x.num:=by
    unfold Ev.leafQ;rw[if_pos h0];exact rd_valR (Tm.ok_num hx h0).2.1
   rw[e];exact evalue_num x p' d' p c l.length w hx h0
  ·have h1:1≤x.op∧x.op≤4:=by omega
   have hD0:0<D:=by
    have h2:=Ev.span_first hx h1;obtain⟨y,hy,_⟩:=Fx.there_some (ht _ h2);exact((hD h1).2 y (List.mem_of_getElem? hy)).2
   exact evalue_leaf hD0 (hD h1).1 x p' d' 0 p c l w hx h1 hc hl hgf (hD h1).2 ht h hg
 | [y],ha,hq,hT =>
  have h0:x.op=5:=Tm.ops1 ha;exact evalue_neg x p' d' p c l.length w y hx h0 (hq y (by simp)) hT
 | [y,z],ha,hq,hT =>
  have h0:6≤x.op∧x.op≤11:=by have:=Tm.ops2 ha;omega
  have e:stepV l x [y,z]=upQ x.op [y,z]:=Ev.step_up (by simp);rw[e];exact evalue_two x p' d' p c l.length w y z hx h0 (hq y (by simp)) (hq z (by simp)) hT
 | [y,z,s],ha,hq,hT =>
  have h0:x.op=12:=Tm.ops3 ha;have e:stepV l x [y,z,s]=some (if 0<sgnQ y then z else s):=Ev.step_up (by simp);rw[e];exact evalue_if x p' d' p c l.length w y z s hx h0 (hq y (by simp)) hT
 | _::_::_::_::_,ha,_,_=>have:=Tm.arN_le ha;simp only[List.length_cons]at this;omega
end Go.Proofs.YtghioekjghmdaaaGreatDoor
set_option maxHeartbeats 4000000
set_option maxRecDepth 100000
namespace Go.Proofs.YtghioekjghmdaaaGreatDoor
open Go.RowKit
open Tm (Nd Tr arN arI astB okN)
def encZ(n:Nat):List Value:=[.int .i64 (n:Int)]
theorem encZ_one(n:Nat):∀v∈encZ n,v.oneCell'=true:=fun v hv=>by
 obtain rfl:=List.mem_singleton.1 hv;rfl
theorem own_nil{α:Type}{enc:α→List Value}{k:Nat}{e:TypeId}{B:Nat}(w:World):OwnG enc k e B w (.slice none 0 0) ([]:List α):=World.ownsRow_nil _ _ _ _
theorem tindex_any(p:Option Addr)(c:Nat)(t:List Nd)(w:World)(hl:t.length≤1000000)(hz:∀x∈t,x.num.1.length≤100000∧x.num.2.length≤100000)(h:Nds w p t) :
  Calls Tryz.prog 118 #[.slice p t.length c,.func (.func 97) #[] #[]] w fun e w'=>∃i:Int,e=.returned (.int .i64 i)∧(t.all okN=true→i=-1)∧(t.all okN=false→0≤i)∧Below w.heap.size w w':=by
 have HS:=zh h;have HZ:=zh hz;clear h hz
 go_enter Tryz.func118,Tryz.ntmps118
 go_wp2
 go_loopw [8] (fun i wr=>∃k:Nat,k≤t.length∧i=.int .i64 k∧Hid (∀j z,j<k→t[j]?=some z→okN z=true)∧Below w.heap.size w wr) (fun i _=>t.length-(intOf i).toNat)
 case atStart=>exact⟨0,Nat.zero_le _,rfl,fun j z h=>absurd h (Nat.not_lt_zero j),Below.refl _ _⟩
 case round =>
  obtain⟨k,hk,rfl,HJ,hw⟩:=hrel;by_cases hlt:k<t.length
  ·obtain⟨x,hx⟩:∃x,t[k]?=some x:=⟨_,List.getElem?_eq_getElem hlt⟩;obtain⟨b',o',rfl,k0,k1,k2,k3,k4,k5⟩:=nds_rule (HS.out.below hw) hx;have hzx:=HZ.out x (List.mem_of_getElem? hx);have cc:=tmay_any x wr hzx.1 hzx.2;have bw:=Below.refl wr.heap.size wr;have q0:=k0 _ bw;have q1:=k1 _ bw;have q2:=k2 _ bw;have q3:=k3 _ bw;have q4:=k4 _ bw;have q5:=k5 _ bw
   cases he:okN x with
   | true =>
    rw[he]at cc;have HJ2:Hid (∀j z,j<k+1→t[j]?=some z→okN z=true):=zh fun j z hj hz=>by
     rcases Nat.lt_or_eq_of_le (Nat.le_of_lt_succ hj) with g|g
     ·exact HJ.out j z g hz
     ·subst g;rw[hx]at hz;obtain rfl:=Option.some.inj hz;exact he
    have CK:=zh cc;have HW:=zh hw;clear cc hx he hw bw k0 k1 k2 k3 k4 k5 hzx;go_wp2_with fail;refine CK.out.mono ?_;rintro e w1 ⟨rfl,b1⟩;go_wp2_with fail;go_roundw
    case rel=>exact⟨k+1,hlt,by go_num,HJ2.out,Below.more HW.out b1⟩
    case measure=>simp[intOf];omega
   | false =>
    rw[he]at cc;have HO:Hid (t.all okN=false):=zh (by
     cases e:t.all okN with
     | false=>rfl
     | true =>
      have:=List.all_eq_true.1 e x (List.mem_of_getElem? hx);rw[he]at this;cases this)
    have CK:=zh cc;have HW:=zh hw;clear cc hx he hw bw k0 k1 k2 k3 k4 k5 hzx;go_wp2_with fail;refine CK.out.mono ?_;rintro e w1 ⟨rfl,b1⟩;go_wp2_with fail;go_ret;exact⟨_,rfl,(fun h=>by rw[HO.out]at h;cases h),fun _=>by omega,Below.more HW.out b1⟩
  ·obtain rfl:k=t.length:=by omega
   have HO:Hid (t.all okN=true):=zh (List.all_eq_true.2 fun x hx=>by
    obtain⟨j,hj⟩:=List.getElem?_of_mem hx;exact HJ.out j x (List.getElem?_eq_some_iff.1 hj).1 hj)
   have HW:=zh hw;clear hw;go_wp2_with fail;go_ret;exact⟨_,rfl,fun _=>rfl,(fun h=>by rw[HO.out]at h;cases h),HW.out⟩
theorem tcontains_any(p:Option Addr)(c:Nat)(t:List Nd)(w:World)(hl:t.length≤1000000)(hz:∀x∈t,x.num.1.length≤100000∧x.num.2.length≤100000)(h:Nds w p t) :
  Calls Tryz.prog 96 #[.slice p t.length c,.func (.func 97) #[] #[]] w (GiveB w (!(t.all okN))):=by
 have C:=zh (tindex_any p c t w hl hz h);have b0:=Below.refl w.heap.size w;clear h hz;go_enter Tryz.func96,Tryz.ntmps96;go_wp2_with fail;refine C.out.mono ?_;rintro e w1 ⟨i,rfl,h1,h2,b⟩
 cases ho:t.all okN with
 | true =>
  obtain rfl:=h1 ho;go_wp2_with fail;go_ret;exact⟨retB (by rw[ho]<;>rfl),Below.more b0 b⟩
 | false =>
  have hi:=h2 ho;go_wp2_with fail;go_ret;exact⟨retB (by rw[ho]<;>first|rfl|simp[hi]),Below.more b0 b⟩
def fL(l:List (List Nd))(k:Nat):Nat:=(l.take k).flatten.length
end Go.Proofs.YtghioekjghmdaaaGreatDoor
namespace Go.Proofs.YtghioekjghmdaaaGreatDoor
open Go.RowKit
open Tm (Nd Tr arN arI astB okN formB treeOf stk mkT)
theorem grw_none{w w':World}(h:Below w.heap.size w w')(row:Option Nat):w.grownBy w' row:=⟨h.os,h.tape,h.output,h.size,fun k hk _=>h.block k hk⟩
structure NdS(b:Nat)(x:Nd)(w:World):Prop where
 lt:b<w.heap.size
 c:∀ (i:Nat) (v:Value),(encD x)[i]?=some v→w.cell? ⟨b,i,none⟩=some v
theorem NdS.grown{b:Nat}{x:Nd}{w w':World}{row:Option Nat}(h:NdS b x w)(hg:w.grownBy w' row)(hr:row≠some b):NdS b x w':=by
 have hb:w'.heap[b]?=w.heap[b]?:=hg.block b h.lt (fun e=>hr e.symm);exact⟨Nat.lt_of_lt_of_le h.lt hg.size,fun i v e=>(World.cell?_of_block (w:=w) (a:=⟨b,i,none⟩) hb).trans (h.c i v e)⟩
theorem NdS.drew{b:Nat}{x:Nd}{w:World}(h:NdS b x w):NdS b x w.drew:=⟨h.lt,h.c⟩
theorem grw_drew(w:World):w.grownBy w.drew none:=⟨rfl,rfl,rfl,Nat.le_refl _,fun _ _ _=>rfl⟩
section
variable {α : Type} {enc : α → List Value} {k : Nat}
theorem own_take{e:TypeId}{B:Nat}{w:World}{g:Nat}{n c q:Nat}{l:List α}(hk:∀x,(enc x).length=k)(h:OwnG enc k e B w (.slice (some ⟨g,0,none⟩) n c) l)(hq:q≤n):OwnG enc k e B w (.slice (some ⟨g,0,none⟩) q c) (l.take q):=by
 rcases h.2 with ⟨h,_⟩|⟨g',cap,cur,hv,k2,k3,k4,k5,k6,k7⟩
 ·cases h
 ·have e1:some (⟨g,0,none⟩:Addr)=some ⟨g',0,none⟩∧n=l.length∧c=cap:=by
   injection hv with a b c
   exact⟨a,b,c⟩
  obtain⟨e1,rfl,rfl⟩:=e1
  cases e1
  have hql:(l.take q).length=q:=by rw[List.length_take];omega
  refine⟨flat_len hk _,.inr ⟨g,c,cur,by rw[hql],k2,k3,by omega,k5,k6,?_⟩⟩;have e2:l.flatMap enc=(l.take q).flatMap enc++(l.drop q).flatMap enc:=by rw[←List.flatMap_append,List.take_append_drop]
  rw[hql];have e3:cur.toList.take (q*k)=(cur.toList.take (l.length*k)).take (q*k):=by
   rw[List.take_take,Nat.min_eq_left (Nat.mul_le_mul_right _ hq)]
  rw[e3,k7,e2,List.take_append_of_le_length (by rw[flat_len hk,hql];exact Nat.le_refl _),List.take_of_length_le (by rw[flat_len hk,hql];exact Nat.le_refl _)]
theorem own_form{e:TypeId}{B:Nat}{w:World}{a:Option Addr}{n c:Nat}{l:List α}(h:OwnG enc k e B w (.slice a n c) l) :
  (a=none∧n=0∧c=0∧l=[])∨∃g,a=some ⟨g,0,none⟩∧B≤g∧g<w.heap.size∧l.length=n∧n≤c:=by
 rcases h.2 with ⟨h,h0⟩|⟨g',cap,cur,hv,k2,k3,k4,k5,k6,k7⟩
 ·injection h with a b c
  exact .inl ⟨a,b,c,List.length_eq_zero_iff.1 h0⟩
 ·injection hv with a b c
  subst a b c;exact .inr ⟨g',rfl,k2,(Array.getElem?_eq_some_iff.1 k3).1,rfl,k4⟩
end
theorem own_part{α:Type}{enc:α→List Value}{e:TypeId}{B:Nat}{w:World}{g n c:Nat}{l:List α}(hk:∀x,(enc x).length=1)(h:OwnG enc 1 e B w (.slice (some ⟨g,0,none⟩) n c) l)(q m:Nat):RowsG enc 1 w (some ⟨g,q,none⟩) ((l.drop q).take m):=by
 obtain⟨p,c',hv,_,r,_⟩:=ownG_rows hk h;injection hv with h1 h2 h3
 subst h1;have k1:=RowsG.part r q m
 rwa[Nat.zero_add,Nat.mul_one]at k1
structure RkI{α:Type}(enc:α→List Value)(E:TypeId)(f:Nd→List α→α)(t:List Nd)(w0:World)(B:Nat)(I:World→Prop)(J:Nat→World→List α→Prop)(k:Nat)(st:List Tr)(a:Option Addr)(n c:Nat)(w:World):Prop where
 own:OwnG enc 1 E B w (.slice a n c) (st.map (Tr.fold f))
 len:n=st.length
 stk:stk t k=some st
 lo:Below w0.heap.size w0 w
 sz:B≤w.heap.size
 inv:I w
 jj:0<k→∃m T,st.getLast?=some T∧J m w (T.kids.map (Tr.fold f))
def Reck{α:Type}(f:Nd→List α→α)(J:Nat→World→List α→Prop)(t:List Nd)(a:α)(w:World):Prop:=∃tr n,treeOf t=some tr∧a=tr.fold f∧J n w (tr.kids.map (Tr.fold f))
theorem stk_tree{t:List Nd}{tr:Tr}(h:stk t t.length=some [tr]):treeOf t=some tr:=by
 unfold Tm.stk at h;rw[List.take_length]at h;unfold treeOf;rw[h]
theorem stk_step{α:Type}(f:Nd→List α→α){t:List Nd}{k m:Nat}{x:Nd}{st:List Tr}(hx:t[k]?=some x)(hs:stk t k=some st)(ha:arN x.op=some m)(hm:m≤st.length) :
  ∃S L,st=S++L∧S.length=st.length-m∧L.length=m∧stk t (k+1)=some (S++[mkT x L])∧(S++[mkT x L]).map (Tr.fold f)=S.map (Tr.fold f)++[f x (L.map (Tr.fold f))]∧(mkT x L).kids=L:=by
 have h3:=Tm.arN_le ha;have hL:(st.drop (st.length-m)).length=m:=by rw[List.length_drop];omega
 refine⟨st.take (st.length-m),st.drop (st.length-m),(List.take_append_drop _ _).symm,by rw[List.length_take];omega,hL,Tm.step_mk hx hs ha hm,?_,?_⟩
 ·rw[List.map_append,List.map_singleton,Tm.fold_mk f (by omega)]
 ·generalize st.drop (st.length-m)=L at hL
  match L,hL with
  | [],_=>rfl
  | [_],_=>rfl
  | [_,_],_=>rfl
  | [_,_,_],_=>rfl
  | _::_::_::_::_,h=>simp only[List.length_cons]at h;omega
theorem nds_new(w:World)(x:Nd)(t:TypeId):NdS w.heap.size x (w.alloc (.cells #[.int .i64 x.op,.string ⟨x.num.1.toArray⟩,.string ⟨x.num.2.toArray⟩,.string ⟨x.ast.toArray⟩,.int .i64 x.a,.int .i64 x.b] t)) :=
 ⟨by simp,fun i v e=>(cell_new w _ _ _ rfl i).trans (by rw[←e,← Array.getElem?_toList];rfl)⟩
theorem RkI.calm{α:Type}{enc:α→List Value}{E:TypeId}{f:Nd→List α→α}{t:List Nd}{w0:World}{B:Nat}{I:World→Prop}{J:Nat→World→List α→Prop}{k:Nat}{st:List Tr}{a:Option Addr}{n c:Nat}{w w':World}
  (h:RkI enc E f t w0 B I J k st a n c w) (hI:Hid (∀V V' ob,I V→V.grownBy V' ob→(∀k,ob=some k→B≤k)→I V')) (hJ:Hid (∀n V V' ob l,J n V l→V.grownBy V' ob→(∀k,ob=some k→k<n∧B≤k)→J n V' l)) (hb:Below w.heap.size w w'):RkI enc E f t w0 B I J k st a n c w' :=
 ⟨ownG_below h.own hb,h.len,h.stk,Below.more h.lo hb,Nat.le_trans h.sz hb.size,hI.out _ _ none h.inv (grw_none hb none) (by simp),fun hk=>by
  obtain⟨m,T,h1,h2⟩:=h.jj hk;exact⟨m,T,h1,hJ.out _ _ _ none _ h2 (grw_none hb none) (by simp)⟩⟩
end Go.Proofs.YtghioekjghmdaaaGreatDoor
