/- Own work. -/
import Derived.Test.YthgopcnagecbaaaGreatDoorAllRefA4M
import Derived.Test.YthgopcnagecbaaaGreatDoorBlkM
set_option linter.unusedVariables false
set_option linter.unusedSimpArgs false
namespace Go.Proofs.YthgopcnagecbaaaGreatDoor
open Go.RowKit
open Pk (Part Pack mayP valueP keepsP ofP)
def SzPk(K:Nat)(x:Pack):Prop:=(∀y∈x.parts,y.2.1.length≤K∧y.2.2.length≤K)∧x.cash.1.length≤K∧x.cash.2.length≤K
def SzFx(K:Nat)(l:List Fx.Fix):Prop:=∀y∈l,y.1.1.length≤4611686018427387904∧y.2.1.length≤K∧y.2.2.length≤K
theorem SzPk.mono{J K:Nat}{x:Pack}(h:SzPk J x)(hk:J≤K):SzPk K x:=⟨fun y hy=>⟨Nat.le_trans (h.1 y hy).1 hk,Nat.le_trans (h.1 y hy).2 hk⟩,Nat.le_trans h.2.1 hk,Nat.le_trans h.2.2 hk⟩
theorem SzFx.szX{K:Nat}{l:List Fx.Fix}(h:SzFx K l)(hk:K≤20000):∀x∈l,SzX x:=fun x hx=>⟨(h x hx).1,Nat.le_trans (h x hx).2.1 hk,Nat.le_trans (h x hx).2.2 hk⟩
structure PackC(G:World→Prop):Prop where
 below:∀ {w w':World},G w→Below w.heap.size w w'→G w'
 of:∀ (a:Ac.Actn) (w:World),G w→Calls Tryz.prog 15 #[.agg #[.string ⟨a.nm.toArray⟩,.int .i64 a.kind,.string ⟨a.ast.toArray⟩,.string ⟨a.oth.toArray⟩,.string ⟨a.ratio.1.toArray⟩,.string ⟨a.ratio.2.toArray⟩,.string ⟨a.cash.1.toArray⟩,.string ⟨a.cash.2.toArray⟩,.int .i64 a.ex,.int .i64 a.rc,.int .i64 a.pay]] w (GivePk w (ofP a))
 may:∀ (p:Option Addr) (c:Nat) (x:Pack) (w:World),x.parts.length≤c→x.parts.length≤1000→SzPk 20000 x→Pts w p x.parts→G w→Calls Tryz.prog 17 #[.agg #[.slice p x.parts.length c,.string ⟨x.cash.1.toArray⟩,.string ⟨x.cash.2.toArray⟩]] w (GiveB w (mayP x))
 value:∀ (p q:Option Addr) (c d:Nat) (x:Pack) (l:List Fx.Fix) (day:Int) (K:Nat) (w:World),x.parts.length≤c→l.length≤d→l.length≤1000→(x.parts.length+1)*(2*K+3)≤10000→SzPk K x→SzFx K l→Pts w p x.parts→Fxs w q l→G w →
  Calls Tryz.prog 12 #[.agg #[.slice p x.parts.length c,.string ⟨x.cash.1.toArray⟩,.string ⟨x.cash.2.toArray⟩],.slice q l.length d,.int .i64 day] w (GiveG w (valueP x l day))
 keeps:∀ (p:Option Addr) (c:Nat) (x:Pack) (s:List UInt8) (w:World),x.parts.length≤c→x.parts.length≤1000→Pts w p x.parts→G w→Calls Tryz.prog 19 #[.agg #[.slice p x.parts.length c,.string ⟨x.cash.1.toArray⟩,.string ⟨x.cash.2.toArray⟩],.string ⟨s.toArray⟩] w (GiveB w (keepsP x s))
namespace Pk
open Fx (FK Fix mayF getF GoodF okF lessF rawF)
def sumV:List Key→Rat
 | []=>0
 | x::r=>valR x+sumV r
theorem sumV_app:∀ (a b:List Key),sumV (a++b)=sumV a+sumV b
 | [],b=>(Rat.zero_add _).symm
 | x::a,b=>by
  show valR x+sumV (a++b)=valR x+sumV a+sumV b;rw[sumV_app a b,Rat.add_assoc]
theorem sumV_one{x:Key}(h:isR x=true):rd (sumV [x])=x:=by
 show rd (valR x+0)=x;rw[Rat.add_zero,rd_valR h]
def GoodN(K:Nat)(l:List Key):Prop:=∀x∈l,isR x=true∧x.1.length≤K∧x.2.length≤K
theorem key_lq{K:Nat}{x:Key}(h:isR x=true)(h1:x.1.length≤K)(h2:x.2.length≤K)(hK:K≤10000):Lq (valR x) K :=
 Lq.of_text (n:=⟨x.1.toArray⟩) (d:=⟨x.2.toArray⟩) h (by rw[size_of];exact h1) (by rw[size_of];exact h2) hK
theorem sumV_lq{K:Nat}:∀ (l:List Key),l≠[]→GoodN K l→l.length*(K+1)≤10000→Lq (sumV l) (l.length*(K+1))
 | [],h,_,_=>absurd rfl h
 | [x],_,hg,hl=>by
  have hx:=hg x (List.mem_cons_self ..);have hl':1*(K+1)≤10000:=hl;have k:=key_lq hx.1 hx.2.1 hx.2.2 (by omega);show Lq (valR x+0) (1*(K+1));rw[Rat.add_zero];exact k.mono (by omega) hl'
 | x::y::r,_,hg,hl=>by
  have hx:=hg x (List.mem_cons_self ..);have hl':(r.length+1+1)*(K+1)≤10000:=hl;rw[Nat.add_mul]at hl';have k:=key_lq hx.1 hx.2.1 hx.2.2 (by omega);have k2:=sumV_lq (y::r) (by simp) (fun z hz=>hg z (List.mem_cons_of_mem _ hz)) (by show (r.length+1)*(K+1)≤10000;omega);have k2':Lq (sumV (y::r)) ((r.length+1)*(K+1)):=k2;show Lq (valR x+sumV (y::r)) ((r.length+1+1)*(K+1));rw[Nat.add_mul (r.length+1) 1];have:=k.add k2' (by omega)
  rwa[show K+(r.length+1)*(K+1)+1=(r.length+1)*(K+1)+1*(K+1) by omega]at this
theorem sum_two(a b:List Key):addR (rd (sumV a)) (rd (sumV b))=rd (sumV (a++b)):=by
 rw[add_one _ _ (isR_rd _) (isR_rd _),valR_rd,valR_rd,sumV_app]
def wthP(g:List UInt8→Option Key)(x:Part):Key:=mulR x.2 ((g x.1).getD ([],[]))
theorem sumP_all{g:List UInt8→Option Key}:∀ (ps:List Part) (s:Key),isR s=true→(∀x∈ps,isR x.2=true∧∃q,g x.1=some q∧isR q=true)→sumP g s ps=some (rd (sumV (s::ps.map (wthP g))))
 | [],s,hs,_=>by
  show some s=some (rd (sumV [s]));rw[sumV_one hs]
 | x::ps,s,hs,h=>by
  obtain⟨hx,q,e,hq⟩:=h x (List.mem_cons_self ..);have e1:wthP g x=mulR x.2 q:=by unfold wthP;rw[e];rfl
  unfold sumP;rw[e];show sumP g (addR s (mulR x.2 q)) ps=_;have hm:isR (mulR x.2 q)=true:=by rw[mul_one' _ _ hx hq];exact isR_rd _
  have ha:isR (addR s (mulR x.2 q))=true:=by rw[add_one _ _ hs hm];exact isR_rd _
  rw[sumP_all ps _ ha (fun y hy=>h y (List.mem_cons_of_mem _ hy))]
  congr 2
  show valR (addR s (mulR x.2 q))+sumV (ps.map (wthP g))=valR s+(valR (wthP g x)+sumV (ps.map (wthP g)));rw[add_one _ _ hs hm,valR_rd,e1,Rat.add_assoc]
theorem wth_good{K:Nat}{x q:Key}(hx:isR x=true)(hq:isR q=true)(x1:x.1.length≤K)(x2:x.2.length≤K)(q1:q.1.length≤K)(q2:q.2.length≤K)(hK:2*K+1≤10000):isR (mulR x q)=true∧(mulR x q).1.length≤2*K+2∧(mulR x q).2.length≤2*K+2:=by
 have k:=(key_lq hx x1 x2 (by omega)).mul (key_lq hq q1 q2 (by omega)) (by omega);rw[mul_one' _ _ hx hq];have l1:=k.len1;have l2:=k.len2
 refine⟨isR_rd _,?_,?_⟩
 ·show (rdN _).length≤_;omega
 ·show (rdD _).length≤_;omega
theorem asset_mono{l:List Fix}(h:l.Pairwise fun x y=>lessF x.1 y.1=true){i j:Nat}{x y:Fix}(hij:i<j)(hx:l[i]?=some x)(hy:l[j]?=some y):Op.bytesLess x.1.1 y.1.1=true∨x.1.1=y.1.1:=by
 obtain⟨hi,rfl⟩:=List.getElem?_eq_some_iff.1 hx;obtain⟨hj,rfl⟩:=List.getElem?_eq_some_iff.1 hy;have k:=List.pairwise_iff_getElem.1 h i j hi hj hij;unfold lessF at k;rcases Bool.or_eq_true_iff.1 k with k|k
 ·exact .inl k
 ·simp only[Bool.and_eq_true,beq_iff_eq]at k;exact .inr k.1
theorem asset_less{l:List Fix}(h:l.Pairwise fun x y=>lessF x.1 y.1=true){a:List UInt8}{i j:Nat}{x y:Fix}(hij:i≤j)(hx:l[i]?=some x)(hy:l[j]?=some y)(ha:Op.bytesLess y.1.1 a=true):Op.bytesLess x.1.1 a=true:=by
 rcases Nat.lt_or_eq_of_le hij with c|rfl
 ·rcases asset_mono h c hx hy with k|k
  ·exact less_trans k ha
  ·rw[k];exact ha
 ·rw[hx]at hy;exact Option.some.inj hy▸ha
def FromA(l:List Fix)(a:List UInt8)(i:Nat):Prop:=i≤l.length∧(∀t x,t<i→l[t]?=some x→Op.bytesLess x.1.1 a=true)∧∀t x,i≤t→l[t]?=some x→Op.bytesLess x.1.1 a=false
theorem sub_get{l m:List Fix}(h:mayF l=true)(hs:m.Sublist l){a:List UInt8}(hm:∀x∈l,x.1.1=a→x∈m)(d:Int):getF m (a,d)=getF l (a,d):=by
 have hg:=Fx.good_iffF.1 h;have gm:GoodF m:=⟨fun x hx=>hg.1 x (hs.subset hx),hg.2.sublist hs⟩;unfold getF;rw[h,Fx.good_iffF.2 gm,if_pos rfl,if_pos rfl]
 cases e:rawF l (a,d) with
 | some q=>exact Fx.raw_in gm.2 (x:=((a,d),q)) (hm _ (Fx.raw_some e) rfl)
 | none =>
  refine Fx.raw_no fun x hx e'=>?_;have k:=Fx.raw_in hg.2 (hs.subset hx);rw[e',e]at k
  cases k
theorem own_get{l:List Fix}(h:mayF l=true){a:List UInt8}{i j:Nat}(hi:FromA l a i)(hij:i≤j)(hj:j≤l.length)(h1:∀t x,i≤t→t<j→l[t]?=some x→x.1.1=a)(h2:∀x,l[j]?=some x→x.1.1≠a)(d:Int):getF ((l.drop i).take (j-i)) (a,d)=getF l (a,d):=by
 have hg:=(Fx.good_iffF.1 h).2;refine sub_get h ((List.take_sublist _ _).trans (List.drop_sublist _ _)) (fun x hx e=>?_) d;obtain⟨t,ht⟩:=List.mem_iff_getElem?.1 hx;have hti:i≤t:=by
  rcases Nat.lt_or_ge t i with c|c
  ·have k:=hi.2.1 t x c ht;rw[e,less_irrefl]at k;cases k
  ·exact c
 have htj:t<j:=by
  rcases Nat.lt_or_ge t j with c|c
  ·exact c
  ·exfalso;have htl:t<l.length:=(List.getElem?_eq_some_iff.1 ht).1;obtain⟨y,hy⟩:∃y,l[j]?=some y:=⟨_,List.getElem?_eq_getElem (by omega)⟩;have hne:=h2 y hy;have hnl:=hi.2.2 j y hij hy;have hgt:Op.bytesLess a y.1.1=true:=by
    rcases less_cases y.1.1 a with k|k|k
    ·rw[hnl]at k;cases k
    ·exact absurd k hne
    ·exact k
   rcases Nat.lt_or_eq_of_le c with c|rfl
   ·rcases asset_mono hg c hy ht with k|k
    ·have:=less_trans hgt k;rw[e,less_irrefl]at this;cases this
    ·exact hne (k.trans e)
   ·rw[hy]at ht;exact hne (Option.some.inj ht▸e)
 refine List.mem_of_getElem? (i:=t-i) ?_;rw[List.getElem?_take_of_lt (by omega),List.getElem?_drop,show i+(t-i)=t by omega];exact ht
def lessT(x y:Part):Bool:=Op.bytesLess x.1 y.1
theorem sort_two{x y:Part}{d:List Part}(hp:d.Perm [x,y])(hs:d.Pairwise fun a b=>lessT b a=false)(h:lessT x y=true):d=[x,y]:=by
 have hl:=hp.length_eq
 match d,hl with
 | [a,b],_ =>
  have hs':lessT b a=false:=(List.pairwise_cons.1 hs).1 b (List.mem_cons_self ..);have ha:a=x∨a=y:=by simpa using hp.subset (List.mem_cons_self ..:a∈[a,b])
  rcases ha with rfl|rfl
  ·have:=List.perm_cons a |>.1 hp;rw[List.perm_singleton.1 this]
  ·have h2:[b].Perm [x]:=by
    have:=hp.trans (List.Perm.swap a x []);exact List.perm_cons a |>.1 this
   rw[List.singleton_inj.1 (List.perm_singleton.1 h2)]at hs';rw[h]at hs';cases hs'
end Pk
end Go.Proofs.YthgopcnagecbaaaGreatDoor
namespace Go.Proofs.YthgopcnagecbaaaGreatDoor
open Go.RowKit
def Grw(U w:World):Prop:=∃ (q:Nat) (os:Array Obj),w={ U with heap:=U.heap++os,drawn:=U.drawn+q }
theorem Grw.refl(U:World):Grw U U:=⟨0,#[],by simp⟩
theorem Grw.alloc{U w:World}(h:Grw U w)(o:Obj):Grw U (w.alloc o):=by
 obtain⟨q,os,rfl⟩:=h;exact⟨q,os.push o,by simp[World.alloc]⟩
theorem Grw.trans{U v w:World}(h:Grw U v)(k:Grw v w):Grw U w:=by
 obtain⟨q,os,rfl⟩:=h;obtain⟨r,ot,rfl⟩:=k;exact⟨q+r,os++ot,by simp[Array.append_assoc,Nat.add_assoc]⟩
theorem Grw.below{U w:World}(h:Grw U w):Below U.heap.size U w:=by
 obtain⟨q,os,rfl⟩:=h;exact⟨rfl,rfl,rfl,by simp,fun k hk=>by simp[Array.getElem?_append,hk]⟩
def GiveGw(w:World)(i:Int)(e:Ending)(w':World):Prop:=e=.returned (.int .i64 i)∧Grw w w'
theorem scmpG(a b:List UInt8)(w:World):Calls Tryz.prog 68 #[.string ⟨a.toArray⟩,.string ⟨b.toArray⟩] w (GiveGw w (Lib.compareBytes a b)) :=
 (Tryz.strings_Compare ⟨a.toArray⟩ ⟨b.toArray⟩ w).mono fun e w' ⟨h1,h2⟩=>⟨h1,h2▸Grw.refl _⟩
end Go.Proofs.YthgopcnagecbaaaGreatDoor
