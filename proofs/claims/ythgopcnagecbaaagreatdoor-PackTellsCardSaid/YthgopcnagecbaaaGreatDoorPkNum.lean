/- Own work. -/
import Derived.Test.YthgopcnagecbaaaGreatDoorOpenAcM
set_option linter.unusedVariables false
namespace Go.Proofs.YthgopcnagecbaaaGreatDoor
namespace Pk
open Fx (FK Fix mayF getF GoodF okF)
open Ac (Actn mayA)
abbrev Part:=List UInt8×Key
structure Pack where
 parts:List Part
 cash:Key
 deriving DecidableEq
def partB(x:Part):Bool:=isName x.1&&decide (0<sgnR x.2)
def atB(l:List Part)(j:Nat):Bool:=match l[j]? with
 | some x=>partB x&&(decide (j=0)||(match l[j-1]? with|some y=>Op.bytesLess y.1 x.1|none=>false))
 | none=>true
def mayP(p:Pack):Bool:=(List.range p.parts.length).all (atB p.parts)&&isR p.cash
def GoodL(l:List Part):Prop:=(∀x∈l,partB x=true)∧l.Pairwise fun x y=>Op.bytesLess x.1 y.1=true
theorem part_rat{x:Part}(h:partB x=true):isR x.2=true∧0<sgnQ (valR x.2):=by
 unfold partB at h;simp only[Bool.and_eq_true,decide_eq_true_eq]at h;have k:=h.2;unfold sgnR at k;split at k
 ·rename_i e;exact⟨e,k⟩
 ·exact absurd k (by decide)
theorem chain_l:∀ {l:List Part},(∀j x y,l[j]?=some x→l[j+1]?=some y→Op.bytesLess x.1 y.1=true)→l.Pairwise fun x y=>Op.bytesLess x.1 y.1=true
 | [],_=>List.Pairwise.nil
 | [x],_=>List.pairwise_singleton _ _
 | x::y::r,h=>by
  have h1:Op.bytesLess x.1 y.1=true:=h 0 x y rfl rfl;have h2:(y::r).Pairwise fun x y=>Op.bytesLess x.1 y.1=true:=chain_l fun j u v hu hv=>h (j+1) u v hu hv;refine List.Pairwise.cons (fun z hz=>?_) h2;rcases List.mem_cons.1 hz with rfl|hz
  ·exact h1
  ·exact less_trans h1 ((List.pairwise_cons.1 h2).1 z hz)
theorem all_iff{l:List Part}:(List.range l.length).all (atB l)=true↔GoodL l:=by
 rw[List.all_eq_true];constructor
 ·intro h;have h':∀j,j<l.length→atB l j=true:=fun j hj=>h j (List.mem_range.2 hj);constructor
  ·intro x hx;obtain⟨j,hj,e⟩:=List.getElem_of_mem hx;have k:=h' j hj;unfold atB at k;rw[List.getElem?_eq_getElem hj]at k;simp only[Bool.and_eq_true]at k;rw[e]at k;exact k.1
  ·refine chain_l fun j x y hx hy=>?_;obtain⟨hj,e⟩:=List.getElem?_eq_some_iff.1 hy;have k:=h' (j+1) hj;unfold atB at k;rw[hy]at k;simp only[Bool.and_eq_true,Nat.add_sub_cancel,hx]at k;rcases Bool.or_eq_true_iff.1 k.2 with k|k
   ·exact absurd (of_decide_eq_true k) (by omega)
   ·exact k
 ·rintro⟨h1,h2⟩ j hj;have hj:=List.mem_range.1 hj;unfold atB;rw[List.getElem?_eq_getElem hj];simp only[Bool.and_eq_true];refine⟨h1 _ (List.getElem_mem hj),?_⟩;by_cases h0:j=0
  ·rw[decide_eq_true h0];rfl
  ·rw[decide_eq_false h0,Bool.false_or,List.getElem?_eq_getElem (by omega)];exact List.pairwise_iff_getElem.1 h2 (j-1) j (by omega) hj (by omega)
theorem may_iffP{p:Pack}:mayP p=true↔GoodL p.parts∧isR p.cash=true:=by unfold mayP;rw[Bool.and_eq_true,all_iff]
def sumP(g:List UInt8→Option Key):Key→List Part→Option Key
 | s,[]=>some s
 | s,x::r=>match g x.1 with
  | none=>none
  | some q=>sumP g (addR s (mulR x.2 q)) r
def valueP(p:Pack)(l:List Fix)(d:Int):Option Key:=if mayP p&&mayF l then sumP (fun a=>getF l (a,d)) p.cash p.parts else none
def dot:List Rat→List Rat→Rat
 | r::rs,q::qs=>r*q+dot rs qs
 | _,_=>0
theorem add_one(a b:Key)(ha:isR a=true)(hb:isR b=true):addR a b=rd (valR a+valR b):=by unfold addR;rw[ha,hb];rfl
theorem mul_one'(a b:Key)(ha:isR a=true)(hb:isR b=true):mulR a b=rd (valR a*valR b):=by unfold mulR;rw[ha,hb];rfl
theorem sumP_dot{g:List UInt8→Option Key}:∀ (ps:List Part) (qs:List Key) (s:Key),isR s=true→(∀x∈ps,isR x.2=true)→(∀q∈qs,isR q=true)→ps.length=qs.length→(∀ (j:Nat) (x:Part) (q:Key),ps[j]?=some x→qs[j]?=some q→g x.1=some q) →
  sumP g s ps=some (rd (valR s+dot (ps.map fun x=>valR x.2) (qs.map valR)))
 | [],[],s,hs,_,_,_,_=>by
  show some s=_;rw[show dot (List.map (fun x:Part=>valR x.2) []) (List.map valR [])=0 from rfl,Rat.add_zero,rd_valR hs]
 | [],_::_,_,_,_,_,hl,_=>by simp at hl
 | _::_,[],_,_,_,_,hl,_=>by simp at hl
 | x::ps,q::qs,s,hs,hp,hq,hl,hg=>by
  have hx:=hp x (List.mem_cons_self ..);have hq0:=hq q (List.mem_cons_self ..);unfold sumP;rw[hg 0 x q rfl rfl];have e:addR s (mulR x.2 q)=rd (valR s+valR x.2*valR q):=by
   rw[mul_one' _ _ hx hq0,add_one _ _ hs (isR_rd _),valR_rd]
  show sumP g (addR s (mulR x.2 q)) ps=_;rw[e,sumP_dot ps qs _ (isR_rd _) (fun y hy=>hp y (List.mem_cons_of_mem _ hy)) (fun y hy=>hq y (List.mem_cons_of_mem _ hy)) (by simpa using hl) (fun j y z hy hz=>hg (j+1) y z hy hz),valR_rd];show some (rd (valR s+valR x.2*valR q+dot _ _))=some (rd (valR s+(valR x.2*valR q+dot _ _)));rw[Rat.add_assoc]
theorem sumP_none{g:List UInt8→Option Key}:∀ (ps:List Part) (s:Key),(∃x∈ps,g x.1=none)→sumP g s ps=none
 | [],s,⟨x,hx,_⟩=>by cases hx
 | y::ps,s,⟨x,hx,e⟩=>by
  unfold sumP
  cases h:g y.1 with
  | none=>rfl
  | some q =>
   rcases List.mem_cons.1 hx with rfl|hx
   ·rw[e]at h;cases h
   ·exact sumP_none ps _ ⟨x,hx,e⟩
def tabP(ps:List Part)(qs:List Key):List Fix:=List.zipWith (fun x q=>((x.1,0),q)) ps qs
theorem tab_get{ps:List Part}{qs:List Key}{j:Nat}{f:Fix}(h:(tabP ps qs)[j]?=some f):∃x q,ps[j]?=some x∧qs[j]?=some q∧f=((x.1,0),q):=by
 unfold tabP at h;rw[List.getElem?_zipWith]at h
 cases h1:ps[j]? with
 | none=>rw[h1]at h;cases h
 | some x =>
  cases h2:qs[j]? with
  | none=>rw[h1,h2]at h;cases h
  | some q=>rw[h1,h2]at h;exact⟨x,q,rfl,rfl,(Option.some.inj h).symm⟩
theorem tab_good{ps:List Part}{qs:List Key}(hp:GoodL ps)(hq:∀q∈qs,isR q=true):GoodF (tabP ps qs):=by
 constructor
 ·intro f hf;obtain⟨j,hj⟩:=List.mem_iff_getElem?.1 hf;obtain⟨x,q,h1,h2,rfl⟩:=tab_get hj;have hx:=hp.1 x (List.mem_of_getElem? h1);unfold partB at hx;simp only[Bool.and_eq_true]at hx;unfold okF;rw[hx.1,hq q (List.mem_of_getElem? h2)];rfl
 ·refine List.pairwise_iff_getElem.2 fun i j hi hj hij=>?_;obtain⟨x,q,h1,_,e1⟩:=tab_get (List.getElem?_eq_getElem hi);obtain⟨y,r,h2,_,e2⟩:=tab_get (List.getElem?_eq_getElem hj);rw[e1,e2];obtain⟨hi',rfl⟩:=List.getElem?_eq_some_iff.1 h1;obtain⟨hj',rfl⟩:=List.getElem?_eq_some_iff.1 h2;show (Op.bytesLess _ _||_)=true;rw[List.pairwise_iff_getElem.1 hp.2 i j hi' hj' hij];rfl
theorem tab_at{ps:List Part}{qs:List Key}(hp:GoodL ps)(hq:∀q∈qs,isR q=true){j:Nat}{x:Part}{q:Key}(h1:ps[j]?=some x)(h2:qs[j]?=some q):getF (tabP ps qs) (x.1,0)=some q:=by
 refine Fx.get_in (x:=((x.1,0),q)) (tab_good hp hq) (List.mem_of_getElem? (i:=j) ?_);unfold tabP;rw[List.getElem?_zipWith,h1,h2]
theorem value_tab{p:Pack}(hm:mayP p=true){qs:List Key}(hq:∀q∈qs,isR q=true)(hl:p.parts.length=qs.length):valueP p (tabP p.parts qs) 0=some (rd (valR p.cash+dot (p.parts.map fun x=>valR x.2) (qs.map valR))):=by
 obtain⟨hg,hc⟩:=may_iffP.1 hm;unfold valueP;rw[hm,Fx.good_iffF.2 (tab_good hg hq)];exact sumP_dot _ _ _ hc (fun x hx=>(part_rat (hg.1 x hx)).1) hq hl fun j x q h1 h2=>tab_at hg hq h1 h2
def ofP(a:Actn):Pack :=
 if mayA a then
  (let r:Key:=if a.kind=0 then a.ratio else if a.kind=1 then addR ([49],[49]) a.ratio else ([49],[49])
  if a.kind<3 then ⟨[(a.ast,r)],a.cash⟩ else if a.kind=4 then ⟨[(a.oth,a.ratio)],a.cash⟩ else if Op.bytesLess a.ast a.oth then ⟨[(a.ast,r),(a.oth,a.ratio)],a.cash⟩ else ⟨[(a.oth,a.ratio),(a.ast,r)],a.cash⟩)
 else ⟨[],([],[])⟩
def keepsP(p:Pack)(s:List UInt8):Bool:=p.parts.any fun x=>x.1==s&&x.2==([49],[49])
theorem one_rat:isR (([49],[49]):Key)=true∧valR (([49],[49]):Key)=1∧sgnR (([49],[49]):Key)=1:=by decide +kernel
theorem zero_rat:isR (([48],[49]):Key)=true∧valR (([48],[49]):Key)=0:=by decide +kernel
theorem sgn_pos{q:Rat}(h:0<sgnQ q):0<q:=by
 rcases rat_cases q with c|c|c
 ·rw[sgnQ_neg c]at h;exact absurd h (by decide)
 ·rw[c]at h;exact absurd h (by decide)
 ·exact c
theorem numB_pos{x:Key}(h:Ac.numB x true 1=true):isR x=true∧0<sgnQ (valR x):=by
 unfold Ac.numB at h;rw[if_pos rfl]at h;simp only[Bool.and_eq_true,decide_eq_true_eq]at h;have k:=h.2.1;unfold sgnR at k;rw[if_pos h.1]at k;exact⟨h.1,by omega⟩
theorem numB_rat{x:Key}{b:Bool}{m:Int}(h:Ac.numB x b m=true):isR x=true:=by
 unfold Ac.numB at h;split at h
 ·simp only[Bool.and_eq_true]at h;exact h.1
 ·rw[beq_iff_eq.1 h];exact zero_rat.1
theorem part_of{s:List UInt8}{q:Key}(h:isName s=true)(hr:isR q=true)(hs:0<sgnQ (valR q)):partB (s,q)=true:=by
 unfold partB;rw[h,Bool.true_and,decide_eq_true_eq];show 0<sgnR q;unfold sgnR;rw[if_pos hr];exact hs
theorem asset_name{s:List UInt8}(h:Ac.assetB s=true):isName s=true:=by
 unfold Ac.assetB at h;simp only[Bool.and_eq_true]at h;exact h.1
theorem may_parts{a:Actn}(h:mayA a=true):isName a.nm=true∧Ac.assetB a.ast=true∧(0≤a.kind∧a.kind≤4)∧(if Ac.oB a.kind then Ac.assetB a.oth&&!(a.oth==a.ast) else a.oth == [])=true∧Ac.numB a.ratio (Ac.rB a.kind) 1=true∧Ac.numB a.cash (Ac.cB a.kind) (Ac.leastC a.kind)=true:=by
 unfold mayA at h;simp only[Bool.and_eq_true,decide_eq_true_eq]at h;obtain⟨h1,h2,h3,h4,_,_,_,_,h9,h10,h11⟩:=h;exact⟨h1,h2,⟨h3,h4⟩,h9,h10,h11⟩
theorem one_more{q:Key}(h:isR q=true)(hs:0<sgnQ (valR q)):isR (addR ([49],[49]) q)=true∧0<sgnQ (valR (addR ([49],[49]) q))∧addR ([49],[49]) q≠([49],[49]):=by
 rw[add_one _ _ one_rat.1 h,valR_rd,one_rat.2.1];have hq:=sgn_pos hs;have h1:0<1+valR q:=by grind
 refine⟨isR_rd _,by rw[sgnQ_pos h1];decide,fun e=>?_⟩;have k:=congrArg valR e;rw[valR_rd,one_rat.2.1]at k
 grind
theorem of_may{a:Actn}(h:mayA a=true):mayP (ofP a)=true∧(ofP a).parts.length=(if a.kind=3 then 2 else 1)∧keepsP (ofP a) a.ast=(decide (a.kind=2)||(decide (a.kind=3)||(decide (a.kind=0)&&a.ratio==([49],[49])))):=by
 obtain⟨_,h2,h3,h9,h10,h11⟩:=may_parts h;have hc:=numB_rat h11;have hn:=asset_name h2;have single:∀ (s:List UInt8) (q:Key),partB (s,q)=true→mayP ⟨[(s,q)],a.cash⟩=true:=fun s q hp=>may_iffP.2 ⟨⟨fun x hx=>by rw[List.mem_singleton.1 hx];exact hp,List.pairwise_singleton ..⟩,hc⟩;have one:partB (a.ast,([49],[49]))=true:=part_of hn one_rat.1 (by rw[one_rat.2.1];decide);unfold ofP;rw[if_pos h];rcases(show a.kind=0∨a.kind=1∨a.kind=2∨a.kind=3∨a.kind=4 by omega) with e|e|e|e|e<;>simp only[e]at h9 h10 h11 ⊢
 ·obtain⟨r1,r2⟩:=numB_pos h10;refine⟨single _ _ (part_of hn r1 r2),rfl,?_⟩;unfold keepsP;simp
 ·obtain⟨r1,r2⟩:=numB_pos h10;obtain⟨k1,k2,k3⟩:=one_more r1 r2;refine⟨single _ _ (part_of hn k1 k2),rfl,?_⟩;unfold keepsP;simp[k3]
 ·refine⟨single _ _ one,rfl,?_⟩;unfold keepsP;simp
 ·have h9:Ac.assetB a.oth=true∧¬a.oth=a.ast:=by simpa [Ac.oB] using h9
  obtain⟨r1,r2⟩:=numB_pos h10;have ho:=part_of (asset_name h9.1) r1 r2
  cases hb:Op.bytesLess a.ast a.oth with
  | true =>
   refine⟨may_iffP.2 ⟨⟨fun x hx=>?_,List.Pairwise.cons (fun y hy=>by rw[List.mem_singleton.1 hy];exact hb) (List.pairwise_singleton ..)⟩,hc⟩,rfl,?_⟩
   ·rcases List.mem_cons.1 hx with e|hx
    ·rw[e];exact one
    ·rw[List.mem_singleton.1 hx];exact ho
   ·unfold keepsP;simp
  | false =>
   have hb2:Op.bytesLess a.oth a.ast=true:=by
    rcases less_cases a.ast a.oth with c|c|c
    ·rw[hb]at c;cases c
    ·exact absurd c.symm h9.2
    ·exact c
   refine⟨may_iffP.2 ⟨⟨fun x hx=>?_,List.Pairwise.cons (fun y hy=>by rw[List.mem_singleton.1 hy];exact hb2) (List.pairwise_singleton ..)⟩,hc⟩,rfl,?_⟩
   ·rcases List.mem_cons.1 hx with e|hx
    ·rw[e];exact ho
    ·rw[List.mem_singleton.1 hx];exact one
   ·unfold keepsP;simp
 ·have h9:Ac.assetB a.oth=true∧¬a.oth=a.ast:=by simpa [Ac.oB] using h9
  obtain⟨r1,r2⟩:=numB_pos h10;refine⟨single _ _ (part_of (asset_name h9.1) r1 r2),rfl,?_⟩;unfold keepsP;simp[h9.2]
def actX(k:Int)(r c:Key):Actn:=⟨[97,49],k,[120],[],r,c,0,0,0⟩
theorem num_named{r:Key}(h:isR r=true)(hs:0<sgnR r)(h1:r.1.length≤20)(h2:r.2.length≤20):Ac.numB r true 1=true:=by
 unfold Ac.numB;rw[if_pos rfl,h,decide_eq_true (show (1:Int)≤sgnR r by omega),decide_eq_true h1,decide_eq_true h2];rfl
theorem num_zero(m:Int):Ac.numB ([48],[49]) false m=true:=by unfold Ac.numB;rw[if_neg (by decide)];decide
theorem act_may{k:Int}{r c:Key}(hk:k=0∨k=1∨k=2)(hr:Ac.numB r (Ac.rB k) 1=true)(hc:Ac.numB c (Ac.cB k) (Ac.leastC k)=true):mayA (actX k r c)=true:=by
 unfold mayA actX;dsimp only;rw[hr,hc];clear hr hc;rcases hk with rfl|rfl|rfl<;>rfl
theorem splits{r q:Key}(hr:isR r=true)(hs:0<sgnR r)(h1:r.1.length≤20)(h2:r.2.length≤20)(hq:isR q=true) :
  valueP (ofP (actX 0 r ([48],[49]))) [(([120],0),q)] 0=some (mulR r q)∧valueP (ofP (actX 1 r ([48],[49]))) [(([120],0),q)] 0=some (addR (mulR r q) q)∧valueP (ofP (actX 2 ([48],[49]) r)) [(([120],0),q)] 0=some (addR q r):=by
 have hn:=num_named hr hs h1 h2;have key:∀ (a:Actn) (x:Key) (c:Key),mayA a=true→ofP a=⟨[([120],x)],c⟩→isR x=true→isR c=true→valueP (ofP a) [(([120],0),q)] 0=some (rd (valR c+(valR x*valR q+0))):=fun a x c hm e hx hc=>by
  have k:=value_tab (of_may hm).1 (qs:=[q]) (fun y hy=>by rw[List.mem_singleton.1 hy];exact hq) (by rw[e];rfl);rw[e]at k ⊢;exact k
 have m0:=act_may (k:=0) (r:=r) (c:=([48],[49])) (.inl rfl) hn (num_zero _);have m1:=act_may (k:=1) (r:=r) (c:=([48],[49])) (.inr (.inl rfl)) hn (num_zero _);have m2:=act_may (k:=2) (r:=([48],[49])) (c:=r) (.inr (.inr rfl)) (num_zero _) hn;refine⟨?_,?_,?_⟩
 ·rw[key _ r _ m0 (by unfold ofP;rw[if_pos m0];rfl) hr zero_rat.1,zero_rat.2,Rat.zero_add,Rat.add_zero];rw[mul_one' _ _ hr hq]
 ·have hr1:isR (addR ([49],[49]) r)=true:=by rw[add_one _ _ one_rat.1 hr];exact isR_rd _
  rw[key _ (addR ([49],[49]) r) _ m1 (by unfold ofP;rw[if_pos m1];rfl) hr1 zero_rat.1,zero_rat.2,Rat.zero_add,Rat.add_zero];rw[add_one _ _ one_rat.1 hr,valR_rd,one_rat.2.1,mul_one' _ _ hr hq,add_one _ _ (isR_rd _) hq,valR_rd]
  congr 2
  grind
 ·rw[key _ ([49],[49]) _ m2 (by unfold ofP;rw[if_pos m2];rfl) one_rat.1 hr,one_rat.2.1,add_one _ _ hq hr]
  congr 2
  grind
def stepW(g:List UInt8→Option Key)(s:Key×Bool)(x:Part):Key×Bool:=match g x.1 with
 | none=>(s.1,false)
 | some q=>(addR s.1 (mulR x.2 q),s.2)
theorem step_no(g:List UInt8→Option Key):∀ (ps:List Part) (s:Key),(ps.foldl (stepW g) (s,false)).2=false
 | [],s=>rfl
 | x::ps,s=>by
  rw[List.foldl_cons];unfold stepW
  cases g x.1 with
  | none=>exact step_no g ps s
  | some q=>exact step_no g ps _
theorem fold_sum(g:List UInt8→Option Key):∀ (ps:List Part) (s:Key),sumP g s ps=if (ps.foldl (stepW g) (s,true)).2=true then some (ps.foldl (stepW g) (s,true)).1 else none
 | [],s=>rfl
 | x::ps,s=>by
  rw[List.foldl_cons];unfold sumP
  cases h:g x.1 with
  | none =>
   have e:stepW g (s,true) x=(s,false):=by unfold stepW;rw[h]
   rw[e,step_no,if_neg (by decide)]
  | some q =>
   have e:stepW g (s,true) x=(addR s (mulR x.2 q),true):=by unfold stepW;rw[h]
   rw[e];exact fold_sum g ps _
theorem single_value{x:Part}(hx:partB x=true){l:List Fix}(hl:mayF l=true)(d:Int)(hq:∀q,getF l (x.1,d)=some q→isR q=true):valueP ⟨[x],([48],[49])⟩ l d=(getF l (x.1,d)).map fun q=>mulR x.2 q:=by
 have hm:mayP ⟨[x],([48],[49])⟩=true:=may_iffP.2 ⟨⟨fun y hy=>by rw[List.mem_singleton.1 hy];exact hx,List.pairwise_singleton ..⟩,zero_rat.1⟩;unfold valueP;rw[hm,hl,Bool.and_self,if_pos rfl];show sumP (fun a=>getF l (a,d)) ([48],[49]) [x]=_;unfold sumP
 cases h:getF l (x.1,d) with
 | none=>rfl
 | some q =>
  show some (addR ([48],[49]) (mulR x.2 q))=some (mulR x.2 q);rw[mul_one' _ _ (part_rat hx).1 (hq q h),add_one _ _ zero_rat.1 (isR_rd _),zero_rat.2,valR_rd,Rat.zero_add]
theorem get_rat{l:List Fix}{k:FK}{q:Key}(h:getF l k=some q):isR q=true:=by
 unfold getF at h;split at h
 ·rename_i hm
  have ho:=(Fx.good_iffF.1 hm).1 _ (Fx.raw_some h);unfold okF at ho;simp only[Bool.and_eq_true]at ho;exact ho.2.2.2
 ·cases h
end Pk
end Go.Proofs.YthgopcnagecbaaaGreatDoor
