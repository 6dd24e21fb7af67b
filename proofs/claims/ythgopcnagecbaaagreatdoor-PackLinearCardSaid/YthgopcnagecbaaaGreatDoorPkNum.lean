/- Own work. -/
import Derived.Test.YthgopcnagecbaaaGreatDoorAllRefAM
set_option linter.unusedVariables false
namespace Go.Proofs.YthgopcnagecbaaaGreatDoor
namespace Pk
open Fx (FK Fix mayF getF GoodF okF)
open Ac (Actn mayA)
abbrev Part:=List UInt8×Key
structure Pack where
 parts:List Part
 cash:Key
 deriving DecidableEq
def partB(x:Part):Bool:=isName x.1&&decide (0<sgnR x.2)
def atB(l:List Part)(j:Nat):Bool:=match l[j]? with
 | some x=>partB x&&(decide (j=0)||(match l[j-1]? with|some y=>Op.bytesLess y.1 x.1|none=>false))
 | none=>true
def mayP(p:Pack):Bool:=(List.range p.parts.length).all (atB p.parts)&&isR p.cash
def GoodL(l:List Part):Prop:=(∀x∈l,partB x=true)∧l.Pairwise fun x y=>Op.bytesLess x.1 y.1=true
theorem part_rat{x:Part}(h:partB x=true):isR x.2=true∧0<sgnQ (valR x.2):=by
 unfold partB at h;simp only[Bool.and_eq_true,decide_eq_true_eq]at h;have k:=h.2;unfold sgnR at k;split at k
 ·rename_i e;exact⟨e,k⟩
 ·exact absurd k (by decide)
theorem chain_l:∀ {l:List Part},(∀j x y,l[j]?=some x→l[j+1]?=some y→Op.bytesLess x.1 y.1=true)→l.Pairwise fun x y=>Op.bytesLess x.1 y.1=true
 | [],_=>List.Pairwise.nil
 | [x],_=>List.pairwise_singleton _ _
 | x::y::r,h=>by
  have h1:Op.bytesLess x.1 y.1=true:=h 0 x y rfl rfl;have h2:(y::r).Pairwise fun x y=>Op.bytesLess x.1 y.1=true:=chain_l fun j u v hu hv=>h (j+1) u v hu hv;refine List.Pairwise.cons (fun z hz=>?_) h2;rcases List.mem_cons.1 hz with rfl|hz
  ·exact h1
  ·exact less_trans h1 ((List.pairwise_cons.1 h2).1 z hz)
theorem all_iff{l:List Part}:(List.range l.length).all (atB l)=true↔GoodL l:=by
 rw[List.all_eq_true];constructor
 ·intro h;have h':∀j,j<l.length→atB l j=true:=fun j hj=>h j (List.mem_range.2 hj);constructor
  ·intro x hx;obtain⟨j,hj,e⟩:=List.getElem_of_mem hx;have k:=h' j hj;unfold atB at k;rw[List.getElem?_eq_getElem hj]at k;simp only[Bool.and_eq_true]at k;rw[e]at k;exact k.1
  ·refine chain_l fun j x y hx hy=>?_;obtain⟨hj,e⟩:=List.getElem?_eq_some_iff.1 hy;have k:=h' (j+1) hj;unfold atB at k;rw[hy]at k;simp only[Bool.and_eq_true,Nat.add_sub_cancel,hx]at k;rcases Bool.or_eq_true_iff.1 k.2 with k|k
   ·exact absurd (of_decide_eq_true k) (by omega)
   ·exact k
 ·rintro⟨h1,h2⟩ j hj;have hj:=List.mem_range.1 hj;unfold atB;rw[List.getElem?_eq_getElem hj];simp only[Bool.and_eq_true];refine⟨h1 _ (List.getElem_mem hj),?_⟩;by_cases h0:j=0
  ·rw[decide_eq_true h0];rfl
  ·rw[decide_eq_false h0,Bool.false_or,List.getElem?_eq_getElem (by omega)];exact List.pairwise_iff_getElem.1 h2 (j-1) j (by omega) hj (by omega)
theorem may_iffP{p:Pack}:mayP p=true↔GoodL p.parts∧isR p.cash=true:=by unfold mayP;rw[Bool.and_eq_true,all_iff]
def sumP(g:List UInt8→Option Key):Key→List Part→Option Key
 | s,[]=>some s
 | s,x::r=>match g x.1 with
  | none=>none
  | some q=>sumP g (addR s (mulR x.2 q)) r
def valueP(p:Pack)(l:List Fix)(d:Int):Option Key:=if mayP p&&mayF l then sumP (fun a=>getF l (a,d)) p.cash p.parts else none
def dot:List Rat→List Rat→Rat
 | r::rs,q::qs=>r*q+dot rs qs
 | _,_=>0
theorem add_one(a b:Key)(ha:isR a=true)(hb:isR b=true):addR a b=rd (valR a+valR b):=by unfold addR;rw[ha,hb];rfl
theorem mul_one'(a b:Key)(ha:isR a=true)(hb:isR b=true):mulR a b=rd (valR a*valR b):=by unfold mulR;rw[ha,hb];rfl
theorem sumP_dot{g:List UInt8→Option Key}:∀ (ps:List Part) (qs:List Key) (s:Key),isR s=true→(∀x∈ps,isR x.2=true)→(∀q∈qs,isR q=true)→ps.length=qs.length→(∀ (j:Nat) (x:Part) (q:Key),ps[j]?=some x→qs[j]?=some q→g x.1=some q) →
  sumP g s ps=some (rd (valR s+dot (ps.map fun x=>valR x.2) (qs.map valR)))
 | [],[],s,hs,_,_,_,_=>by
  show some s=_;rw[show dot (List.map (fun x:Part=>valR x.2) []) (List.map valR [])=0 from rfl,Rat.add_zero,rd_valR hs]
 | [],_::_,_,_,_,_,hl,_=>by simp at hl
 | _::_,[],_,_,_,_,hl,_=>by simp at hl
 | x::ps,q::qs,s,hs,hp,hq,hl,hg=>by
  have hx:=hp x (List.mem_cons_self ..);have hq0:=hq q (List.mem_cons_self ..);unfold sumP;rw[hg 0 x q rfl rfl];have e:addR s (mulR x.2 q)=rd (valR s+valR x.2*valR q):=by
   rw[mul_one' _ _ hx hq0,add_one _ _ hs (isR_rd _),valR_rd]
  show sumP g (addR s (mulR x.2 q)) ps=_;rw[e,sumP_dot ps qs _ (isR_rd _) (fun y hy=>hp y (List.mem_cons_of_mem _ hy)) (fun y hy=>hq y (List.mem_cons_of_mem _ hy)) (by simpa using hl) (fun j y z hy hz=>hg (j+1) y z hy hz),valR_rd];show some (rd (valR s+valR x.2*valR q+dot _ _))=some (rd (valR s+(valR x.2*valR q+dot _ _)));rw[Rat.add_assoc]
theorem sumP_none{g:List UInt8→Option Key}:∀ (ps:List Part) (s:Key),(∃x∈ps,g x.1=none)→sumP g s ps=none
 | [],s,⟨x,hx,_⟩=>by cases hx
 | y::ps,s,⟨x,hx,e⟩=>by
  unfold sumP
  cases h:g y.1 with
  | none=>rfl
  | some q =>
   rcases List.mem_cons.1 hx with rfl|hx
   ·rw[e]at h;cases h
   ·exact sumP_none ps _ ⟨x,hx,e⟩
theorem dot_add:∀ (rs us ws:List Rat),us.length=ws.length→dot rs (List.zipWith (·+·) us ws)=dot rs us+dot rs ws
 | [],us,ws,_=>by cases us<;>cases ws<;>exact(Rat.add_zero 0).symm
 | r::rs,[],[],_=>(Rat.add_zero 0).symm
 | r::rs,a::us,b::ws,h=>by
  show r*(a+b)+dot rs (List.zipWith (·+·) us ws)=r*a+dot rs us+(r*b+dot rs ws);rw[dot_add rs us ws (by simpa using h),Rat.mul_add];rw[Rat.add_assoc,Rat.add_assoc,← Rat.add_assoc (r*b),← Rat.add_assoc (dot rs us),Rat.add_comm (r*b) (dot rs us)]
 | r::rs,[],_::_,h=>by simp at h
 | r::rs,_::_,[],h=>by simp at h
theorem dot_zero:∀ (rs:List Rat) (n:Nat),dot rs (List.replicate n 0)=0
 | [],n=>by cases n<;>rfl
 | r::rs,0=>rfl
 | r::rs,n+1=>by
  show r*0+dot rs (List.replicate n 0)=0;rw[dot_zero rs n,Rat.mul_zero,Rat.add_zero]
def tabP(ps:List Part)(qs:List Key):List Fix:=List.zipWith (fun x q=>((x.1,0),q)) ps qs
theorem tab_get{ps:List Part}{qs:List Key}{j:Nat}{f:Fix}(h:(tabP ps qs)[j]?=some f):∃x q,ps[j]?=some x∧qs[j]?=some q∧f=((x.1,0),q):=by
 unfold tabP at h;rw[List.getElem?_zipWith]at h
 cases h1:ps[j]? with
 | none=>rw[h1]at h;cases h
 | some x =>
  cases h2:qs[j]? with
  | none=>rw[h1,h2]at h;cases h
  | some q=>rw[h1,h2]at h;exact⟨x,q,rfl,rfl,(Option.some.inj h).symm⟩
theorem tab_good{ps:List Part}{qs:List Key}(hp:GoodL ps)(hq:∀q∈qs,isR q=true):GoodF (tabP ps qs):=by
 constructor
 ·intro f hf;obtain⟨j,hj⟩:=List.mem_iff_getElem?.1 hf;obtain⟨x,q,h1,h2,rfl⟩:=tab_get hj;have hx:=hp.1 x (List.mem_of_getElem? h1);unfold partB at hx;simp only[Bool.and_eq_true]at hx;unfold okF;rw[hx.1,hq q (List.mem_of_getElem? h2)];rfl
 ·refine List.pairwise_iff_getElem.2 fun i j hi hj hij=>?_;obtain⟨x,q,h1,_,e1⟩:=tab_get (List.getElem?_eq_getElem hi);obtain⟨y,r,h2,_,e2⟩:=tab_get (List.getElem?_eq_getElem hj);rw[e1,e2];obtain⟨hi',rfl⟩:=List.getElem?_eq_some_iff.1 h1;obtain⟨hj',rfl⟩:=List.getElem?_eq_some_iff.1 h2;show (Op.bytesLess _ _||_)=true;rw[List.pairwise_iff_getElem.1 hp.2 i j hi' hj' hij];rfl
theorem tab_at{ps:List Part}{qs:List Key}(hp:GoodL ps)(hq:∀q∈qs,isR q=true){j:Nat}{x:Part}{q:Key}(h1:ps[j]?=some x)(h2:qs[j]?=some q):getF (tabP ps qs) (x.1,0)=some q:=by
 refine Fx.get_in (x:=((x.1,0),q)) (tab_good hp hq) (List.mem_of_getElem? (i:=j) ?_);unfold tabP;rw[List.getElem?_zipWith,h1,h2]
theorem value_tab{p:Pack}(hm:mayP p=true){qs:List Key}(hq:∀q∈qs,isR q=true)(hl:p.parts.length=qs.length):valueP p (tabP p.parts qs) 0=some (rd (valR p.cash+dot (p.parts.map fun x=>valR x.2) (qs.map valR))):=by
 obtain⟨hg,hc⟩:=may_iffP.1 hm;unfold valueP;rw[hm,Fx.good_iffF.2 (tab_good hg hq)];exact sumP_dot _ _ _ hc (fun x hx=>(part_rat (hg.1 x hx)).1) hq hl fun j x q h1 h2=>tab_at hg hq h1 h2
theorem linear{p:Pack}(hm:mayP p=true){us ws:List Key}(ha:∀q∈us,isR q=true)(hb:∀q∈ws,isR q=true)(hla:p.parts.length=us.length)(hlb:p.parts.length=ws.length) :
  ∃u v s:Key,valueP p (tabP p.parts us) 0=some u∧valueP p (tabP p.parts ws) 0=some v∧valueP p (tabP p.parts (List.zipWith addR us ws)) 0=some s∧valueP p (tabP p.parts (List.replicate p.parts.length ([48],[49]))) 0=some p.cash ∧
   addR s p.cash=addR u v∧isR u=true∧isR v=true∧isR s=true:=by
 obtain⟨_,hc⟩:=may_iffP.1 hm;have hz:isR (([48],[49]):Key)=true:=by decide +kernel
 have hab:∀q∈List.zipWith addR us ws,isR q=true:=fun q hq=>by
  obtain⟨j,hj⟩:=List.mem_iff_getElem?.1 hq;rw[List.getElem?_zipWith]at hj
  cases h1:us[j]? with
  | none=>rw[h1]at hj;cases hj
  | some x =>
   cases h2:ws[j]? with
   | none=>rw[h1,h2]at hj;cases hj
   | some y =>
    rw[h1,h2]at hj;obtain rfl:=Option.some.inj hj;rw[add_one _ _ (ha x (List.mem_of_getElem? h1)) (hb y (List.mem_of_getElem? h2))];exact isR_rd _
 refine⟨_,_,_,value_tab hm ha hla,value_tab hm hb hlb,value_tab hm hab (by rw[List.length_zipWith];omega),?_,?_,isR_rd _,isR_rd _,isR_rd _⟩
 ·rw[value_tab hm (fun q hq=>by rw[(List.mem_replicate.1 hq).2];exact hz) (by rw[List.length_replicate])];rw[List.map_replicate,show valR (([48],[49]):Key)=0 by decide +kernel,dot_zero,Rat.add_zero,rd_valR hc]
 ·rw[add_one _ _ (isR_rd _) hc,add_one _ _ (isR_rd _) (isR_rd _),valR_rd,valR_rd,valR_rd];have e:(List.zipWith addR us ws).map valR=List.zipWith (·+·) (us.map valR) (ws.map valR):=by
   refine List.ext_getElem? fun j=>?_;rw[List.getElem?_map,List.getElem?_zipWith,List.getElem?_zipWith,List.getElem?_map,List.getElem?_map]
   cases h1:us[j]? with
   | none=>rfl
   | some x =>
    cases h2:ws[j]? with
    | none=>rfl
    | some y =>
     show some (valR (addR x y))=some (valR x+valR y);rw[add_one _ _ (ha x (List.mem_of_getElem? h1)) (hb y (List.mem_of_getElem? h2)),valR_rd]
  rw[e,dot_add _ _ _ (by rw[List.length_map,List.length_map];omega)]
  congr 1
  generalize valR p.cash=c;generalize dot _ (us.map valR)=x;generalize dot _ (ws.map valR)=y
  grind
def ofP(a:Actn):Pack :=
 if mayA a then
  (let r:Key:=if a.kind=0 then a.ratio else if a.kind=1 then addR ([49],[49]) a.ratio else ([49],[49])
  if a.kind<3 then ⟨[(a.ast,r)],a.cash⟩ else if a.kind=4 then ⟨[(a.oth,a.ratio)],a.cash⟩ else if Op.bytesLess a.ast a.oth then ⟨[(a.ast,r),(a.oth,a.ratio)],a.cash⟩ else ⟨[(a.oth,a.ratio),(a.ast,r)],a.cash⟩)
 else ⟨[],([],[])⟩
def keepsP(p:Pack)(s:List UInt8):Bool:=p.parts.any fun x=>x.1==s&&x.2==([49],[49])
theorem one_rat:isR (([49],[49]):Key)=true∧valR (([49],[49]):Key)=1∧sgnR (([49],[49]):Key)=1:=by decide +kernel
theorem may_parts{a:Actn}(h:mayA a=true):isName a.nm=true∧Ac.assetB a.ast=true∧(0≤a.kind∧a.kind≤4)∧(if Ac.oB a.kind then Ac.assetB a.oth&&!(a.oth==a.ast) else a.oth == [])=true∧Ac.numB a.ratio (Ac.rB a.kind) 1=true∧Ac.numB a.cash (Ac.cB a.kind) (Ac.leastC a.kind)=true:=by
 unfold mayA at h;simp only[Bool.and_eq_true,decide_eq_true_eq]at h;obtain⟨h1,h2,h3,h4,_,_,_,_,h9,h10,h11⟩:=h;exact⟨h1,h2,⟨h3,h4⟩,h9,h10,h11⟩
theorem get_rat{l:List Fix}{k:FK}{q:Key}(h:getF l k=some q):isR q=true:=by
 unfold getF at h;split at h
 ·rename_i hm
  have ho:=(Fx.good_iffF.1 hm).1 _ (Fx.raw_some h);unfold okF at ho;simp only[Bool.and_eq_true]at ho;exact ho.2.2.2
 ·cases h
end Pk
end Go.Proofs.YthgopcnagecbaaaGreatDoor
