/- Own work. -/
import Derived.Lib.SlicesCompact
import Derived.Test.YtghioekjghmdaaaGreatDoorAllRefEM
set_option linter.unusedVariables false
set_option linter.unusedSimpArgs false
namespace Go.Proofs.YtghioekjghmdaaaGreatDoor
namespace Ev
open Tm (Nd Tr arN treeOf checkT okN okT mkT stepS stk)
open Fx (FK Fix lessF mayF rawF GoodF rankF thereF okF)
def rawN(t:List Nd):List FK:=t.flatMap spanN
def zF(k:FK):Fix:=(k,zR)
section
open Go.Lib (keeps compactUpTo compactUpTo_succ)
theorem comp_inv{d:Array Fix}(hz:∀j,j<d.size→d[j]!.2=zR)(hs:∀i j,i<j→j<d.size→lessF d[j]!.1 d[i]!.1=false):∀m,m≤d.size →
  (compactUpTo d m).Pairwise (fun x y=>lessF x.1 y.1=true)∧∀x,x∈compactUpTo d m↔∃j,j<m∧d[j]! = x
 | 0,_=>⟨List.Pairwise.nil,fun x=>by simp[compactUpTo]⟩
 | m+1,hm=>by
  obtain⟨h1,h2⟩:=comp_inv hz hs m (by omega);rw[compactUpTo_succ]
  cases hk:keeps d m with
  | true =>
   refine⟨?_,fun x=>?_⟩
   ·rw[if_pos rfl];refine List.pairwise_append.2 ⟨h1,List.pairwise_singleton ..,fun x hx y hy=>?_⟩;rw[List.mem_singleton.1 hy];obtain⟨j,hj,rfl⟩:=(h2 x).1 hx;rcases Fx.lt_cases d[j]!.1 d[m]!.1 with c|c|c
    ·exact c
    ·have hk:m=0∨d[m]! ≠ d[m-1]! := by simpa [keeps] using hk
     rcases hk with hk|hk
     ·omega
     ·refine absurd ?_ hk;have e:d[m]!.1=d[m-1]!.1:=by
       rcases Nat.lt_or_eq_of_le (show j≤m-1 by omega) with g|g
       ·rcases Fx.lt_cases d[m]!.1 d[m-1]!.1 with u|u|u
        ·have:=hs (m-1) m (by omega) (by omega);rw[u]at this;cases this
        ·exact u
        ·have:=hs j (m-1) g (by omega);rw[c]at this;rw[u]at this;cases this
       ·rw[←g];exact c.symm
      exact Prod.ext e ((hz m (by omega)).trans (hz (m-1) (by omega)).symm)
    ·have:=hs j m hj (by omega);rw[c]at this;cases this
   ·rw[if_pos rfl,List.mem_append,h2,List.mem_singleton];constructor
    ·rintro(⟨j,hj,e⟩|rfl)
     ·exact⟨j,by omega,e⟩
     ·exact⟨m,by omega,rfl⟩
    ·rintro⟨j,hj,e⟩;by_cases g:j=m
     ·subst g;exact .inr e.symm
     ·exact .inl ⟨j,by omega,e⟩
  | false =>
   rw[if_neg (by decide),List.append_nil];refine⟨h1,fun x=>(h2 x).trans ⟨fun⟨j,hj,e⟩=>⟨j,by omega,e⟩,fun⟨j,hj,e⟩=>?_⟩⟩;by_cases g:j=m
   ·have hk:¬(m=0∨d[m]! ≠ d[m-1]!):=by simpa [keeps] using hk
    have h0:m≠0:=fun h=>hk (.inl h);have he:d[m]! = d[m-1]! := Classical.not_not.1 fun h=>hk (.inr h);exact⟨m-1,by omega,by rw[←he,← g];exact e⟩
   ·exact⟨j,by omega,e⟩
theorem comp_keys{t:List Nd}{s:List Fix}(hp:s.Perm ((rawN t).map zF))(hs:s.Pairwise fun x y=>lessF y.1 x.1=false):Go.Lib.compact s=(keysT t).map zF:=by
 have hz:∀x∈s,x.2=zR:=fun x hx=>by
  obtain⟨k,_,rfl⟩:=List.mem_map.1 (hp.mem_iff.1 hx);rfl
 have hg:∀j,j<s.length→∃h:j<s.length,s.toArray[j]! = s[j]:=fun j h=>⟨h,by rw[getElem!_pos s.toArray j (by simpa using h)];rfl⟩;obtain⟨h1,h2⟩:=comp_inv (d:=s.toArray) (fun j hj=>by
  obtain⟨h,e⟩:=hg j (by simpa using hj);rw[e];exact hz _ (List.getElem_mem h)) (fun i j hij hj=>by
  obtain⟨h,e⟩:=hg j (by simpa using hj);obtain⟨h',e'⟩:=hg i (by omega);rw[e,e'];exact List.pairwise_iff_getElem.1 hs i j h' h hij) s.length (by simp)
 have hm:∀x,x∈Go.Lib.compact s↔x∈s:=fun x=>by
  unfold Go.Lib.compact;rw[h2];constructor
  ·rintro⟨j,hj,rfl⟩;obtain⟨h,e⟩:=hg j hj;rw[e];exact List.getElem_mem h
  ·intro hx;obtain⟨j,hj,rfl⟩:=List.getElem_of_mem hx;obtain⟨_,e⟩:=hg j hj;exact⟨j,hj,e⟩
 refine Fx.good_extF h1 (List.pairwise_map.2 (keys_sort t)) fun x=>?_;rw[hm,hp.mem_iff,List.mem_map,List.mem_map];have e:∀k,k∈rawN t↔k∈keysT t:=fun k=>by unfold rawN;rw[keys_mem,List.mem_flatMap]
 simp only[e]
theorem comp_len{s:List Fix}:(Go.Lib.compact s).length≤s.length:=by
 unfold Go.Lib.compact compactUpTo;rw[List.length_map];exact Nat.le_trans (List.length_filter_le ..) (by rw[List.length_range];exact Nat.le_refl _)
end
theorem lack_there{l:List Fix}(hl:GoodF l)(t:List Nd):((keysT t).map zF).any (fun x=>!thereF l x.1)=lackB l t:=by
 unfold lackB;rw[List.any_map]
 congr 1
 funext k
 show (!thereF l k)=(rawF l k).isNone;rw[←Fx.raw_there hl.2]
 cases rawF l k<;>rfl
theorem rank_next{l:List Fix}(hp:l.Pairwise fun x y=>lessF x.1 y.1=true){s:List UInt8}{d:Int}(h:thereF l (s,d)=true):rankF l (s,d+1)=rankF l (s,d)+1:=by
 obtain⟨x,hx,e⟩:=Fx.there_some h;obtain⟨r1,r2⟩:=Fx.rank_at hp (s,d);have hn:lessF (s,d) (s,d+1)=true:=by
  unfold lessF;rw[beq_self_eq_true,Bool.true_and,decide_eq_true (show d<d+1 by omega),Bool.or_true]
 have hlt:=(List.getElem?_eq_some_iff.1 hx).1;refine(Fx.rankF_bound hlt (fun t y ht hy=>?_) fun t y ht hy=>?_).symm
 ·rcases Nat.lt_or_eq_of_le (Nat.le_of_lt_succ ht) with c|c
  ·exact Fx.lt_trans (r1 t y c hy) hn
  ·subst c;rw[hx]at hy;obtain rfl:=Option.some.inj hy;rw[e];exact hn
 ·obtain⟨h1,e1⟩:=List.getElem?_eq_some_iff.1 hx;obtain⟨h2,e2⟩:=List.getElem?_eq_some_iff.1 hy;have k:=List.pairwise_iff_getElem.1 hp _ t h1 h2 (by omega);rw[e1,e2,e]at k
  cases c:lessF y.1 (s,d+1) with
  | false=>rfl
  | true =>
   unfold lessF at k c;simp only[Bool.or_eq_true,Bool.and_eq_true,beq_iff_eq,decide_eq_true_eq]at k c;rcases k with k|⟨k,k'⟩<;>rcases c with c|⟨c,c'⟩
   ·have:=less_trans k c;rw[less_irrefl]at this;cases this
   ·rw[c,less_irrefl]at k;cases k
   ·rw[←k,less_irrefl]at c;cases c
   ·omega
theorem rank_more{l:List Fix}(hp:l.Pairwise fun x y=>lessF x.1 y.1=true){s:List UInt8}{a:Int}:∀i:Nat,(∀j:Nat,j<i→thereF l (s,a+(j:Int))=true)→rankF l (s,a+(i:Int))=rankF l (s,a)+i
 | 0,_=>by simp
 | i+1,h=>by
  have k:=rank_next hp (h i (Nat.lt_succ_self i));rw[rank_more hp i fun j hj=>h j (by omega)]at k;rw[show a+((i+1:Nat):Int)=a+(i:Int)+1 by omega,k];omega
def namedF(l:List Fix)(x:Nd):List Fix:=(l.drop (rankF l (x.ast,x.a))).take (spanN x).length
theorem span_get{x:Nd}{i:Nat}{k:FK}(h:(spanN x)[i]?=some k):k=(x.ast,x.a+(i:Int)):=by
 unfold spanN at h;rw[List.getElem?_map]at h
 cases e:(List.range (lastN x+1-x.a).toNat)[i]? with
 | none=>rw[e]at h;cases h
 | some j =>
  rw[e]at h;obtain⟨_,e⟩:=List.getElem?_eq_some_iff.1 e;rw[List.getElem_range]at e;subst e;exact(Option.some.inj h).symm
theorem named_at{l:List Fix}(hl:GoodF l){x:Nd}(h:∀k∈spanN x,thereF l k=true):rankF l (x.ast,x.a)+(spanN x).length≤l.length∧(namedF l x).map (·.1)=spanN x:=by
 have key:∀i k,(spanN x)[i]?=some k→∃y,l[rankF l (x.ast,x.a)+i]?=some y∧y.1=k:=fun i k hk=>by
  have e:=span_get hk;have hi:=(List.getElem?_eq_some_iff.1 hk).1;have r:=rank_more hl.2 (s:=x.ast) (a:=x.a) i fun j hj=>h _ (by
   have hj:j<(spanN x).length:=by omega
   have:=span_get (List.getElem?_eq_getElem hj);rw[←this];exact List.getElem_mem hj)
  rw[←r,← e];exact Fx.there_some (h k (List.mem_of_getElem? hk))
 have hle:rankF l (x.ast,x.a)+(spanN x).length≤l.length:=by
  rcases Nat.eq_zero_or_pos (spanN x).length with c|c
  ·rw[c];exact Fx.rankF_le l _
  ·obtain⟨y,hy,_⟩:=key ((spanN x).length-1) _ (List.getElem?_eq_getElem (by omega));have:=(List.getElem?_eq_some_iff.1 hy).1;omega
 refine⟨hle,List.ext_getElem? fun i=>?_⟩;rw[List.getElem?_map];unfold namedF;by_cases hi:i<(spanN x).length
 ·rw[List.getElem?_take_of_lt hi,List.getElem?_drop];obtain⟨y,hy,e⟩:=key i _ (List.getElem?_eq_getElem hi);rw[hy,List.getElem?_eq_getElem hi,← e];rfl
 ·rw[List.getElem?_take_eq_none (by omega),List.getElem?_eq_none (by omega)];rfl
theorem named_len{l:List Fix}(hl:GoodF l){x:Nd}(h:∀k∈spanN x,thereF l k=true):(namedF l x).length=(spanN x).length:=by
 rw[←(named_at hl h).2,List.length_map]
theorem named_in{l:List Fix}{x:Nd}{f:Fix}(h:f∈namedF l x):f∈l:=List.mem_of_mem_drop (List.mem_of_mem_take h)
def prF(f:Fix):Rat:=valR f.2
theorem named_price{l:List Fix}(hl:GoodF l){x:Nd}(h:∀k∈spanN x,thereF l k=true):(namedF l x).map prF=(spanN x).map (priceK l):=by
 rw[←(named_at hl h).2,List.map_map];refine List.map_congr_left fun f hf=>?_;show prF f=priceK l f.1;unfold priceK prF;rw[Fx.raw_in hl.2 (named_in hf)];rfl
theorem good_isR{l:List Fix}(hl:GoodF l){f:Fix}(hf:f∈l):isR f.2=true:=by
 have ho:=hl.1 _ hf;unfold Fx.okF at ho;simp only[Bool.and_eq_true]at ho;exact ho.2.2.2
def sumF(L:List Fix):Rat:=(L.map prF).foldl (·+·) 0
theorem foldl_add(L:List Rat):∀x:Rat,L.foldl (·+·) x=x+L.foldl (·+·) 0:=by
 induction L with
 | nil=>intro x;rw[List.foldl_nil,List.foldl_nil,Rat.add_zero]
 | cons y L ih=>intro x;rw[List.foldl_cons,List.foldl_cons,ih,ih (0+y),Rat.zero_add,Rat.add_assoc]
theorem sum_split(L:List Fix)(k:Nat):sumF (L.take k)+sumF (L.drop k)=sumF L:=by
 unfold sumF;rw[←foldl_add,← List.foldl_append,← List.map_append,List.take_append_drop]
theorem sum_one(f:Fix):sumF [f]=prF f:=by
 show 0+prF f=prF f;exact Rat.zero_add _
def maxF:Fix→List Fix→Fix
 | m,[]=>m
 | m,x::r=>if 0<sgnQ (prF x-prF m) then maxF x r else maxF m r
def minF:Fix→List Fix→Fix
 | m,[]=>m
 | m,x::r=>if sgnQ (prF x-prF m)<0 then minF x r else minF m r
theorem sgn_eq{a b:Rat}(h:sgnQ (a-b)=0):a=b:=by
 have h0:(a-b).num=0:=by
  unfold sgnQ at h;split at h
  ·cases h
  ·split at h
   ·assumption
   ·cases h
 have h1:a-b=0:=Rat.num_eq_zero.1 h0;have h2:a-b+b=0+b:=by rw[h1]
 rwa[Rat.sub_add_cancel,Rat.zero_add]at h2
theorem max_hi:∀ (r:List Fix) (m:Fix),prF (maxF m r)=(r.map prF).foldl hiQ (prF m)
 | [],m=>rfl
 | x::r,m=>by
  rw[List.map_cons,List.foldl_cons];unfold maxF hiQ;have e:=sgnQ_turn (prF x) (prF m);by_cases h:0<sgnQ (prF x-prF m)
  ·rw[if_pos h,if_neg (by omega)];exact max_hi r x
  ·rw[if_neg h,if_pos (by omega)];exact max_hi r m
theorem min_lo:∀ (r:List Fix) (m:Fix),prF (minF m r)=(r.map prF).foldl loQ (prF m)
 | [],m=>rfl
 | x::r,m=>by
  rw[List.map_cons,List.foldl_cons];unfold minF loQ;have e:=sgnQ_turn (prF x) (prF m);by_cases h:sgnQ (prF x-prF m)<0
  ·rw[if_pos h,if_neg (by omega)];exact min_lo r x
  ·rw[if_neg h,if_pos (by omega)];exact min_lo r m
theorem max_in:∀ (r:List Fix) (m:Fix),maxF m r∈m::r
 | [],m=>List.mem_cons_self ..
 | x::r,m=>by
  unfold maxF;split
  ·exact List.mem_cons_of_mem _ (max_in r x)
  ·rcases List.mem_cons.1 (max_in r m) with h|h
   ·rw[h];exact List.mem_cons_self ..
   ·exact List.mem_cons_of_mem _ (List.mem_cons_of_mem _ h)
theorem min_in:∀ (r:List Fix) (m:Fix),minF m r∈m::r
 | [],m=>List.mem_cons_self ..
 | x::r,m=>by
  unfold minF;split
  ·exact List.mem_cons_of_mem _ (min_in r x)
  ·rcases List.mem_cons.1 (min_in r m) with h|h
   ·rw[h];exact List.mem_cons_self ..
   ·exact List.mem_cons_of_mem _ (List.mem_cons_of_mem _ h)
def prcQ(op:Int)(f:Fix)(r:List Fix):Rat:=if op=2 then sumF (f::r) / (((f::r).length:Nat):Rat) else if op=3 then prF (maxF f r) else prF (minF f r)
theorem leaf_price{l:List Fix}(hl:GoodF l){x:Nd}(hx:okN x=true)(h1:1≤x.op∧x.op≤4)(h:∀k∈spanN x,thereF l k=true):∃f r,namedF l x=f::r∧leafQ l x=prcQ x.op f r:=by
 have hp:=named_price hl h;have h0:=span_first hx h1
 cases e:namedF l x with
 | nil =>
  have:=named_len hl h;rw[e]at this;rw[List.length_eq_zero_iff.1 this.symm]at h0
  cases h0
 | cons f r =>
  refine⟨f,r,rfl,?_⟩;have hn:=named_len hl h;have hk:=(named_at hl h).2;rw[e]at hp hk hn;have hf:prF f=priceK l (x.ast,x.a):=by
   have h0:(spanN x)[0]?=some f.1:=by rw[←hk];rfl
   have e2:=span_get h0;rw[List.map_cons]at hp
   cases hs:spanN x with
   | nil=>rw[hs]at h0;cases h0
   | cons k s =>
    rw[hs,List.map_cons]at hp;rw[hs]at h0;have h0:k=f.1:=Option.some.inj h0;have:=(List.cons.inj hp).1;rw[this,h0,e2];simp
  unfold leafQ prcQ;rw[if_neg (by omega),← hp,← hf];unfold leafV;by_cases h3:x.op=3
  ·rw[if_pos h3,if_neg (by omega),if_pos h3,max_hi,List.map_cons,List.foldl_cons,hi_self]
  rw[if_neg h3];by_cases h4:x.op=4
  ·rw[if_pos h4,if_neg (by omega),if_neg h3,min_lo,List.map_cons,List.foldl_cons,lo_self]
  rw[if_neg h4,if_neg h3,List.length_map];by_cases h2:x.op=2
  ·rw[if_pos h2];rfl
  ·rw[if_neg h2];have hl1:(spanN x).length=1:=by
    unfold spanN lastN;rw[if_pos (by omega),List.length_map,List.length_range];omega
   rw[hl1]at hn;obtain rfl:r=[]:=List.length_eq_zero_iff.1 (by simpa using hn);show (0+prF f) / ((1:Nat):Rat)=prF f;rw[Rat.zero_add,Rat.div_def];show prF f*(1:Rat)⁻¹=prF f;have:(1:Rat)⁻¹=1:=by decide +kernel
   rw[this,Rat.mul_one]
theorem days{x:Nd}(hx:okN x=true)(h1:1≤x.op∧x.op≤4):(0≤x.a∧x.a≤9999)∧0≤x.b∧x.b≤9999:=by
 by_cases h:x.op=1
 ·obtain⟨e,_,h2,h3⟩:=Tm.ok_px hx h;have:x.b=0:=by rw[e]
  omega
 ·obtain⟨_,_,h2,h3,h4,_⟩:=Tm.ok_avg hx (by omega);omega
theorem last_max{x:Nd}(hx:okN x=true)(h1:1≤x.op∧x.op≤4):lastN x=max x.a x.b:=by
 unfold lastN;by_cases h:x.op=1
 ·obtain⟨e,_,h2,h3⟩:=Tm.ok_px hx h;have:x.b=0:=by rw[e]
  rw[if_pos h];omega
 ·obtain⟨_,_,h2,h3,h4,_⟩:=Tm.ok_avg hx (by omega);rw[if_neg h,if_pos (by omega)];omega
theorem span_m{x:Nd}(hx:okN x=true)(h1:1≤x.op∧x.op≤4):((spanN x).length:Int)=max x.a x.b+1-x.a∧max x.a x.b≤9999:=by
 have:=days hx h1;have e:(spanN x).length=(lastN x+1-x.a).toNat:=by unfold spanN;rw[List.length_map,List.length_range]
 rw[e,last_max hx h1];omega
theorem nat_len{n:Nat}(h:n≤60):(rd ((n:Nat):Rat)).1.length≤19500∧(rd ((n:Nat):Rat)).2.length≤19500:=by
 rw[rd_nat];have:=wd_length (n:Int);have:=dig_length (n:=(n:Int).natAbs) (k:=2) (by decide) (by omega);exact⟨by show (wd (n:Int)).length≤_;omega,(by decide:1≤19500)⟩
theorem allS_some:∀L:List Rat,allS (L.map some)=some L
 | []=>rfl
 | a::L=>by rw[List.map_cons];show (allS (L.map some)).map (a::·)=_;rw[allS_some L];rfl
theorem allS_none:∀ {L:List (Option Rat)},none∈L→allS L=none
 | none::L,_=>rfl
 | some a::L,h=>by
  show (allS L).map (a::·)=none;rw[allS_none (by simpa using h)];rfl
def stepV(l:List Fix)(x:Nd)(q:List Rat):Option Rat:=valF l x (q.map some)
theorem val_mk{l:List Fix}{x:Nd}{L:List Tr}(h:L.length≤3):valT l (mkT x L)=valF l x (L.map (valT l)):=Tm.fold_mk (valF l) h
theorem step_up{l:List Fix}{x:Nd}{q:List Rat}(h:q≠[]):stepV l x q=upQ x.op q:=by
 cases q with
 | nil=>exact absurd rfl h
 | cons a q=>show (allS (List.map some (a::q))).bind (upQ x.op)=_;rw[allS_some];rfl
theorem none_end{l:List Fix}{t:List Nd}{tr:Tr}(ht:stk t t.length=some [tr]):∀ (n i:Nat) (st:List Tr),t.length=i+n→stk t i=some st→(∃s∈st,valT l s=none)→valT l tr=none
 | 0,i,st,hi,hs,h=>by
  obtain rfl:t.length=i:=hi;rw[ht]at hs;obtain rfl:=Option.some.inj hs;obtain⟨s,hm,e⟩:=h;rw[←List.mem_singleton.1 hm];exact e
 | n+1,i,st,hi,hs,h=>by
  obtain⟨x,hx⟩:∃x,t[i]?=some x:=⟨_,List.getElem?_eq_getElem (by omega)⟩;have hn:=Tm.stk_next hx;rw[hs]at hn
  cases e:stepS mkT x st with
  | none =>
   have:=Tm.stk_none (t:=t) (i:=i+1) (by rw[hn];exact e);unfold treeOf at this;rw[show Tm.runS mkT t []=stk t t.length by unfold stk;rw[List.take_length],ht]at this
   cases this
  | some st' =>
   obtain⟨k,s,L,ha,rfl,hl,rfl⟩:=Tm.step_inv mkT e;refine none_end ht n (i+1) _ (by omega) (hn.trans e) ?_;obtain⟨u,hu,hv⟩:=h;rcases List.mem_append.1 hu with hu|hu
   ·exact⟨u,List.mem_append_left _ hu,hv⟩
   ·refine⟨_,List.mem_append_right _ (List.mem_singleton.2 rfl),?_⟩;have h3:=Tm.arN_le ha;rw[val_mk (by omega)];have hm:none∈L.map (valT l):=List.mem_map.2 ⟨u,hu,hv⟩
    cases e:L.map (valT l) with
    | nil=>rw[e]at hm;cases hm
    | cons v vs =>
     show (allS (v::vs)).bind (upQ x.op)=none;rw[←e,allS_none hm];rfl
theorem dg_kids{D:Nat}{x:Nd}{L:List Tr}(h:L.length≤3){s:Tr}(hs:s∈L):dgT D s≤dgT D (mkT x L):=by
 have e:dgT D (mkT x L)=dgF D x (L.map (dgT D)):=Tm.fold_mk (dgF D) h;rw[e]
 match L,h with
 | [],_=>cases hs
 | [a],_=>rw[List.mem_singleton.1 hs];exact Nat.le_refl _
 | [a,b],_ =>
  show _≤dgT D a+dgT D b+1;rcases List.mem_cons.1 hs with rfl|hs
  ·omega
  ·rw[List.mem_singleton.1 hs];omega
 | [a,b,c],_ =>
  show _≤max (dgT D a) (max (dgT D b) (dgT D c));simp only[List.mem_cons,List.not_mem_nil,or_false]at hs;rcases hs with rfl|rfl|rfl<;>omega
 | _::_::_::_::_,h=>simp only[List.length_cons]at h;omega
theorem dg_end{D:Nat}{t:List Nd}{tr:Tr}(ht:stk t t.length=some [tr]):∀ (n i:Nat) (st:List Tr),t.length=i+n→stk t i=some st→∀s∈st,dgT D s≤dgT D tr
 | 0,i,st,hi,hs,s,hm=>by
  obtain rfl:t.length=i:=hi;rw[ht]at hs;obtain rfl:=Option.some.inj hs;rw[List.mem_singleton.1 hm];exact Nat.le_refl _
 | n+1,i,st,hi,hs,u,hu=>by
  obtain⟨x,hx⟩:∃x,t[i]?=some x:=⟨_,List.getElem?_eq_getElem (by omega)⟩;have hn:=Tm.stk_next hx;rw[hs]at hn
  cases e:stepS mkT x st with
  | none =>
   have:=Tm.stk_none (t:=t) (i:=i+1) (by rw[hn];exact e);unfold treeOf at this;rw[show Tm.runS mkT t []=stk t t.length by unfold stk;rw[List.take_length],ht]at this
   cases this
  | some st' =>
   obtain⟨k,s,L,ha,rfl,hl,rfl⟩:=Tm.step_inv mkT e;have ih:=dg_end (D:=D) ht n (i+1) _ (by omega) (hn.trans e);rcases List.mem_append.1 hu with hu|hu
   ·exact ih _ (List.mem_append_left _ hu)
   ·have h3:=Tm.arN_le ha;exact Nat.le_trans (dg_kids (by omega) hu) (ih _ (List.mem_append_right _ (List.mem_singleton.2 rfl)))
end Ev
end Go.Proofs.YtghioekjghmdaaaGreatDoor
set_option maxHeartbeats 2000000
set_option maxRecDepth 100000
namespace Go.Proofs.YtghioekjghmdaaaGreatDoor
open Go.RowKit
def Grw(U w:World):Prop:=∃ (q:Nat) (os:Array Obj),w={ U with heap:=U.heap++os,drawn:=U.drawn+q }
theorem Grw.refl(U:World):Grw U U:=⟨0,#[],by simp⟩
theorem Grw.drew{U w:World}(h:Grw U w):Grw U w.drew:=by
 obtain⟨q,os,rfl⟩:=h;exact⟨q+1,os,rfl⟩
theorem Grw.alloc{U w:World}(h:Grw U w)(o:Obj):Grw U (w.alloc o):=by
 obtain⟨q,os,rfl⟩:=h;exact⟨q,os.push o,by simp[World.alloc]⟩
theorem Grw.trans{U v w:World}(h:Grw U v)(k:Grw v w):Grw U w:=by
 obtain⟨q,os,rfl⟩:=h;obtain⟨r,ot,rfl⟩:=k;exact⟨q+r,os++ot,by simp[Array.append_assoc,Nat.add_assoc]⟩
theorem Grw.below{U w:World}(h:Grw U w):Below U.heap.size U w:=by
 obtain⟨q,os,rfl⟩:=h;exact⟨rfl,rfl,rfl,by simp,fun k hk=>by simp[Array.getElem?_append,hk]⟩
def GiveGw(w:World)(i:Int)(e:Ending)(w':World):Prop:=e=.returned (.int .i64 i)∧Grw w w'
theorem heldW{P:Program}{f:FuncId}{args:Array Value}{W w:World}{v:Value}(c:Calls P f args w fun e w'=>e=.returned v∧Grw w w')(h:Grw W w) :
  Calls P f args w fun e w'=>e=.returned v∧Grw W w':=c.mono fun _ _ ⟨he,hb⟩=>⟨he,h.trans hb⟩
theorem scmpG(a b:List UInt8)(w:World):Calls Tryz.prog 92 #[.string ⟨a.toArray⟩,.string ⟨b.toArray⟩] w (GiveGw w (Lib.compareBytes a b)) :=
 (Tryz.strings_Compare ⟨a.toArray⟩ ⟨b.toArray⟩ w).mono fun e w' ⟨h1,h2⟩=>⟨h1,h2▸Grw.refl _⟩
theorem orG_any(b:Nat)(x y:Int)(w:World)(h0:w.cell? ⟨b,0,none⟩=some (.int .i64 x))(h1:w.cell? ⟨b,1,none⟩=some (.int .i64 y)) :
  Calls Tryz.prog 91 #[.slice (some ⟨b,0,none⟩) 2 2] w (GiveGw w (orZ x y)):=by
 go_enter Tryz.func91,Tryz.ntmps91
 go_wp2
 go_loop [8] (fun i=>∃k:Nat,i=.int .i64 k∧(k=0∨(k=1∧x=0)∨(k=2∧(x=0∧y=0)))) (fun i=>2-(intOf i).toNat)
 case atStart=>exact⟨0,rfl,.inl rfl⟩
 case round =>
  obtain⟨k,rfl,hk⟩:=hrel;rcases hk with rfl|⟨rfl,hx⟩|⟨rfl,hx,hy⟩
  ·by_cases hx:x=0
   ·go_wp2
    go_round
    case rel=>exact⟨1,by go_num,.inr (.inl ⟨rfl,hx⟩)⟩
    case measure=>simp[intOf]
   ·have HO:Hid (orZ x y=x):=zh (orZ_left hx)
    go_wp2
    go_ret;exact⟨ret_int (by first|rw[HO.out]|exact(orZ_right _).symm|rfl),Grw.refl _⟩
  ·have HO:Hid (orZ x y=y):=zh (by rw[hx];exact orZ_right y);by_cases hy:y=0
   ·go_wp2
    go_round
    case rel=>exact⟨2,by go_num,.inr (.inr ⟨rfl,hx,hy⟩)⟩
    case measure=>simp[intOf]
   ·go_wp2
    go_ret;exact⟨ret_int (by first|rw[HO.out]|exact(orZ_right _).symm|rfl),Grw.refl _⟩
  ·have HO:Hid (orZ x y=0):=zh (by rw[hx,hy];rfl)
   go_wp2
   go_ret;exact⟨ret_int (by first|rw[HO.out]|exact(orZ_right _).symm|rfl),Grw.refl _⟩
theorem orG_new(w:World)(x y:Int)(t:TypeId):Calls Tryz.prog 91 #[.slice (some ⟨w.heap.size,0,none⟩) 2 2] (w.alloc (.cells #[.int .i64 x,.int .i64 y] t)) (GiveGw (w.alloc (.cells #[.int .i64 x,.int .i64 y] t)) (orZ x y)) :=
 orG_any _ x y _ (cell_new _ _ _ _ rfl 0) (cell_new _ _ _ _ rfl 1)
end Go.Proofs.YtghioekjghmdaaaGreatDoor
