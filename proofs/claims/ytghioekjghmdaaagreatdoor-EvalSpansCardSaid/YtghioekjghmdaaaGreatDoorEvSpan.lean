/- Own work. -/
import Derived.Test.YtghioekjghmdaaaGreatDoorGrwTM
import Derived.Test.YtghioekjghmdaaaGreatDoorEvOrd
set_option linter.unusedVariables false
namespace Go.Proofs.YtghioekjghmdaaaGreatDoor
namespace Ev
open Tm (Nd Tr okN checkT treeOf nodeX)
open Fx (FK Fix GoodF mayF rawF)
theorem hi_all:∀ (p:List Rat) (q:Rat),q≤p.foldl hiQ q∧∀y∈p,y≤p.foldl hiQ q
 | [],q=>⟨Rat.le_refl,fun y h=>by cases h⟩
 | x::p,q=>by
  obtain⟨h1,h2⟩:=hi_all p (hiQ q x);have h3:=le_hi q x;rw[List.foldl_cons];refine⟨by grind,fun y hy=>?_⟩;rcases List.mem_cons.1 hy with rfl|hy
  ·grind
  ·exact h2 y hy
theorem lo_all:∀ (p:List Rat) (q:Rat),p.foldl loQ q≤q∧∀y∈p,p.foldl loQ q≤y
 | [],q=>⟨Rat.le_refl,fun y h=>by cases h⟩
 | x::p,q=>by
  obtain⟨h1,h2⟩:=lo_all p (loQ q x);have h3:=lo_le q x;rw[List.foldl_cons];refine⟨by grind,fun y hy=>?_⟩;rcases List.mem_cons.1 hy with rfl|hy
  ·grind
  ·exact h2 y hy
theorem sum_le{M:Rat}:∀ (p:List Rat) (x:Rat),(∀y∈p,y≤M)→p.foldl (·+·) x≤x+(p.length:Rat)*M
 | [],x,_=>by simp[Rat.add_zero]
 | y::p,x,h=>by
  have h1:=sum_le p (x+y) fun z hz=>h z (List.mem_cons_of_mem _ hz);have h2:=h y (List.mem_cons_self ..);have e:((p.length+1:Nat):Rat)=(p.length:Rat)+1:=Rat.natCast_add ..;rw[List.foldl_cons,List.length_cons,e]
  grind
theorem le_sum{M:Rat}:∀ (p:List Rat) (x:Rat),(∀y∈p,M≤y)→x+(p.length:Rat)*M≤p.foldl (·+·) x
 | [],x,_=>by simp[Rat.add_zero]
 | y::p,x,h=>by
  have h1:=le_sum p (x+y) fun z hz=>h z (List.mem_cons_of_mem _ hz);have h2:=h y (List.mem_cons_self ..);have e:((p.length+1:Nat):Rat)=(p.length:Rat)+1:=Rat.natCast_add ..;rw[List.foldl_cons,List.length_cons,e]
  grind
theorem len_pos{p:List Rat}(h:p≠[]):(0:Rat)<(p.length:Rat):=by
 have:0<p.length:=List.length_pos_iff.2 h;have:=Rat.natCast_lt_natCast.2 this
 simpa using this
theorem avg_le{M:Rat}{p:List Rat}(h0:p≠[])(h:∀y∈p,y≤M):p.foldl (·+·) 0 / (p.length:Rat)≤M:=by
 have h1:=sum_le p 0 h;have hp:=len_pos h0;refine Rat.le_of_mul_le_mul_right (c:=(p.length:Rat)) ?_ hp;rw[Rat.div_mul_cancel (Rat.ne_of_gt hp)]
 grind
theorem le_avg{M:Rat}{p:List Rat}(h0:p≠[])(h:∀y∈p,M≤y):M≤p.foldl (·+·) 0 / (p.length:Rat):=by
 have h1:=le_sum p 0 h;have hp:=len_pos h0;refine Rat.le_of_mul_le_mul_right (c:=(p.length:Rat)) ?_ hp;rw[Rat.div_mul_cancel (Rat.ne_of_gt hp)]
 grind
def spX(a b:Int):List FK:=(List.range (b+1-a).toNat).map fun (i:Nat)=>(([120]:List UInt8),a+(i:Int))
theorem span_X{op a b:Int}(h:2≤op∧op≤4):spanN (nodeX op a b)=spX a b:=by
 have e:lastN (nodeX op a b)=b:=by unfold lastN nodeX;dsimp only;rw[if_neg (by omega),if_pos h]
 unfold spanN;rw[e];rfl
theorem spX_next{a b:Int}(h:a≤b+1):spX a (b+1)=spX a b++[([120],b+1)]:=by
 unfold spX;rw[show (b+1+1-a).toNat=(b+1-a).toNat+1 by omega,List.range_succ,List.map_append,List.map_singleton]
 congr 3
 omega
theorem spX_one(a:Int):spX a a=[([120],a)]:=by
 unfold spX;rw[show (a+1-a).toNat=1 by omega];simp
theorem spX_first{a b:Int}(h:a≤b):([120],a)∈spX a b:=List.mem_map.2 ⟨0,List.mem_range.2 (by omega),by simp⟩
def lkX(l:List Fix)(a b:Int):Bool:=(spX a b).any fun k=>(rawF l k).isNone
def psX(l:List Fix)(a b:Int):List Rat:=(spX a b).map (priceK l)
def valX(l:List Fix)(op a b:Int):Rat:=leafV op (priceK l ([120],a)) (psX l a b)
theorem lack_X{l:List Fix}{op a b:Int}(h:2≤op∧op≤4):lackB l [nodeX op a b]=lkX l a b:=by
 rw[Bool.eq_iff_iff,lack_iff];unfold lkX;rw[List.any_eq_true];constructor
 ·rintro⟨k,hk,e⟩;obtain⟨x,hx,hk⟩:=keys_mem.1 hk;obtain rfl:=List.mem_singleton.1 hx;exact⟨k,span_X h▸hk,by rw[e];rfl⟩
 ·rintro⟨k,hk,e⟩;exact⟨k,keys_mem.2 ⟨_,List.mem_singleton.2 rfl,(span_X h).symm▸hk⟩,by simpa using e⟩
theorem eval_X{l:List Fix}{op a b:Int}(hl:mayF l=true)(h:2≤op∧op≤4)(h2:0≤a∧b≤9999∧a≤b∧b-a≤59):evalE [nodeX op a b] l=if lkX l a b=true then (zR,130) else (rd (valX l op a b),0):=by
 rw[eval_may hl (Tm.nodeX_check (.inl ⟨h.1,h.2,h2⟩)),lack_X h];have ht:treeOf [nodeX op a b]=some (.t0 (nodeX op a b)):=by
  rw[Tm.one_tree,if_pos ((Tm.ar_zero _).2 (by show 0≤op∧op≤4;omega))]
 rw[ht];show (if lkX l a b=true then (zR,130) else (rd (leafQ l (nodeX op a b)),0))=_;unfold leafQ;rw[if_neg (show ¬(nodeX op a b).op=0 by show ¬op=0;omega),span_X h]
 rfl
theorem eval_not{t:List Nd}{l:List Fix}(hl:mayF l=false):evalE t l=(zR,1):=by unfold evalE;rw[if_pos hl]
theorem lk_next{l:List Fix}{a b:Int}(h:a≤b+1):lkX l a (b+1)=(lkX l a b||lkX l (b+1) (b+1)):=by
 unfold lkX;rw[spX_next h,spX_one,List.any_append]
theorem lk_first{l:List Fix}{a b:Int}(h:a≤b)(k:lkX l a b=false):lkX l a a=false:=by
 unfold lkX at k ⊢;rw[List.any_eq_false]at k;rw[spX_one,List.any_cons,List.any_nil,Bool.or_false];have:=k _ (spX_first h)
 cases e:(rawF l ([120],a)).isNone with
 | false=>rfl
 | true=>exact absurd e this
theorem val_one{l:List Fix}(op a:Int):valX l op a a=priceK l ([120],a):=by
 unfold valX psX leafV;rw[spX_one];split
 ·exact hi_self _
 split
 ·exact lo_self _
 ·show ((0:Rat)+priceK l ([120],a)) / (1:Rat)=_
  grind
theorem hi_next{l:List Fix}{a b:Int}(h:a≤b):valX l 3 a (b+1)=hiQ (valX l 3 a b) (valX l 3 (b+1) (b+1)):=by
 rw[val_one];unfold valX psX leafV;rw[if_pos rfl,if_pos rfl,spX_next (by omega),List.map_append,List.foldl_append]
 rfl
theorem ps_ne{l:List Fix}{a b:Int}(h:a≤b):psX l a b≠[]:=fun e=>by
 have:=List.mem_map_of_mem (f:=priceK l) (spX_first h);rw[show (spX a b).map (priceK l)=[] from e]at this
 cases this
theorem span_laws{l:List Fix}{a b:Int}(h:a≤b):0≤sgnQ (valX l 3 a b-valX l 2 a b)∧sgnQ (valX l 4 a b-valX l 2 a b)≤0∧0≤sgnQ (valX l 3 a b-valX l 3 a a):=by
 rw[sgn_le,sgn_ge,sgn_le,val_one];exact⟨avg_le (ps_ne h) (hi_all _ _).2,le_avg (ps_ne h) (lo_all _ _).2,(hi_all _ _).1⟩
theorem valX_dg{D:Nat}(hD:0<D)(hk:D≤10000){l:List Fix}(hl:GoodF l)(hz:SzP D l){op a b:Int}(h:2≤op∧op≤4)(h2:0≤a∧b≤9999∧a≤b∧b-a≤59):Dg (60*D+4) (valX l op a b):=by
 have hc:=Tm.one_check (nodeX op a b);rw[decide_eq_true (Tm.nodeX_check (.inl ⟨h.1,h.2,h2⟩))]at hc;have hc:=hc.symm;rw[Bool.and_eq_true,decide_eq_true_eq]at hc;have k:=leaf_dg hD hk hl hz hc.2 hc.1;have hn:¬(nodeX op a b).op=0:=by show ¬op=0;omega
 unfold leafQ wN at k;rw[if_neg hn,if_neg hn,span_X h]at k;exact k
theorem span_next{l:List Fix}{a b:Int}(hl:mayF l=true)(h:0≤a∧a≤b∧b-a≤50∧b≤9000)(h3:lkX l a b=false) :
  (evalE [nodeX 3 a (b+1)] l=(([],[]),130)∧evalE [nodeX 3 (b+1) (b+1)] l=(([],[]),130)) ∨
  ∃M N:Rat,(evalE [nodeX 3 a (b+1)] l=(rd M,0)∧evalE [nodeX 3 (b+1) (b+1)] l=(rd N,0))∧N=valX l 3 (b+1) (b+1)∧(0≤sgnQ (valX l 3 a b-N)∧M=valX l 3 a b∨sgnQ (valX l 3 a b-N)<0∧M=N):=by
 rw[eval_X hl (by decide) (by omega),eval_X hl (by decide) (by omega),lk_next (a:=a) (b:=b) (by omega),h3,Bool.false_or]
 cases lkX l (b+1) (b+1) with
 | true=>exact .inl ⟨rfl,rfl⟩
 | false =>
  refine .inr ⟨_,_,⟨rfl,rfl⟩,rfl,?_⟩;rw[hi_next (a:=a) (b:=b) (by omega)];unfold hiQ;by_cases c:0≤sgnQ (valX l 3 a b-valX l 3 (b+1) (b+1))
  ·rw[if_pos c];exact .inl ⟨c,rfl⟩
  ·rw[if_neg c];exact .inr ⟨by omega,rfl⟩
end Ev
end Go.Proofs.YtghioekjghmdaaaGreatDoor
