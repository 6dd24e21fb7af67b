/- Own work. -/
import Derived.Test.YthgopcnagecbaaaGreatDoorPostNum
namespace Go.Proofs.YthgopcnagecbaaaGreatDoor
namespace Fx
abbrev FK:=List UInt8×Int
abbrev Fix:=FK×Key
def lessF(a b:FK):Bool:=Op.bytesLess a.1 b.1||(a.1==b.1&&decide (a.2<b.2))
theorem lt_irrefl(a:FK):lessF a a=false:=by unfold lessF;rw[less_irrefl,decide_eq_false (Int.lt_irrefl _),Bool.and_false];rfl
theorem lt_trans{a b c:FK}(h:lessF a b=true)(k:lessF b c=true):lessF a c=true:=by
 unfold lessF at *;simp only[Bool.or_eq_true,Bool.and_eq_true,beq_iff_eq,decide_eq_true_eq]at h k ⊢;rcases h with h|⟨h,h'⟩<;>rcases k with k|⟨k,k'⟩
 ·exact .inl (less_trans h k)
 ·exact .inl (k▸h)
 ·exact .inl (h▸k)
 ·exact .inr ⟨h.trans k,by omega⟩
theorem lt_cases(a b:FK):lessF a b=true∨a=b∨lessF b a=true:=by
 unfold lessF;simp only[Bool.or_eq_true,Bool.and_eq_true,beq_iff_eq,decide_eq_true_eq];rcases less_cases a.1 b.1 with h|h|h
 ·exact .inl (.inl h)
 ·rcases Int.lt_trichotomy a.2 b.2 with k|k|k
  ·exact .inl (.inr ⟨h,k⟩)
  ·exact .inr (.inl (Prod.ext h k))
  ·exact .inr (.inr (.inr ⟨h.symm,k⟩))
 ·exact .inr (.inr (.inl h))
theorem lt_asym{a b:FK}(h:lessF a b=true):lessF b a=false:=by
 cases e:lessF b a with
 | false=>rfl
 | true=>have:=lt_trans h e;rw[lt_irrefl]at this;cases this
theorem lt_ne{a b:FK}(h:lessF a b=true):a≠b:=fun e=>by rw[e,lt_irrefl]at h;cases h
def okF(x:Fix):Bool:=isName x.1.1&&(decide (0≤x.1.2)&&(decide (x.1.2≤9999)&&isR x.2))
def okAtF(l:List Fix)(j:Nat):Bool:=match l[j]? with
 | some x=>okF x&&(decide (j=0)||(match l[j-1]? with|some y=>lessF y.1 x.1|none=>false))
 | none=>true
def mayF(l:List Fix):Bool:=(List.range l.length).all (okAtF l)
def GoodF(l:List Fix):Prop:=(∀x∈l,okF x=true)∧l.Pairwise fun x y=>lessF x.1 y.1=true
theorem mayF_iff{l:List Fix}:mayF l=true↔∀j,j<l.length→okAtF l j=true:=by
 unfold mayF;rw[List.all_eq_true];exact⟨fun h j hj=>h j (List.mem_range.2 hj),fun h j hj=>h j (List.mem_range.1 hj)⟩
theorem mayF_stop{l:List Fix}{j:Nat}(hj:j<l.length)(h:okAtF l j=false):mayF l=false:=by
 cases e:mayF l with
 | false=>rfl
 | true=>rw[mayF_iff.1 e j hj]at h;cases h
theorem mayF_end{l:List Fix}(h:∀j,j<l.length→okAtF l j=true):mayF l=true:=mayF_iff.2 h
theorem okF_no{l:List Fix}{k:Nat}{x:Fix}(hx:l[k]?=some x)(h:okF x=false):okAtF l k=false:=by
 unfold okAtF;rw[hx];show (okF x&&_)=false;rw[h,Bool.false_and]
theorem okF_0{l:List Fix}{x:Fix}(hx:l[0]?=some x)(h:okF x=true):okAtF l 0=true:=by
 unfold okAtF;rw[hx];show (okF x&&_)=true;rw[h];rfl
theorem okF_s{l:List Fix}{m:Nat}{x y:Fix}(hx:l[m+1]?=some x)(hy:l[m]?=some y)(h:okF x=true):okAtF l (m+1)=lessF y.1 x.1:=by
 unfold okAtF;rw[hx];show (okF x&&(decide (m+1=0)||(match l[m+1-1]? with|some y=>lessF y.1 x.1|none=>false)))=_;rw[h,decide_eq_false (Nat.succ_ne_zero m),Nat.add_sub_cancel,hy];rfl
theorem chain_lt:∀ {l:List Fix},(∀j x y,l[j]?=some x→l[j+1]?=some y→lessF x.1 y.1=true)→l.Pairwise fun x y=>lessF x.1 y.1=true
 | [],_=>List.Pairwise.nil
 | [x],_=>List.pairwise_singleton _ _
 | x::y::r,h=>by
  have h1:lessF x.1 y.1=true:=h 0 x y rfl rfl;have h2:(y::r).Pairwise fun x y=>lessF x.1 y.1=true:=chain_lt fun j u v hu hv=>h (j+1) u v hu hv;refine List.Pairwise.cons (fun z hz=>?_) h2;rcases List.mem_cons.1 hz with rfl|hz
  ·exact h1
  ·exact lt_trans h1 ((List.pairwise_cons.1 h2).1 z hz)
theorem good_iffF{l:List Fix}:mayF l=true↔GoodF l:=by
 rw[mayF_iff];constructor
 ·intro h;constructor
  ·intro x hx;obtain⟨j,hj,e⟩:=List.getElem_of_mem hx;have k:=h j hj;unfold okAtF at k;rw[List.getElem?_eq_getElem hj]at k;simp only[Bool.and_eq_true]at k;rw[e]at k;exact k.1
  ·refine chain_lt fun j x y hx hy=>?_;obtain⟨hj,e⟩:=List.getElem?_eq_some_iff.1 hy;have k:=h (j+1) hj;unfold okAtF at k;rw[hy]at k;simp only[Bool.and_eq_true,Nat.add_sub_cancel,hx]at k;rcases Bool.or_eq_true_iff.1 k.2 with k|k
   ·exact absurd (of_decide_eq_true k) (by omega)
   ·exact k
 ·rintro⟨h1,h2⟩ j hj;unfold okAtF;rw[List.getElem?_eq_getElem hj];simp only[Bool.and_eq_true];refine⟨h1 _ (List.getElem_mem hj),?_⟩;by_cases h0:j=0
  ·rw[decide_eq_true h0];rfl
  ·rw[decide_eq_false h0,Bool.false_or,List.getElem?_eq_getElem (by omega)];exact List.pairwise_iff_getElem.1 h2 (j-1) j (by omega) hj (by omega)
def rankF(l:List Fix)(k:FK):Nat:=l.countP fun x=>lessF x.1 k
theorem less_mono{l:List Fix}(h:l.Pairwise fun x y=>lessF x.1 y.1=true){k:FK}{i j:Nat}{x y:Fix}(hij:i≤j)(hx:l[i]?=some x)(hy:l[j]?=some y)(ha:lessF y.1 k=true):lessF x.1 k=true:=by
 rcases Nat.lt_or_eq_of_le hij with c|c
 ·obtain⟨hi,rfl⟩:=List.getElem?_eq_some_iff.1 hx;obtain⟨hj,rfl⟩:=List.getElem?_eq_some_iff.1 hy;exact lt_trans (List.pairwise_iff_getElem.1 h i j hi hj c) ha
 ·subst c;rw[hx]at hy;obtain rfl:=Option.some.inj hy;exact ha
theorem rankF_bound{l:List Fix}{k:FK}{i:Nat}(hi:i≤l.length)(h1:∀t x,t<i→l[t]?=some x→lessF x.1 k=true)(h2:∀t x,i≤t→l[t]?=some x→lessF x.1 k=false):i=rankF l k:=by
 unfold rankF;have e:l.take i++l.drop i=l:=List.take_append_drop _ _;rw[←e,List.countP_append];rw[List.countP_eq_length.2 fun x hx=>by
  obtain⟨t,ht⟩:=List.mem_iff_getElem?.1 hx;have hlt:t<i:=by
   have:=(List.getElem?_eq_some_iff.1 ht).1;rw[List.length_take]at this;omega
  rw[List.getElem?_take_of_lt hlt]at ht;exact h1 t x hlt ht]
 rw[List.countP_eq_zero.2 fun x hx=>by
  obtain⟨t,ht⟩:=List.mem_iff_getElem?.1 hx;rw[List.getElem?_drop]at ht;rw[h2 (i+t) x (by omega) ht];decide]
 rw[List.length_take];omega
theorem rank_at{l:List Fix}(h:l.Pairwise fun x y=>lessF x.1 y.1=true)(k:FK):(∀t x,t<rankF l k→l[t]?=some x→lessF x.1 k=true)∧∀t x,rankF l k≤t→l[t]?=some x→lessF x.1 k=false:=by
 induction l with
 | nil=>exact⟨(fun t x _ hx=>by cases hx),(fun t x _ hx=>by cases hx)⟩
 | cons a r ih =>
  obtain⟨hp,hr⟩:=List.pairwise_cons.1 h;obtain⟨i1,i2⟩:=ih hr
  cases ha:lessF a.1 k with
  | true =>
   have e:rankF (a::r) k=rankF r k+1:=by unfold rankF;rw[List.countP_cons,ha];rfl
   rw[e];constructor
   ·intro t x ht hx
    cases t with
    | zero=>obtain rfl:=Option.some.inj hx;exact ha
    | succ t=>exact i1 t x (by omega) hx
   ·intro t x ht hx
    cases t with
    | zero=>omega
    | succ t=>exact i2 t x (by omega) hx
  | false =>
   have hz:∀x∈r,lessF x.1 k=false:=fun x hx=>by
    cases c:lessF x.1 k with
    | false=>rfl
    | true=>have:=lt_trans (hp x hx) c;rw[ha]at this;cases this
   have e:rankF (a::r) k=0:=by
    unfold rankF;rw[List.countP_cons,ha,List.countP_eq_zero.2 fun x hx=>by rw[hz x hx];decide];rfl
   rw[e];constructor
   ·intro t x ht;omega
   ·intro t x _ hx
    cases t with
    | zero=>obtain rfl:=Option.some.inj hx;exact ha
    | succ t=>exact hz x (List.mem_of_getElem? hx)
def thereF(l:List Fix)(k:FK):Bool:=match l[rankF l k]? with|some x=>x.1==k|none=>false
theorem there_some{l:List Fix}{k:FK}(h:thereF l k=true):∃x,l[rankF l k]?=some x∧x.1=k:=by
 unfold thereF at h
 cases e:l[rankF l k]? with
 | none=>rw[e]at h;cases h
 | some x=>rw[e]at h;exact⟨x,rfl,beq_iff_eq.1 h⟩
theorem there_not{l:List Fix}(hp:l.Pairwise fun x y=>lessF x.1 y.1=true){k:FK}(h:thereF l k=false):∀x∈l,x.1≠k:=fun x hx e=>by
 obtain⟨j,hj,rfl⟩:=List.getElem_of_mem hx;obtain⟨r1,r2⟩:=rank_at hp k;have hr:j=rankF l k:=rankF_bound (Nat.le_of_lt hj)
  (fun t y ht hy=>by
   obtain⟨ht',rfl⟩:=List.getElem?_eq_some_iff.1 hy;rw[←e];exact List.pairwise_iff_getElem.1 hp t j ht' hj ht)
  (fun t y ht hy=>by
   obtain⟨ht',rfl⟩:=List.getElem?_eq_some_iff.1 hy;rcases Nat.lt_or_eq_of_le ht with c|c
   ·rw[←e];exact lt_asym (List.pairwise_iff_getElem.1 hp j t hj ht' c)
   ·subst c;rw[e];exact lt_irrefl k)
 unfold thereF at h;rw[←hr,List.getElem?_eq_getElem hj]at h;have h:(l[j].1==k)=false:=h;rw[beq_iff_eq.2 e]at h;cases h
def rawF(l:List Fix)(k:FK):Option Key:=(l.find? fun x=>x.1==k).map (·.2)
def getF(l:List Fix)(k:FK):Option Key:=if mayF l then rawF l k else none
theorem uniq{l:List Fix}(hp:l.Pairwise fun x y=>lessF x.1 y.1=true){x y:Fix}(hx:x∈l)(hy:y∈l)(e:x.1=y.1):x=y:=by
 obtain⟨i,hi,rfl⟩:=List.getElem_of_mem hx;obtain⟨j,hj,rfl⟩:=List.getElem_of_mem hy;rcases Nat.lt_trichotomy i j with c|c|c
 ·exact absurd e (lt_ne (List.pairwise_iff_getElem.1 hp i j hi hj c))
 ·subst c;rfl
 ·exact absurd e.symm (lt_ne (List.pairwise_iff_getElem.1 hp j i hj hi c))
theorem raw_in{l:List Fix}(hp:l.Pairwise fun x y=>lessF x.1 y.1=true){x:Fix}(hx:x∈l):rawF l x.1=some x.2:=by
 unfold rawF
 cases e:l.find? fun y=>y.1==x.1 with
 | none=>exact absurd (List.find?_eq_none.1 e x hx) (by simp)
 | some z =>
  have ez:z.1=x.1:=by simpa using List.find?_some e
  rw[uniq hp (List.mem_of_find?_eq_some e) hx ez];rfl
theorem raw_no{l:List Fix}{k:FK}(h:∀x∈l,x.1≠k):rawF l k=none:=by
 unfold rawF;rw[List.find?_eq_none.2 fun x hx=>by simpa using h x hx];rfl
theorem raw_some{l:List Fix}{k:FK}{q:Key}(h:rawF l k=some q):(k,q)∈l:=by
 unfold rawF at h
 cases e:l.find? fun y=>y.1==k with
 | none=>rw[e]at h;cases h
 | some z =>
  rw[e]at h;have ez:z.1=k:=by simpa using List.find?_some e
  have eq:z.2=q:=Option.some.inj h;have:=List.mem_of_find?_eq_some e;rw[←ez,← eq];exact this
theorem get_in{l:List Fix}(h:GoodF l){x:Fix}(hx:x∈l):getF l x.1=some x.2:=by
 unfold getF;rw[good_iffF.2 h];exact raw_in h.2 hx
def cmpZ(x y:Int):Int:=if x<y then -1 else if y<x then 1 else 0
def ordF(k l:FK):Int:=orZ (Lib.compareBytes k.1 l.1) (cmpZ k.2 l.2)
theorem ordF_lt{k l:FK}(h:lessF k l=true):ordF k l=-1:=by
 unfold lessF at h;unfold ordF orZ;simp only[Bool.or_eq_true,Bool.and_eq_true,beq_iff_eq,decide_eq_true_eq]at h;rcases h with h|⟨h,h'⟩
 ·rw[cmp_lt h];rfl
 ·rw[h,cmp_self,if_pos rfl];unfold cmpZ;rw[if_pos h']
theorem ordF_self(k:FK):ordF k k=0:=by unfold ordF orZ cmpZ;rw[cmp_self,if_pos rfl,if_neg (Int.lt_irrefl _),if_neg (Int.lt_irrefl _)]
theorem ordF_gt{k l:FK}(h:lessF l k=true):ordF k l=1:=by
 unfold lessF at h;unfold ordF orZ;simp only[Bool.or_eq_true,Bool.and_eq_true,beq_iff_eq,decide_eq_true_eq]at h;rcases h with h|⟨h,h'⟩
 ·rw[cmp_gt h];rfl
 ·rw[h,cmp_self,if_pos rfl];unfold cmpZ;rw[if_neg (by omega),if_pos h']
theorem ordF_neg{k l:FK}:ordF k l<0↔lessF k l=true:=by
 rcases lt_cases k l with h|h|h
 ·rw[ordF_lt h];exact⟨fun _=>h,fun _=>by decide⟩
 ·subst h;rw[ordF_self,lt_irrefl];exact⟨fun h=>absurd h (by decide),fun h=>by cases h⟩
 ·rw[ordF_gt h,lt_asym h];exact⟨fun h=>absurd h (by decide),fun h=>by cases h⟩
theorem ordF_zero{k l:FK}:ordF k l=0↔k=l:=by
 rcases lt_cases k l with h|h|h
 ·rw[ordF_lt h];exact⟨fun h=>absurd h (by decide),fun e=>absurd e (lt_ne h)⟩
 ·subst h;rw[ordF_self];exact⟨fun _=>rfl,fun _=>rfl⟩
 ·rw[ordF_gt h];exact⟨fun h=>absurd h (by decide),fun e=>absurd e.symm (lt_ne h)⟩
theorem ordF_geq(k l:FK):decide (0≤ordF k l)=!lessF k l:=by
 cases h:lessF k l with
 | true=>rw[ordF_lt h];rfl
 | false =>
  refine decide_eq_true ?_;rcases Int.lt_or_le (ordF k l) 0 with c|c
  ·rw[ordF_neg.1 c]at h;cases h
  ·exact c
theorem thereF_of{l:List Fix}{k:FK}{x:Fix}{z:Int}(hx:l[rankF l k]?=some x)(hz:ordF x.1 k=z):thereF l k=decide (z=0):=by
 unfold thereF;rw[hx];show (x.1==k)=_;subst hz;by_cases h:x.1=k
 ·rw[h,ordF_self];simp
 ·rw[beq_false_of_ne h,decide_eq_false (fun e=>h (ordF_zero.1 e))]
theorem thereF_no{l:List Fix}{k:FK}(h:l.length≤rankF l k):thereF l k=false:=by
 unfold thereF;rw[List.getElem?_eq_none h]
end Fx
end Go.Proofs.YthgopcnagecbaaaGreatDoor
