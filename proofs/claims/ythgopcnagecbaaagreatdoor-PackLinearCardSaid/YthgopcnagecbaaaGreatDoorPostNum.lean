/- Own work. -/
import Derived.Test.YthgopcnagecbaaaGreatDoorRatNum2
namespace Go.Proofs.YthgopcnagecbaaaGreatDoor
abbrev Key:=List UInt8×List UInt8
abbrev Ln:=Key×Key
def nameC(c:UInt8):Bool:=(decide (97≤c.toNat)&&decide (c.toNat≤122))||(decide (48≤c.toNat)&&decide (c.toNat≤57))
def okB(i:Nat)(c:UInt8):Bool:=nameC c||(decide (c.toNat=33)&&decide (i=0))
def nmFrom:Nat→List UInt8→Bool
 | _,[]=>true
 | k,c::r=>okB k c&&nmFrom (k+1) r
def isName(l:List UInt8):Bool:=nmFrom 0 l&&(decide (1≤l.length)&&decide (l.length≤20))
theorem nmFrom_append:∀ (k:Nat) (l m:List UInt8),nmFrom k (l++m)=(nmFrom k l&&nmFrom (k+l.length) m)
 | _,[],_=>rfl
 | k,c::r,m=>by
  show (okB k c&&nmFrom (k+1) (r++m))=((okB k c&&nmFrom (k+1) r)&&nmFrom (k+(r.length+1)) m);rw[nmFrom_append (k+1) r m,Bool.and_assoc,show k+1+r.length=k+(r.length+1) by omega]
theorem nm_step{l:List UInt8}{i:Nat}(h:i<l.length):nmFrom 0 (l.take (i+1))=(nmFrom 0 (l.take i)&&okB i l[i]):=by
 rw[List.take_add_one,List.getElem?_eq_getElem h,nmFrom_append];have e:(l.take i).length=i:=by rw[List.length_take];omega
 rw[e,Nat.zero_add];show (_&&(okB i l[i]&&true))=_;rw[Bool.and_true]
theorem nm_stop{l:List UInt8}{i:Nat}(h:i<l.length)(hb:okB i l[i]=false):isName l=false:=by
 have e:l=l.take (i+1)++l.drop (i+1):=(List.take_append_drop _ _).symm;unfold isName;rw[e,nmFrom_append,nm_step h,hb,Bool.and_false,Bool.false_and,Bool.false_and]
theorem nm_all{l:List UInt8}(h:nmFrom 0 (l.take l.length)=true):isName l=(decide (1≤l.length)&&decide (l.length≤20)):=by
 unfold isName;rw[List.take_length]at h;rw[h,Bool.true_and]
theorem less_irrefl:∀l:List UInt8,Op.bytesLess l l=false
 | []=>rfl
 | a::r=>by
  have h:=less_irrefl r;show (decide (a<a)||(a==a&&Op.bytesLess r r))=false;rw[h,Bool.and_false,Bool.or_false];exact decide_eq_false (by rw[UInt8.lt_iff_toNat_lt];omega)
theorem less_nil(a:List UInt8):Op.bytesLess a []=false:=by cases a<;>rfl
theorem less_trans:∀ {a b c:List UInt8},Op.bytesLess a b=true→Op.bytesLess b c=true→Op.bytesLess a c=true
 | _,[],_,h,_=>by rw[less_nil]at h;cases h
 | _,_::_,[],_,h=>by rw[less_nil]at h;cases h
 | [],_::_,_::_,_,_=>rfl
 | x::a,y::b,z::c,h,k=>by
  have h:(decide (x<y)||(x==y&&Op.bytesLess a b))=true:=h;have k:(decide (y<z)||(y==z&&Op.bytesLess b c))=true:=k;show (decide (x<z)||(x==z&&Op.bytesLess a c))=true;simp only[Bool.or_eq_true,Bool.and_eq_true,decide_eq_true_eq,beq_iff_eq]at h k ⊢;rcases h with h|⟨h,h'⟩<;>rcases k with k|⟨k,k'⟩
  ·left;rw[UInt8.lt_iff_toNat_lt]at *;omega
  ·left;subst k;exact h
  ·left;subst h;exact k
  ·right;exact⟨h.trans k,less_trans h' k'⟩
theorem less_cases:∀a b:List UInt8,Op.bytesLess a b=true∨a=b∨Op.bytesLess b a=true
 | [],[]=>.inr (.inl rfl)
 | [],_::_=>.inl rfl
 | _::_,[]=>.inr (.inr rfl)
 | x::a,y::b=>by
  show (decide (x<y)||(x==y&&Op.bytesLess a b))=true∨x::a=y::b∨(decide (y<x)||(y==x&&Op.bytesLess b a))=true;simp only[Bool.or_eq_true,Bool.and_eq_true,decide_eq_true_eq,beq_iff_eq];by_cases h:x<y
  ·exact .inl (.inl h)
  ·by_cases h2:y<x
   ·exact .inr (.inr (.inl h2))
   ·have e:x=y:=by
     rw[UInt8.lt_iff_toNat_lt]at h h2;exact UInt8.toNat_inj.1 (by omega)
    subst e;rcases less_cases a b with k|k|k
    ·exact .inl (.inr ⟨rfl,k⟩)
    ·subst k;exact .inr (.inl rfl)
    ·exact .inr (.inr (.inr ⟨rfl,k⟩))
def aheadK(a b:Key):Bool:=Op.bytesLess a.1 b.1||(a.1==b.1&&Op.bytesLess a.2 b.2)
theorem ahead_irrefl(a:Key):aheadK a a=false:=by unfold aheadK;rw[less_irrefl,less_irrefl,Bool.and_false];rfl
theorem ahead_trans{a b c:Key}(h:aheadK a b=true)(k:aheadK b c=true):aheadK a c=true:=by
 unfold aheadK at *;simp only[Bool.or_eq_true,Bool.and_eq_true,beq_iff_eq]at h k ⊢;rcases h with h|⟨h,h'⟩<;>rcases k with k|⟨k,k'⟩
 ·exact .inl (less_trans h k)
 ·exact .inl (k▸h)
 ·exact .inl (h▸k)
 ·exact .inr ⟨h.trans k,less_trans h' k'⟩
theorem ahead_cases(a b:Key):aheadK a b=true∨a=b∨aheadK b a=true:=by
 unfold aheadK;simp only[Bool.or_eq_true,Bool.and_eq_true,beq_iff_eq];rcases less_cases a.1 b.1 with h|h|h
 ·exact .inl (.inl h)
 ·rcases less_cases a.2 b.2 with k|k|k
  ·exact .inl (.inr ⟨h,k⟩)
  ·exact .inr (.inl (Prod.ext h k))
  ·exact .inr (.inr (.inr ⟨h.symm,k⟩))
 ·exact .inr (.inr (.inl h))
theorem ahead_asym{a b:Key}(h:aheadK a b=true):aheadK b a=false:=by
 cases e:aheadK b a with
 | false=>rfl
 | true=>have:=ahead_trans h e;rw[ahead_irrefl]at this;cases this
theorem ahead_ne{a b:Key}(h:aheadK a b=true):a≠b:=fun e=>by rw[e,ahead_irrefl]at h;cases h
def lineOf(ls:List Ln)(k:Key):Option Ln:=ls.find? fun x=>x.1==k
def insB:List Ln→Bool→Key→Key→List Ln
 | [],laid,k,q=>if laid then [] else [(k,q)]
 | x::r,laid,k,q=>(if !laid&&!aheadK x.1 k then [(k,q)] else [])++((if x.1==k then [] else [x])++insB r (laid||!aheadK x.1 k) k q)
def putB(ls:List Ln)(k q:Key):List Ln:=insB ls (sgnR q==0) k q
theorem parts:∀ {ls:List Ln},ls.Pairwise (fun x y=>aheadK x.1 y.1=true)→∀k:Key,∃A M C,ls=A++(M++C)∧(∀x∈A,aheadK x.1 k=true)∧(∀x∈C,aheadK k x.1=true)∧(M=[]∨∃p,M=[(k,p)])
 | [],_,k=>⟨[],[],[],rfl,fun _ h=>(by cases h),fun _ h=>(by cases h),.inl rfl⟩
 | x::r,h,k=>by
  obtain⟨h1,h2⟩:=List.pairwise_cons.1 h;rcases ahead_cases x.1 k with e|e|e
  ·obtain⟨A,M,C,rfl,hA,hC,hM⟩:=parts h2 k;refine⟨x::A,M,C,rfl,fun y hy=>?_,hC,hM⟩;rcases List.mem_cons.1 hy with rfl|hy
   ·exact e
   ·exact hA y hy
  ·refine⟨[],[x],r,rfl,fun _ h=>(by cases h),fun y hy=>e▸h1 y hy,.inr ⟨x.2,?_⟩⟩;rw[←e]
  ·refine⟨[],[],x::r,rfl,fun _ h=>(by cases h),fun y hy=>?_,.inl rfl⟩;rcases List.mem_cons.1 hy with rfl|hy
   ·exact e
   ·exact ahead_trans e (h1 y hy)
theorem ins_far:∀ {C:List Ln} {k:Key} (q:Key),(∀x∈C,aheadK k x.1=true)→insB C true k q=C
 | [],_,_,_=>rfl
 | x::r,k,q,h=>by
  have e:=h x (List.mem_cons_self ..);show (if !true&&!aheadK x.1 k then [(k,q)] else [])++((if x.1==k then [] else [x])++insB r (true||!aheadK x.1 k) k q)=x::r;rw[beq_false_of_ne (ahead_ne e).symm,Bool.true_or,ins_far q fun y hy=>h y (List.mem_cons_of_mem _ hy)]
  rfl
theorem ins_near{C:List Ln}{k:Key}(q:Key)(h:∀x∈C,aheadK k x.1=true):insB C false k q=(k,q)::C:=by
 cases C with
 | nil=>rfl
 | cons x r =>
  have e:=h x (List.mem_cons_self ..);show (if !false&&!aheadK x.1 k then [(k,q)] else [])++((if x.1==k then [] else [x])++insB r (false||!aheadK x.1 k) k q)=(k,q)::x::r;rw[beq_false_of_ne (ahead_ne e).symm,ahead_asym e,show (false||!false)=true from rfl,ins_far q fun y hy=>h y (List.mem_cons_of_mem _ hy)]
  rfl
theorem ins_ahead:∀ {A:List Ln} {k:Key} (q:Key) (laid:Bool) (D:List Ln),(∀x∈A,aheadK x.1 k=true)→insB (A++D) laid k q=A++insB D laid k q
 | [],_,_,_,_,_=>rfl
 | x::r,k,q,laid,D,h=>by
  have e:=h x (List.mem_cons_self ..);show (if !laid&&!aheadK x.1 k then [(k,q)] else [])++((if x.1==k then [] else [x])++insB (r++D) (laid||!aheadK x.1 k) k q)=x::(r++insB D laid k q);rw[beq_false_of_ne (ahead_ne e),e,show (!true)=false from rfl,Bool.and_false,Bool.or_false,ins_ahead q laid D fun y hy=>h y (List.mem_cons_of_mem _ hy)]
  rfl
theorem put_parts{A M C:List Ln}{k:Key}(q:Key)(hA:∀x∈A,aheadK x.1 k=true)(hC:∀x∈C,aheadK k x.1=true)(hM:M=[]∨∃p,M=[(k,p)]) :
  putB (A++(M++C)) k q=A++((if sgnR q==0 then [] else [(k,q)])++C):=by
 unfold putB;rw[ins_ahead q _ _ hA]
 congr 1
 rcases hM with rfl|⟨p,rfl⟩
 ·rw[List.nil_append]
  cases e:sgnR q==0 with
  | true=>rw[ins_far q hC];rfl
  | false=>rw[ins_near q hC];rfl
 ·show (if !(sgnR q==0)&&!aheadK k k then [(k,q)] else [])++((if k==k then [] else [(k,p)])++insB C ((sgnR q==0)||!aheadK k k) k q)=_;rw[ahead_irrefl,beq_self_eq_true,show (!false)=true from rfl,Bool.and_true,Bool.or_true,ins_far q hC]
  cases sgnR q==0<;>rfl
theorem of_none{A:List Ln}{k:Key}(h:∀x∈A,x.1≠k):lineOf A k=none:=List.find?_eq_none.2 fun x hx=>by
 rw[beq_iff_eq];exact h x hx
theorem of_append(A B:List Ln)(k:Key):lineOf (A++B) k=(lineOf A k).or (lineOf B k):=List.find?_append
theorem cmp_lt:∀ {a b:List UInt8},Op.bytesLess a b=true→Lib.compareBytes a b=-1
 | _,[],h=>by rw[less_nil]at h;cases h
 | [],_::_,_=>rfl
 | x::a,y::b,h=>by
  have h:(decide (x<y)||(x==y&&Op.bytesLess a b))=true:=h;show (if x<y then -1 else if y<x then 1 else Lib.compareBytes a b)=(-1:Int);simp only[Bool.or_eq_true,Bool.and_eq_true,decide_eq_true_eq,beq_iff_eq]at h;by_cases hlt:x<y
  ·rw[if_pos hlt]
  ·rcases h with h|⟨h,h'⟩
   ·exact absurd h hlt
   ·subst h;rw[if_neg hlt,if_neg hlt,cmp_lt h']
theorem cmp_self:∀a:List UInt8,Lib.compareBytes a a=0
 | []=>rfl
 | x::a=>by
  show (if x<x then -1 else if x<x then 1 else Lib.compareBytes a a)=(0:Int);have h:¬x<x:=by rw[UInt8.lt_iff_toNat_lt];omega
  rw[if_neg h,if_neg h,cmp_self a]
theorem cmp_gt:∀ {a b:List UInt8},Op.bytesLess b a=true→Lib.compareBytes a b=1
 | [],b,h=>by rw[less_nil]at h;cases h
 | _::_,[],_=>rfl
 | x::a,y::b,h=>by
  have h:(decide (y<x)||(y==x&&Op.bytesLess b a))=true:=h;show (if x<y then -1 else if y<x then 1 else Lib.compareBytes a b)=(1:Int);simp only[Bool.or_eq_true,Bool.and_eq_true,decide_eq_true_eq,beq_iff_eq]at h;rcases h with h|⟨h,h'⟩
  ·have h2:¬x<y:=by rw[UInt8.lt_iff_toNat_lt]at h ⊢;omega
   rw[if_neg h2,if_pos h]
  ·subst h;have h2:¬y<y:=by rw[UInt8.lt_iff_toNat_lt];omega
   rw[if_neg h2,if_neg h2,cmp_gt h']
def orZ(a b:Int):Int:=if a=0 then b else a
theorem orZ_left{a b:Int}(h:a≠0):orZ a b=a:=if_neg h
theorem orZ_right(b:Int):orZ 0 b=b:=if_pos rfl
theorem nm_zero(l:List UInt8):nmFrom 1 l=l.all nameC:=by
 have key:∀ (l:List UInt8) (k:Nat),nmFrom (k+1) l=l.all nameC:=by
  intro l
  induction l with
  | nil=>intro k;rfl
  | cons c r ih =>
   intro k;show (okB (k+1) c&&nmFrom (k+1+1) r)=(nameC c&&r.all nameC);rw[ih (k+1)];have:okB (k+1) c=nameC c:=by unfold okB;rw[decide_eq_false (Nat.succ_ne_zero k),Bool.and_false,Bool.or_false]
   rw[this]
 exact key l 0
def noMark(l:List UInt8):List UInt8:=match l with|33::r=>r|l=>l
theorem trim_mark:∀l:List UInt8,Lib.trimPrefix l [33]=noMark l
 | []=>rfl
 | c::r=>by
  unfold Lib.trimPrefix noMark;by_cases h:c=33
  ·subst h;rfl
  ·have e:Lib.hasPrefix (c::r) [33]=false:=by
    show ([33]:List UInt8).isPrefixOf (c::r)=false;show ((33:UInt8)==c&&_)=false;rw[beq_false_of_ne (fun e=>h e.symm),Bool.false_and]
   rw[e];show c::r=_;split
   ·rename_i r' heq;exact absurd (List.cons.inj heq).1 h
   ·rfl
theorem name_mark(l:List UInt8):isName l=((noMark l).all nameC&&(decide (1≤l.length)&&decide (l.length≤20))):=by
 unfold isName
 cases l with
 | nil=>rfl
 | cons c r =>
  congr 1
  show (okB 0 c&&nmFrom 1 r)=_;rw[nm_zero];unfold noMark;split
  ·rename_i r' heq
   obtain⟨rfl,rfl⟩:=List.cons.inj heq;rw[show okB 0 33=true from by decide,Bool.true_and]
  ·rename_i l' hne
   have h33:c≠33:=fun e=>hne r (by rw[e]);have:okB 0 c=nameC c:=by
    unfold okB;rw[decide_eq_false (show ¬c.toNat=33 from fun e=>h33 (UInt8.toNat_inj.1 e)),Bool.false_and,Bool.or_false]
   rw[this];rfl
theorem noMark_len(l:List UInt8):(noMark l).length≤l.length:=by
 unfold noMark;split
 ·exact Nat.le_succ _
 ·exact Nat.le_refl _
def rank(ls:List Ln)(k:Key):Nat:=ls.countP fun x=>aheadK x.1 k
theorem rank_parts{A M C:List Ln}{k:Key}(hA:∀x∈A,aheadK x.1 k=true)(hC:∀x∈C,aheadK k x.1=true)(hM:M=[]∨∃p,M=[(k,p)]):rank (A++(M++C)) k=A.length:=by
 have hc:C.countP (fun x=>aheadK x.1 k)=0:=List.countP_eq_zero.2 fun x hx=>by rw[ahead_asym (hC x hx)];decide
 unfold rank;rw[List.countP_append,List.countP_append,List.countP_eq_length.2 hA,hc];rcases hM with rfl|⟨p,rfl⟩
 ·rfl
 ·rw[List.countP_eq_zero.2 fun x hx=>by obtain rfl:=List.mem_singleton.1 hx;rw[ahead_irrefl];decide]
  rfl
def thereB(ls:List Ln)(k:Key):Bool:=match ls[rank ls k]? with|some x=>x.1==k|none=>false
theorem place{ls:List Ln}(h:ls.Pairwise fun x y=>aheadK x.1 y.1=true)(k:Key) :
  (thereB ls k=true∧∃p,ls[rank ls k]?=some (k,p)∧lineOf ls k=some (k,p)∧∀q,putB ls k q=ls.take (rank ls k)++((if sgnR q==0 then [] else [(k,q)])++ls.drop (rank ls k+1))) ∨
  (thereB ls k=false∧lineOf ls k=none∧∀q,putB ls k q=ls.take (rank ls k)++((if sgnR q==0 then [] else [(k,q)])++ls.drop (rank ls k))):=by
 obtain⟨A,M,C,rfl,hA,hC,hM⟩:=parts h k;have hr:=rank_parts hA hC hM;have nA:lineOf A k=none:=of_none fun x hx=>ahead_ne (hA x hx);have nC:lineOf C k=none:=of_none fun x hx=>(ahead_ne (hC x hx)).symm;rcases hM with rfl|⟨p,rfl⟩
 ·right
  refine⟨?_,?_,fun q=>?_⟩
  ·unfold thereB;rw[hr,List.nil_append,List.getElem?_append_right (Nat.le_refl _),Nat.sub_self]
   cases C with
   | nil=>rfl
   | cons y r=>exact beq_false_of_ne (ahead_ne (hC y (List.mem_cons_self ..))).symm
  ·rw[of_append,of_append,nA,nC];rfl
  ·rw[put_parts q hA hC (.inl rfl),hr,List.take_left,List.drop_left];rfl
 ·left
  refine⟨?_,p,?_,?_,fun q=>?_⟩
  ·unfold thereB;rw[hr,List.getElem?_append_right (Nat.le_refl _),Nat.sub_self];exact beq_self_eq_true k
  ·rw[hr,List.getElem?_append_right (Nat.le_refl _),Nat.sub_self];rfl
  ·rw[of_append,of_append,nA];have:lineOf [(k,p)] k=some (k,p):=by unfold lineOf;rw[List.find?_cons,beq_self_eq_true]
   rw[this];rfl
  ·rw[put_parts q hA hC (.inr ⟨p,rfl⟩),hr,List.take_left]
   congr 2
   rw[List.drop_append,List.drop_of_length_le (Nat.le_succ _),Nat.add_sub_cancel_left];rfl
end Go.Proofs.YthgopcnagecbaaaGreatDoor
