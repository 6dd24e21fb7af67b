/- Own work. -/
import Derived.Test.YtghioekjghmdaaaGreatDoorRowsMM
set_option linter.unusedSimpArgs false
set_option linter.unusedVariables false
namespace Go.Proofs.YtghioekjghmdaaaGreatDoor
abbrev Key:=List UInt8×List UInt8
abbrev Ln:=Key×Key
def nameC(c:UInt8):Bool:=(decide (97≤c.toNat)&&decide (c.toNat≤122))||(decide (48≤c.toNat)&&decide (c.toNat≤57))
def okB(i:Nat)(c:UInt8):Bool:=nameC c||(decide (c.toNat=33)&&decide (i=0))
def nmFrom:Nat→List UInt8→Bool
 | _,[]=>true
 | k,c::r=>okB k c&&nmFrom (k+1) r
def isName(l:List UInt8):Bool:=nmFrom 0 l&&(decide (1≤l.length)&&decide (l.length≤20))
theorem nmFrom_append:∀ (k:Nat) (l m:List UInt8),nmFrom k (l++m)=(nmFrom k l&&nmFrom (k+l.length) m)
 | _,[],_=>rfl
 | k,c::r,m=>by
  show (okB k c&&nmFrom (k+1) (r++m))=((okB k c&&nmFrom (k+1) r)&&nmFrom (k+(r.length+1)) m);rw[nmFrom_append (k+1) r m,Bool.and_assoc,show k+1+r.length=k+(r.length+1) by omega]
theorem nm_step{l:List UInt8}{i:Nat}(h:i<l.length):nmFrom 0 (l.take (i+1))=(nmFrom 0 (l.take i)&&okB i l[i]):=by
 rw[List.take_add_one,List.getElem?_eq_getElem h,nmFrom_append];have e:(l.take i).length=i:=by rw[List.length_take];omega
 rw[e,Nat.zero_add];show (_&&(okB i l[i]&&true))=_;rw[Bool.and_true]
theorem nm_stop{l:List UInt8}{i:Nat}(h:i<l.length)(hb:okB i l[i]=false):isName l=false:=by
 have e:l=l.take (i+1)++l.drop (i+1):=(List.take_append_drop _ _).symm;unfold isName;rw[e,nmFrom_append,nm_step h,hb,Bool.and_false,Bool.false_and,Bool.false_and]
theorem nm_all{l:List UInt8}(h:nmFrom 0 (l.take l.length)=true):isName l=(decide (1≤l.length)&&decide (l.length≤20)):=by
 unfold isName;rw[List.take_length]at h;rw[h,Bool.true_and]
theorem less_irrefl:∀l:List UInt8,Op.bytesLess l l=false
 | []=>rfl
 | a::r=>by
  have h:=less_irrefl r;show (decide (a<a)||(a==a&&Op.bytesLess r r))=false;rw[h,Bool.and_false,Bool.or_false];exact decide_eq_false (by rw[UInt8.lt_iff_toNat_lt];omega)
theorem less_nil(a:List UInt8):Op.bytesLess a []=false:=by cases a<;>rfl
theorem less_trans:∀ {a b c:List UInt8},Op.bytesLess a b=true→Op.bytesLess b c=true→Op.bytesLess a c=true
 | _,[],_,h,_=>by rw[less_nil]at h;cases h
 | _,_::_,[],_,h=>by rw[less_nil]at h;cases h
 | [],_::_,_::_,_,_=>rfl
 | x::a,y::b,z::c,h,k=>by
  have h:(decide (x<y)||(x==y&&Op.bytesLess a b))=true:=h;have k:(decide (y<z)||(y==z&&Op.bytesLess b c))=true:=k;show (decide (x<z)||(x==z&&Op.bytesLess a c))=true;simp only[Bool.or_eq_true,Bool.and_eq_true,decide_eq_true_eq,beq_iff_eq]at h k ⊢;rcases h with h|⟨h,h'⟩<;>rcases k with k|⟨k,k'⟩
  ·left;rw[UInt8.lt_iff_toNat_lt]at *;omega
  ·left;subst k;exact h
  ·left;subst h;exact k
  ·right;exact⟨h.trans k,less_trans h' k'⟩
theorem less_cases:∀a b:List UInt8,Op.bytesLess a b=true∨a=b∨Op.bytesLess b a=true
 | [],[]=>.inr (.inl rfl)
 | [],_::_=>.inl rfl
 | _::_,[]=>.inr (.inr rfl)
 | x::a,y::b=>by
  show (decide (x<y)||(x==y&&Op.bytesLess a b))=true∨x::a=y::b∨(decide (y<x)||(y==x&&Op.bytesLess b a))=true;simp only[Bool.or_eq_true,Bool.and_eq_true,decide_eq_true_eq,beq_iff_eq];by_cases h:x<y
  ·exact .inl (.inl h)
  ·by_cases h2:y<x
   ·exact .inr (.inr (.inl h2))
   ·have e:x=y:=by
     rw[UInt8.lt_iff_toNat_lt]at h h2;exact UInt8.toNat_inj.1 (by omega)
    subst e;rcases less_cases a b with k|k|k
    ·exact .inl (.inr ⟨rfl,k⟩)
    ·subst k;exact .inr (.inl rfl)
    ·exact .inr (.inr (.inr ⟨rfl,k⟩))
def aheadK(a b:Key):Bool:=Op.bytesLess a.1 b.1||(a.1==b.1&&Op.bytesLess a.2 b.2)
theorem ahead_irrefl(a:Key):aheadK a a=false:=by unfold aheadK;rw[less_irrefl,less_irrefl,Bool.and_false];rfl
theorem ahead_trans{a b c:Key}(h:aheadK a b=true)(k:aheadK b c=true):aheadK a c=true:=by
 unfold aheadK at *;simp only[Bool.or_eq_true,Bool.and_eq_true,beq_iff_eq]at h k ⊢;rcases h with h|⟨h,h'⟩<;>rcases k with k|⟨k,k'⟩
 ·exact .inl (less_trans h k)
 ·exact .inl (k▸h)
 ·exact .inl (h▸k)
 ·exact .inr ⟨h.trans k,less_trans h' k'⟩
theorem ahead_cases(a b:Key):aheadK a b=true∨a=b∨aheadK b a=true:=by
 unfold aheadK;simp only[Bool.or_eq_true,Bool.and_eq_true,beq_iff_eq];rcases less_cases a.1 b.1 with h|h|h
 ·exact .inl (.inl h)
 ·rcases less_cases a.2 b.2 with k|k|k
  ·exact .inl (.inr ⟨h,k⟩)
  ·exact .inr (.inl (Prod.ext h k))
  ·exact .inr (.inr (.inr ⟨h.symm,k⟩))
 ·exact .inr (.inr (.inl h))
theorem ahead_asym{a b:Key}(h:aheadK a b=true):aheadK b a=false:=by
 cases e:aheadK b a with
 | false=>rfl
 | true=>have:=ahead_trans h e;rw[ahead_irrefl]at this;cases this
theorem ahead_ne{a b:Key}(h:aheadK a b=true):a≠b:=fun e=>by rw[e,ahead_irrefl]at h;cases h
def lineOk(x:Ln):Bool:=isName x.1.1&&(isName x.1.2&&isR x.2)
def lineIn(x:Ln):Bool:=lineOk x&&!(sgnR x.2==0)
def Good(ls:List Ln):Prop:=(∀x∈ls,lineIn x=true)∧ls.Pairwise fun x y=>aheadK x.1 y.1=true
def lineOf(ls:List Ln)(k:Key):Option Ln:=ls.find? fun x=>x.1==k
def insB:List Ln→Bool→Key→Key→List Ln
 | [],laid,k,q=>if laid then [] else [(k,q)]
 | x::r,laid,k,q=>(if !laid&&!aheadK x.1 k then [(k,q)] else [])++((if x.1==k then [] else [x])++insB r (laid||!aheadK x.1 k) k q)
def putB(ls:List Ln)(k q:Key):List Ln:=insB ls (sgnR q==0) k q
def sumL(ls:List Ln):Key:=ls.foldl (fun s x=>addR s x.2) ([48],[49])
theorem zero_rd:((([48]:List UInt8),([49]:List UInt8)):Key)=rd 0:=by
 show (([48]:List UInt8),([49]:List UInt8))=(wd 0,dig 1);rw[wd_0,dig_1]
theorem parts:∀ {ls:List Ln},ls.Pairwise (fun x y=>aheadK x.1 y.1=true)→∀k:Key,∃A M C,ls=A++(M++C)∧(∀x∈A,aheadK x.1 k=true)∧(∀x∈C,aheadK k x.1=true)∧(M=[]∨∃p,M=[(k,p)])
 | [],_,k=>⟨[],[],[],rfl,fun _ h=>(by cases h),fun _ h=>(by cases h),.inl rfl⟩
 | x::r,h,k=>by
  obtain⟨h1,h2⟩:=List.pairwise_cons.1 h;rcases ahead_cases x.1 k with e|e|e
  ·obtain⟨A,M,C,rfl,hA,hC,hM⟩:=parts h2 k;refine⟨x::A,M,C,rfl,fun y hy=>?_,hC,hM⟩;rcases List.mem_cons.1 hy with rfl|hy
   ·exact e
   ·exact hA y hy
  ·refine⟨[],[x],r,rfl,fun _ h=>(by cases h),fun y hy=>e▸h1 y hy,.inr ⟨x.2,?_⟩⟩;rw[←e]
  ·refine⟨[],[],x::r,rfl,fun _ h=>(by cases h),fun y hy=>?_,.inl rfl⟩;rcases List.mem_cons.1 hy with rfl|hy
   ·exact e
   ·exact ahead_trans e (h1 y hy)
theorem ins_far:∀ {C:List Ln} {k:Key} (q:Key),(∀x∈C,aheadK k x.1=true)→insB C true k q=C
 | [],_,_,_=>rfl
 | x::r,k,q,h=>by
  have e:=h x (List.mem_cons_self ..);show (if !true&&!aheadK x.1 k then [(k,q)] else [])++((if x.1==k then [] else [x])++insB r (true||!aheadK x.1 k) k q)=x::r;rw[beq_false_of_ne (ahead_ne e).symm,Bool.true_or,ins_far q fun y hy=>h y (List.mem_cons_of_mem _ hy)]
  rfl
theorem ins_near{C:List Ln}{k:Key}(q:Key)(h:∀x∈C,aheadK k x.1=true):insB C false k q=(k,q)::C:=by
 cases C with
 | nil=>rfl
 | cons x r =>
  have e:=h x (List.mem_cons_self ..);show (if !false&&!aheadK x.1 k then [(k,q)] else [])++((if x.1==k then [] else [x])++insB r (false||!aheadK x.1 k) k q)=(k,q)::x::r;rw[beq_false_of_ne (ahead_ne e).symm,ahead_asym e,show (false||!false)=true from rfl,ins_far q fun y hy=>h y (List.mem_cons_of_mem _ hy)]
  rfl
theorem ins_ahead:∀ {A:List Ln} {k:Key} (q:Key) (laid:Bool) (D:List Ln),(∀x∈A,aheadK x.1 k=true)→insB (A++D) laid k q=A++insB D laid k q
 | [],_,_,_,_,_=>rfl
 | x::r,k,q,laid,D,h=>by
  have e:=h x (List.mem_cons_self ..);show (if !laid&&!aheadK x.1 k then [(k,q)] else [])++((if x.1==k then [] else [x])++insB (r++D) (laid||!aheadK x.1 k) k q)=x::(r++insB D laid k q);rw[beq_false_of_ne (ahead_ne e),e,show (!true)=false from rfl,Bool.and_false,Bool.or_false,ins_ahead q laid D fun y hy=>h y (List.mem_cons_of_mem _ hy)]
  rfl
theorem put_parts{A M C:List Ln}{k:Key}(q:Key)(hA:∀x∈A,aheadK x.1 k=true)(hC:∀x∈C,aheadK k x.1=true)(hM:M=[]∨∃p,M=[(k,p)]) :
  putB (A++(M++C)) k q=A++((if sgnR q==0 then [] else [(k,q)])++C):=by
 unfold putB;rw[ins_ahead q _ _ hA]
 congr 1
 rcases hM with rfl|⟨p,rfl⟩
 ·rw[List.nil_append]
  cases e:sgnR q==0 with
  | true=>rw[ins_far q hC];rfl
  | false=>rw[ins_near q hC];rfl
 ·show (if !(sgnR q==0)&&!aheadK k k then [(k,q)] else [])++((if k==k then [] else [(k,p)])++insB C ((sgnR q==0)||!aheadK k k) k q)=_;rw[ahead_irrefl,beq_self_eq_true,show (!false)=true from rfl,Bool.and_true,Bool.or_true,ins_far q hC]
  cases sgnR q==0<;>rfl
theorem of_none{A:List Ln}{k:Key}(h:∀x∈A,x.1≠k):lineOf A k=none:=List.find?_eq_none.2 fun x hx=>by
 rw[beq_iff_eq];exact h x hx
theorem of_append(A B:List Ln)(k:Key):lineOf (A++B) k=(lineOf A k).or (lineOf B k):=List.find?_append
theorem sum_rd:∀ {ls:List Ln} (s:Rat),(∀x∈ls,isR x.2=true)→ls.foldl (fun s x=>addR s x.2) (rd s)=rd (s+ls.foldr (fun x s=>valR x.2+s) 0)
 | [],s,_=>by show rd s=rd (s+0);rw[Rat.add_zero]
 | x::r,s,h=>by
  have hx:=h x (List.mem_cons_self ..);have e:addR (rd s) x.2=rd (s+valR x.2):=by unfold addR;rw[isR_rd,hx,valR_rd];rfl
  show r.foldl _ (addR (rd s) x.2)=rd (s+(valR x.2+r.foldr _ 0));rw[e,sum_rd _ fun y hy=>h y (List.mem_cons_of_mem _ hy),Rat.add_assoc]
theorem cmp_lt:∀ {a b:List UInt8},Op.bytesLess a b=true→Lib.compareBytes a b=-1
 | _,[],h=>by rw[less_nil]at h;cases h
 | [],_::_,_=>rfl
 | x::a,y::b,h=>by
  have h:(decide (x<y)||(x==y&&Op.bytesLess a b))=true:=h;show (if x<y then -1 else if y<x then 1 else Lib.compareBytes a b)=(-1:Int);simp only[Bool.or_eq_true,Bool.and_eq_true,decide_eq_true_eq,beq_iff_eq]at h;by_cases hlt:x<y
  ·rw[if_pos hlt]
  ·rcases h with h|⟨h,h'⟩
   ·exact absurd h hlt
   ·subst h;rw[if_neg hlt,if_neg hlt,cmp_lt h']
theorem cmp_self:∀a:List UInt8,Lib.compareBytes a a=0
 | []=>rfl
 | x::a=>by
  show (if x<x then -1 else if x<x then 1 else Lib.compareBytes a a)=(0:Int);have h:¬x<x:=by rw[UInt8.lt_iff_toNat_lt];omega
  rw[if_neg h,if_neg h,cmp_self a]
theorem cmp_gt:∀ {a b:List UInt8},Op.bytesLess b a=true→Lib.compareBytes a b=1
 | [],b,h=>by rw[less_nil]at h;cases h
 | _::_,[],_=>rfl
 | x::a,y::b,h=>by
  have h:(decide (y<x)||(y==x&&Op.bytesLess b a))=true:=h;show (if x<y then -1 else if y<x then 1 else Lib.compareBytes a b)=(1:Int);simp only[Bool.or_eq_true,Bool.and_eq_true,decide_eq_true_eq,beq_iff_eq]at h;rcases h with h|⟨h,h'⟩
  ·have h2:¬x<y:=by rw[UInt8.lt_iff_toNat_lt]at h ⊢;omega
   rw[if_neg h2,if_pos h]
  ·subst h;have h2:¬y<y:=by rw[UInt8.lt_iff_toNat_lt];omega
   rw[if_neg h2,if_neg h2,cmp_gt h']
def orZ(a b:Int):Int:=if a=0 then b else a
theorem orZ_left{a b:Int}(h:a≠0):orZ a b=a:=if_neg h
theorem orZ_right(b:Int):orZ 0 b=b:=if_pos rfl
theorem nm_zero(l:List UInt8):nmFrom 1 l=l.all nameC:=by
 have key:∀ (l:List UInt8) (k:Nat),nmFrom (k+1) l=l.all nameC:=by
  intro l
  induction l with
  | nil=>intro k;rfl
  | cons c r ih =>
   intro k;show (okB (k+1) c&&nmFrom (k+1+1) r)=(nameC c&&r.all nameC);rw[ih (k+1)];have:okB (k+1) c=nameC c:=by unfold okB;rw[decide_eq_false (Nat.succ_ne_zero k),Bool.and_false,Bool.or_false]
   rw[this]
 exact key l 0
def noMark(l:List UInt8):List UInt8:=match l with|33::r=>r|l=>l
theorem trim_mark:∀l:List UInt8,Lib.trimPrefix l [33]=noMark l
 | []=>rfl
 | c::r=>by
  unfold Lib.trimPrefix noMark;by_cases h:c=33
  ·subst h;rfl
  ·have e:Lib.hasPrefix (c::r) [33]=false:=by
    show ([33]:List UInt8).isPrefixOf (c::r)=false;show ((33:UInt8)==c&&_)=false;rw[beq_false_of_ne (fun e=>h e.symm),Bool.false_and]
   rw[e];show c::r=_;split
   ·rename_i r' heq;exact absurd (List.cons.inj heq).1 h
   ·rfl
theorem name_mark(l:List UInt8):isName l=((noMark l).all nameC&&(decide (1≤l.length)&&decide (l.length≤20))):=by
 unfold isName
 cases l with
 | nil=>rfl
 | cons c r =>
  congr 1
  show (okB 0 c&&nmFrom 1 r)=_;rw[nm_zero];unfold noMark;split
  ·rename_i r' heq
   obtain⟨rfl,rfl⟩:=List.cons.inj heq;rw[show okB 0 33=true from by decide,Bool.true_and]
  ·rename_i l' hne
   have h33:c≠33:=fun e=>hne r (by rw[e]);have:okB 0 c=nameC c:=by
    unfold okB;rw[decide_eq_false (show ¬c.toNat=33 from fun e=>h33 (UInt8.toNat_inj.1 e)),Bool.false_and,Bool.or_false]
   rw[this];rfl
theorem noMark_len(l:List UInt8):(noMark l).length≤l.length:=by
 unfold noMark;split
 ·exact Nat.le_succ _
 ·exact Nat.le_refl _
def rank(ls:List Ln)(k:Key):Nat:=ls.countP fun x=>aheadK x.1 k
theorem rank_parts{A M C:List Ln}{k:Key}(hA:∀x∈A,aheadK x.1 k=true)(hC:∀x∈C,aheadK k x.1=true)(hM:M=[]∨∃p,M=[(k,p)]):rank (A++(M++C)) k=A.length:=by
 have hc:C.countP (fun x=>aheadK x.1 k)=0:=List.countP_eq_zero.2 fun x hx=>by rw[ahead_asym (hC x hx)];decide
 unfold rank;rw[List.countP_append,List.countP_append,List.countP_eq_length.2 hA,hc];rcases hM with rfl|⟨p,rfl⟩
 ·rfl
 ·rw[List.countP_eq_zero.2 fun x hx=>by obtain rfl:=List.mem_singleton.1 hx;rw[ahead_irrefl];decide]
  rfl
def thereB(ls:List Ln)(k:Key):Bool:=match ls[rank ls k]? with|some x=>x.1==k|none=>false
theorem place{ls:List Ln}(h:ls.Pairwise fun x y=>aheadK x.1 y.1=true)(k:Key) :
  (thereB ls k=true∧∃p,ls[rank ls k]?=some (k,p)∧lineOf ls k=some (k,p)∧∀q,putB ls k q=ls.take (rank ls k)++((if sgnR q==0 then [] else [(k,q)])++ls.drop (rank ls k+1))) ∨
  (thereB ls k=false∧lineOf ls k=none∧∀q,putB ls k q=ls.take (rank ls k)++((if sgnR q==0 then [] else [(k,q)])++ls.drop (rank ls k))):=by
 obtain⟨A,M,C,rfl,hA,hC,hM⟩:=parts h k;have hr:=rank_parts hA hC hM;have nA:lineOf A k=none:=of_none fun x hx=>ahead_ne (hA x hx);have nC:lineOf C k=none:=of_none fun x hx=>(ahead_ne (hC x hx)).symm;rcases hM with rfl|⟨p,rfl⟩
 ·right
  refine⟨?_,?_,fun q=>?_⟩
  ·unfold thereB;rw[hr,List.nil_append,List.getElem?_append_right (Nat.le_refl _),Nat.sub_self]
   cases C with
   | nil=>rfl
   | cons y r=>exact beq_false_of_ne (ahead_ne (hC y (List.mem_cons_self ..))).symm
  ·rw[of_append,of_append,nA,nC];rfl
  ·rw[put_parts q hA hC (.inl rfl),hr,List.take_left,List.drop_left];rfl
 ·left
  refine⟨?_,p,?_,?_,fun q=>?_⟩
  ·unfold thereB;rw[hr,List.getElem?_append_right (Nat.le_refl _),Nat.sub_self];exact beq_self_eq_true k
  ·rw[hr,List.getElem?_append_right (Nat.le_refl _),Nat.sub_self];rfl
  ·rw[of_append,of_append,nA];have:lineOf [(k,p)] k=some (k,p):=by unfold lineOf;rw[List.find?_cons,beq_self_eq_true]
   rw[this];rfl
  ·rw[put_parts q hA hC (.inr ⟨p,rfl⟩),hr,List.take_left]
   congr 2
   rw[List.drop_append,List.drop_of_length_le (Nat.le_succ _),Nat.add_sub_cancel_left];rfl
theorem sum_total{ls:List Ln}(h:∀x∈ls,isR x.2=true):sumL ls=rd (ls.foldr (fun x s=>valR x.2+s) 0):=by
 unfold sumL;rw[zero_rd,sum_rd _ h,Rat.zero_add]
theorem sum_one{x:Ln}(h:isR x.2=true):sumL [x]=x.2:=by
 rw[sum_total fun y hy=>List.mem_singleton.1 hy▸h];show rd (valR x.2+0)=x.2;rw[Rat.add_zero,rd_valR h]
namespace Tm
structure Nd where
 op:Int
 num:Key
 ast:List UInt8
 a:Int
 b:Int
def arN(op:Int):Option Nat:=if op<0∨12<op then none else if op≤4 then some 0 else if op=5 then some 1 else if op≤11 then some 2 else some 3
def arI(op:Int):Int:=match arN op with|some k=>(k:Int)|none=>-1
theorem arN_le{op:Int}{k:Nat}(h:arN op=some k):k≤3:=by
 unfold arN at h;split at h
 ·cases h
 ·split at h
  ·cases h;decide
  ·split at h
   ·cases h;decide
   ·split at h<;>cases h<;>decide
inductive Tr where
 | t0 (x:Nd)
 | t1 (x:Nd) (a:Tr)
 | t2 (x:Nd) (a b:Tr)
 | t3 (x:Nd) (a b c:Tr)
namespace Tr
def flat:Tr→List Nd
 | t0 x=>[x]
 | t1 x a=>a.flat++[x]
 | t2 x a b=>a.flat++(b.flat++[x])
 | t3 x a b c=>a.flat++(b.flat++(c.flat++[x]))
def wf:Tr→Prop
 | t0 x=>arN x.op=some 0
 | t1 x a=>arN x.op=some 1∧a.wf
 | t2 x a b=>arN x.op=some 2∧a.wf∧b.wf
 | t3 x a b c=>arN x.op=some 3∧a.wf∧b.wf∧c.wf
def fold{α:Type}(f:Nd→List α→α):Tr→α
 | t0 x=>f x []
 | t1 x a=>f x [a.fold f]
 | t2 x a b=>f x [a.fold f,b.fold f]
 | t3 x a b c=>f x [a.fold f,b.fold f,c.fold f]
def top:Tr→Nd
 | t0 x=>x
 | t1 x _=>x
 | t2 x _ _=>x
 | t3 x _ _ _=>x
def kids:Tr→List Tr
 | t0 _=>[]
 | t1 _ a=>[a]
 | t2 _ a b=>[a,b]
 | t3 _ a b c=>[a,b,c]
end Tr
def mkT(x:Nd):List Tr→Tr
 | []=>.t0 x
 | [a]=>.t1 x a
 | [a,b]=>.t2 x a b
 | a::b::c::_=>.t3 x a b c
theorem mkT_kids:∀t:Tr,mkT t.top t.kids=t
 | .t0 _=>rfl
 | .t1 _ _=>rfl
 | .t2 _ _ _=>rfl
 | .t3 _ _ _ _=>rfl
theorem fold_top{α:Type}(f:Nd→List α→α):∀t:Tr,t.fold f=f t.top (t.kids.map (Tr.fold f))
 | .t0 _=>rfl
 | .t1 _ _=>rfl
 | .t2 _ _ _=>rfl
 | .t3 _ _ _ _=>rfl
theorem flat_top:∀t:Tr,t.flat=(t.kids.map Tr.flat).flatten++[t.top]
 | .t0 _=>rfl
 | .t1 x a=>by simp[Tr.flat,Tr.kids,Tr.top]
 | .t2 x a b=>by simp[Tr.flat,Tr.kids,Tr.top]
 | .t3 x a b c=>by simp[Tr.flat,Tr.kids,Tr.top]
theorem flat_ne(t:Tr):t.flat≠[]:=by rw[flat_top];simp
section
variable {α : Type} (f : Nd → List α → α)
def stepS(x:Nd)(st:List α):Option (List α) :=
 match arN x.op with
 | none=>none
 | some k=>if k≤st.length then some (st.take (st.length-k)++[f x (st.drop (st.length-k))]) else none
def runS:List Nd→List α→Option (List α)
 | [],st=>some st
 | x::r,st=>(stepS f x st).bind (runS r)
theorem run_append:∀ (s t:List Nd) (st:List α),runS f (s++t) st=(runS f s st).bind (runS f t)
 | [],_,_=>rfl
 | x::s,t,st=>by
  show (stepS f x st).bind (runS f (s++t))=((stepS f x st).bind (runS f s)).bind (runS f t)
  cases h:stepS f x st with
  | none=>rfl
  | some st'=>exact run_append s t st'
theorem run_snoc(t:List Nd)(x:Nd)(st:List α):runS f (t++[x]) st=(runS f t st).bind (stepS f x):=by
 rw[run_append]
 congr 1
 funext st'
 show (stepS f x st').bind some=_
 cases stepS f x st'<;>rfl
theorem step_some{x:Nd}{k:Nat}(h:arN x.op=some k)(st l:List α)(hl:l.length=k):stepS f x (st++l)=some (st++[f x l]):=by
 unfold stepS;rw[h];dsimp only;rw[if_pos (by rw[List.length_append];omega),List.length_append,hl,Nat.add_sub_cancel,List.take_left,List.drop_left]
theorem step_inv{x:Nd}{st st':List α}(h:stepS f x st=some st'):∃k s l,arN x.op=some k∧st=s++l∧l.length=k∧st'=s++[f x l]:=by
 unfold stepS at h;split at h
 ·cases h
 ·next k hk =>
  split at h
  ·next hle =>
   refine⟨k,_,_,hk,(List.take_append_drop _ _).symm,by rw[List.length_drop];omega,(Option.some.inj h).symm⟩
  ·cases h
theorem run_flat:∀ (t:Tr) (st:List α),t.wf→runS f t.flat st=some (st++[t.fold f])
 | .t0 x,st,h=>by
  show (stepS f x st).bind some=_;have k:=step_some f h st [] rfl;rw[List.append_nil]at k;rw[k];rfl
 | .t1 x a,st,h=>by
  show runS f (a.flat++[x]) st=_;rw[run_snoc,run_flat a st h.2];exact step_some f h.1 st [_] rfl
 | .t2 x a b,st,h=>by
  show runS f (a.flat++(b.flat++[x])) st=_;rw[run_append,run_flat a st h.2.1];show runS f (b.flat++[x]) (st++[a.fold f])=_;rw[run_snoc,run_flat b _ h.2.2,List.append_assoc];exact step_some f h.1 st [_,_] rfl
 | .t3 x a b c,st,h=>by
  show runS f (a.flat++(b.flat++(c.flat++[x]))) st=_;rw[run_append,run_flat a st h.2.1];show runS f (b.flat++(c.flat++[x])) (st++[a.fold f])=_;rw[run_append,run_flat b _ h.2.2.1];show runS f (c.flat++[x]) (st++[a.fold f]++[b.fold f])=_;rw[run_snoc,run_flat c _ h.2.2.2,List.append_assoc,List.append_assoc];exact step_some f h.1 st [_,_,_] rfl
theorem fold_mk{x:Nd}:∀ {l:List Tr},l.length≤3→(mkT x l).fold f=f x (l.map (Tr.fold f))
 | [],_=>rfl
 | [_],_=>rfl
 | [_,_],_=>rfl
 | [_,_,_],_=>rfl
 | _::_::_::_::_,h=>by simp only[List.length_cons]at h;omega
end
theorem flat_mk{x:Nd}:∀ {l:List Tr},l.length≤3→(mkT x l).flat=(l.map Tr.flat).flatten++[x]
 | [],_=>rfl
 | [_],_=>by simp[mkT,Tr.flat]
 | [_,_],_=>by simp[mkT,Tr.flat]
 | [_,_,_],_=>by simp[mkT,Tr.flat]
 | _::_::_::_::_,h=>by simp only[List.length_cons]at h;omega
theorem wf_mk{x:Nd}:∀ {l:List Tr},arN x.op=some l.length→(∀s∈l,s.wf)→(mkT x l).wf
 | [],h,_=>h
 | [_],h,k=>⟨h,k _ (by simp)⟩
 | [_,_],h,k=>⟨h,k _ (by simp),k _ (by simp)⟩
 | [_,_,_],h,k=>⟨h,k _ (by simp),k _ (by simp),k _ (by simp)⟩
 | _::_::_::_::_,h,_=>by have:=arN_le h;simp only[List.length_cons]at this;omega
theorem run_inv:∀ (t:List Nd) (st st':List Tr),runS mkT t st=some st'→(∀s∈st,s.wf)→(∀s∈st',s.wf)∧(st'.map Tr.flat).flatten=(st.map Tr.flat).flatten++t
 | [],st,st',h,hw=>by cases h;exact⟨hw,by rw[List.append_nil]⟩
 | x::r,st,st',h,hw=>by
  have h:(stepS mkT x st).bind (runS mkT r)=some st':=h
  cases e:stepS mkT x st with
  | none=>rw[e]at h;cases h
  | some s1 =>
   rw[e]at h;obtain⟨k,s,l,hk,rfl,hl,rfl⟩:=step_inv mkT e;have hl3:l.length≤3:=by have:=arN_le hk;omega
   have hw1:∀u∈s++[mkT x l],u.wf:=fun u hu=>by
    rcases List.mem_append.1 hu with hu|hu
    ·exact hw u (List.mem_append_left _ hu)
    ·rw[List.mem_singleton.1 hu];exact wf_mk (by rw[hl];exact hk) fun v hv=>hw v (List.mem_append_right _ hv)
   obtain⟨a,b⟩:=run_inv r _ st' h hw1;refine⟨a,b.trans ?_⟩;rw[List.map_append,List.flatten_append,List.map_singleton,flat_mk hl3,List.map_append,List.flatten_append];simp
def treeOf(t:List Nd):Option Tr:=match runS mkT t [] with|some [tr]=>some tr|_=>none
theorem fold_self(t:Tr):t.fold mkT=t:=by
 induction t with
 | t0 x=>rfl
 | t1 x a ha=>simp[Tr.fold,mkT,ha]
 | t2 x a b ha hb=>simp[Tr.fold,mkT,ha,hb]
 | t3 x a b c ha hb hc=>simp[Tr.fold,mkT,ha,hb,hc]
theorem tree_flat{tr:Tr}(h:tr.wf):treeOf tr.flat=some tr:=by
 unfold treeOf;rw[run_flat mkT tr [] h,fold_self];rfl
theorem tree_inv{t:List Nd}{tr:Tr}(h:treeOf t=some tr):tr.wf∧tr.flat=t:=by
 unfold treeOf at h;split at h
 ·next e =>
  cases h
  obtain⟨a,b⟩:=run_inv t [] _ e (fun _ h=>by cases h);exact⟨a _ (by simp),by simpa using b⟩
 ·cases h
def formB(t:List Nd):Bool:=decide (1≤t.length)&&(decide (t.length≤2000)&&(treeOf t).isSome)
theorem form_tree{t:List Nd}(h:formB t=true):∃tr:Tr,tr.wf∧tr.flat=t∧treeOf t=some tr∧t.length≤2000:=by
 unfold formB at h;simp only[Bool.and_eq_true,decide_eq_true_eq]at h;obtain⟨tr,e⟩:=Option.isSome_iff_exists.1 h.2.2;exact⟨tr,(tree_inv e).1,(tree_inv e).2,e,h.2.1⟩
theorem form_flat{tr:Tr}(h:tr.wf)(hl:tr.flat.length≤2000):formB tr.flat=true:=by
 unfold formB;rw[tree_flat h];have:1≤tr.flat.length:=List.length_pos_iff.2 (flat_ne tr);simp[this,hl]
def astB(l:List UInt8):Bool:=isName l&&(!(l.head?==some 33)&&!(match l.head? with|some c=>isDig c|none=>false))
def okN(x:Nd):Bool :=
 if x.op=0 then (x.ast == []&&(x.a==0&&x.b==0))&&(isR x.num&&(decide ((absW x.num.1).length≤60)&&decide (x.num.2.length≤60)))
 else if x.op=1 then (x.num==([],[])&&x.b==0)&&(astB x.ast&&(decide (0≤x.a)&&decide (x.a≤9999)))
 else if 2≤x.op∧x.op≤4 then x.num==([],[])&&(astB x.ast&&(decide (0≤x.a)&&(decide (x.b≤9999)&&(decide (x.a≤x.b)&&decide (x.b-x.a<60)))))
 else (x.num==([],[])&&x.ast == [])&&(x.a==0&&x.b==0)
def decB(q:Key):Bool:=(plS q).2&&(decide ((plS q).1≤20)&&decide (0≤sgnR q))
def numH:List UInt8:=[110,117,109,40]
def numP(q:Key):List UInt8:=if decB q then prS q else numH++(q.1++44::32::(q.2++[41]))
def leafH(op:Int):List UInt8:=if op=2 then [97,118,103,40] else if op=3 then [104,105,40] else [108,111,40]
def leafP(x:Nd):List UInt8 :=
 if x.op=0 then numP x.num
 else if x.op=1 then [112,120,40]++(x.ast++44::32::(ofS x.a++[41]))
 else leafH x.op++(x.ast++44::32::(ofS x.a++44::32::(ofS x.b++[41])))
def sgnO(op:Int):UInt8:=if op=6 then 43 else if op=7 then 45 else if op=8 then 42 else 47
def fnH(op:Int):List UInt8:=if op=10 then [109,97,120,40] else if op=11 then [109,105,110,40] else [105,102,40]
def commas:List (List UInt8)→List UInt8
 | []=>[]
 | [u]=>u
 | u::r=>u++44::32::commas r
def aboveP(op:Int)(l:List (List UInt8)):List UInt8 :=
 if op=5 then 40::45::(l[0]?.getD []++[41])
 else if op≤9 then 40::(l[0]?.getD []++32::sgnO op::32::(l[1]?.getD []++[41]))
 else fnH op++(commas l++[41])
def prF(x:Nd)(l:List (List UInt8)):List UInt8:=if l=[] then leafP x else aboveP x.op l
def pr(t:Tr):List UInt8:=t.fold prF
def okT(t:Tr):Prop:=∀x∈t.flat,okN x=true
def printT(t:List Nd):List UInt8:=match treeOf t with
 | some tr=>if formB t&&t.all okN then pr tr else []
 | none=>[]
def dpF(_:Nd)(l:List Nat):Nat:=l.foldr max 0+1
def dp(t:Tr):Nat:=t.fold dpF
def depthT(t:List Nd):Nat:=match treeOf t with
 | some tr=>if formB t then dp tr else 0
 | none=>0
def argsT(t:List Nd):List (List Nd):=match treeOf t with
 | some tr=>if formB t then tr.kids.map Tr.flat else []
 | none=>[]
def plainN(op:Int):Nd:=Nd.mk op ([],[]) [] 0 0
def joinT(op:Int)(l:List (List Nd)):List Nd:=l.flatten++[plainN op]
def checkT(t:List Nd):Int:=if printT t=[]∨20000<(printT t).length∨150<depthT t then 100 else 0
def sepB:List UInt8→Bool
 | []=>true
 | c::_=>c==32||(c==41||c==44)
def ptB(c:UInt8):Bool:=isDig c||c==46
theorem sep_pt{x:List UInt8}(h:sepB x=true):∀c r,x=c::r→ptB c=false:=fun c r e=>by
 subst e;simp only[sepB,Bool.or_eq_true,beq_iff_eq]at h;rcases h with rfl|rfl|rfl<;>decide
theorem sgnR_num{q:Key}(h:isR q=true)(h0:0≤sgnR q):0≤(valR q).num:=by
 unfold sgnR sgnQ at h0;rw[if_pos h]at h0;split at h0
 ·omega
 ·omega
theorem dec_q{q:Key}(h:decB q=true):isR q=true∧(∃k,plc (valR q).den=some k∧k≤20)∧0≤(valR q).num:=by
 unfold decB at h;simp only[Bool.and_eq_true,decide_eq_true_eq]at h;obtain⟨h1,h2,h3⟩:=h;have hr:isR q=true:=by
  cases hq:isR q with
  | true=>rfl
  | false=>rw[plS_no hq]at h1;cases h1
 rw[pl_den hr]at h1 h2;refine⟨hr,?_,sgnR_num hr h3⟩
 cases hp:plc (valR q).den with
 | none=>rw[hp]at h1;cases h1
 | some k=>rw[hp]at h2;exact⟨k,rfl,by have:(k:Int)≤20:=h2;omega⟩
theorem isR_w{q:Key}(h:isR q=true):isW q.1=true∧isNat q.2=true:=by
 unfold isR at h;simp only[Bool.and_eq_true]at h;exact h.1
theorem ofS_pos{n:Int}(h:0≤n):ofS n=dig n.toNat:=by unfold ofS;rw[if_neg (by omega)]
theorem ops0{op:Int}(h:arN op=some 0):op=0∨op=1∨op=2∨op=3∨op=4:=by
 unfold arN at h;split at h
 ·cases h
 ·split at h
  ·omega
  ·split at h
   ·cases h
   ·split at h<;>cases h
theorem ops1{op:Int}(h:arN op=some 1):op=5:=by
 unfold arN at h;split at h
 ·cases h
 ·split at h
  ·cases h
  ·split at h
   ·assumption
   ·split at h<;>cases h
theorem ops2{op:Int}(h:arN op=some 2):op=6∨op=7∨op=8∨op=9∨op=10∨op=11:=by
 unfold arN at h;split at h
 ·cases h
 ·split at h
  ·cases h
  ·split at h
   ·cases h
   ·split at h
    ·omega
    ·cases h
theorem ops3{op:Int}(h:arN op=some 3):op=12:=by
 unfold arN at h;split at h
 ·cases h
 ·split at h
  ·cases h
  ·split at h
   ·cases h
   ·split at h
    ·cases h
    ·omega
theorem ok_num{x:Nd}(h:okN x=true)(ho:x.op=0):x=Nd.mk 0 x.num [] 0 0∧isR x.num=true∧(absW x.num.1).length≤60∧x.num.2.length≤60:=by
 obtain⟨op,q,s,a,b⟩:=x;dsimp only at ho;subst ho;unfold okN at h;rw[if_pos rfl]at h;simp only[Bool.and_eq_true,beq_iff_eq,decide_eq_true_eq]at h;obtain⟨⟨h1,h2,h3⟩,h4,h5,h6⟩:=h;subst h1 h2 h3;exact⟨rfl,h4,h5,h6⟩
theorem ok_px{x:Nd}(h:okN x=true)(ho:x.op=1):x=Nd.mk 1 ([],[]) x.ast x.a 0∧astB x.ast=true∧0≤x.a∧x.a≤9999:=by
 obtain⟨op,q,s,a,b⟩:=x;dsimp only at ho;subst ho;unfold okN at h;rw[if_neg (by dsimp only;omega),if_pos rfl]at h;simp only[Bool.and_eq_true,beq_iff_eq,decide_eq_true_eq]at h;obtain⟨⟨h1,h2⟩,h4,h5,h6⟩:=h;subst h1 h2;exact⟨rfl,h4,h5,h6⟩
theorem ok_avg{x:Nd}(h:okN x=true)(ho:2≤x.op∧x.op≤4):x=Nd.mk x.op ([],[]) x.ast x.a x.b∧astB x.ast=true∧0≤x.a∧x.b≤9999∧x.a≤x.b∧x.b-x.a<60:=by
 unfold okN at h;rw[if_neg (by omega),if_neg (by omega),if_pos ho]at h;simp only[Bool.and_eq_true,beq_iff_eq,decide_eq_true_eq]at h;obtain⟨h1,h4,h5,h6,h7,h8⟩:=h;obtain⟨op,q,s,a,b⟩:=x;dsimp only at *;subst h1;exact⟨rfl,h4,h5,h6,h7,h8⟩
theorem ok_more{x:Nd}(h:okN x=true)(ho:x.op<0∨5≤x.op):x=plainN x.op:=by
 unfold okN at h;rw[if_neg (by omega),if_neg (by omega),if_neg (by omega)]at h;simp only[Bool.and_eq_true,beq_iff_eq]at h;obtain⟨⟨h1,h2⟩,h3,h4⟩:=h;obtain⟨op,q,s,a,b⟩:=x;dsimp only at *;subst h1 h2 h3 h4
 rfl
def kl(x:Nd):Nat:=if x.op=0 then (if decB x.num then 0 else 13) else x.op.toNat
end Tm
end Go.Proofs.YtghioekjghmdaaaGreatDoor
