/- Own work. -/
import Derived.Test.YtghioekjghmdaaaGreatDoorPostNumM
set_option linter.unusedSimpArgs false
set_option linter.unusedVariables false
namespace Go.Proofs.YtghioekjghmdaaaGreatDoor
namespace Tm
structure Nd where
 op:Int
 num:Key
 ast:List UInt8
 a:Int
 b:Int
def arN(op:Int):Option Nat:=if op<0∨12<op then none else if op≤4 then some 0 else if op=5 then some 1 else if op≤11 then some 2 else some 3
def arI(op:Int):Int:=match arN op with|some k=>(k:Int)|none=>-1
theorem arN_le{op:Int}{k:Nat}(h:arN op=some k):k≤3:=by
 unfold arN at h;split at h
 ·cases h
 ·split at h
  ·cases h;decide
  ·split at h
   ·cases h;decide
   ·split at h<;>cases h<;>decide
inductive Tr where
 | t0 (x:Nd)
 | t1 (x:Nd) (a:Tr)
 | t2 (x:Nd) (a b:Tr)
 | t3 (x:Nd) (a b c:Tr)
namespace Tr
def flat:Tr→List Nd
 | t0 x=>[x]
 | t1 x a=>a.flat++[x]
 | t2 x a b=>a.flat++(b.flat++[x])
 | t3 x a b c=>a.flat++(b.flat++(c.flat++[x]))
def wf:Tr→Prop
 | t0 x=>arN x.op=some 0
 | t1 x a=>arN x.op=some 1∧a.wf
 | t2 x a b=>arN x.op=some 2∧a.wf∧b.wf
 | t3 x a b c=>arN x.op=some 3∧a.wf∧b.wf∧c.wf
def fold{α:Type}(f:Nd→List α→α):Tr→α
 | t0 x=>f x []
 | t1 x a=>f x [a.fold f]
 | t2 x a b=>f x [a.fold f,b.fold f]
 | t3 x a b c=>f x [a.fold f,b.fold f,c.fold f]
def top:Tr→Nd
 | t0 x=>x
 | t1 x _=>x
 | t2 x _ _=>x
 | t3 x _ _ _=>x
def kids:Tr→List Tr
 | t0 _=>[]
 | t1 _ a=>[a]
 | t2 _ a b=>[a,b]
 | t3 _ a b c=>[a,b,c]
end Tr
def mkT(x:Nd):List Tr→Tr
 | []=>.t0 x
 | [a]=>.t1 x a
 | [a,b]=>.t2 x a b
 | a::b::c::_=>.t3 x a b c
theorem mkT_kids:∀t:Tr,mkT t.top t.kids=t
 | .t0 _=>rfl
 | .t1 _ _=>rfl
 | .t2 _ _ _=>rfl
 | .t3 _ _ _ _=>rfl
theorem fold_top{α:Type}(f:Nd→List α→α):∀t:Tr,t.fold f=f t.top (t.kids.map (Tr.fold f))
 | .t0 _=>rfl
 | .t1 _ _=>rfl
 | .t2 _ _ _=>rfl
 | .t3 _ _ _ _=>rfl
theorem flat_top:∀t:Tr,t.flat=(t.kids.map Tr.flat).flatten++[t.top]
 | .t0 _=>rfl
 | .t1 x a=>by simp[Tr.flat,Tr.kids,Tr.top]
 | .t2 x a b=>by simp[Tr.flat,Tr.kids,Tr.top]
 | .t3 x a b c=>by simp[Tr.flat,Tr.kids,Tr.top]
theorem flat_ne(t:Tr):t.flat≠[]:=by rw[flat_top];simp
section
variable {α : Type} (f : Nd → List α → α)
def stepS(x:Nd)(st:List α):Option (List α) :=
 match arN x.op with
 | none=>none
 | some k=>if k≤st.length then some (st.take (st.length-k)++[f x (st.drop (st.length-k))]) else none
def runS:List Nd→List α→Option (List α)
 | [],st=>some st
 | x::r,st=>(stepS f x st).bind (runS r)
theorem run_append:∀ (s t:List Nd) (st:List α),runS f (s++t) st=(runS f s st).bind (runS f t)
 | [],_,_=>rfl
 | x::s,t,st=>by
  show (stepS f x st).bind (runS f (s++t))=((stepS f x st).bind (runS f s)).bind (runS f t)
  cases h:stepS f x st with
  | none=>rfl
  | some st'=>exact run_append s t st'
theorem run_snoc(t:List Nd)(x:Nd)(st:List α):runS f (t++[x]) st=(runS f t st).bind (stepS f x):=by
 rw[run_append]
 congr 1
 funext st'
 show (stepS f x st').bind some=_
 cases stepS f x st'<;>rfl
theorem step_some{x:Nd}{k:Nat}(h:arN x.op=some k)(st l:List α)(hl:l.length=k):stepS f x (st++l)=some (st++[f x l]):=by
 unfold stepS;rw[h];dsimp only;rw[if_pos (by rw[List.length_append];omega),List.length_append,hl,Nat.add_sub_cancel,List.take_left,List.drop_left]
theorem step_inv{x:Nd}{st st':List α}(h:stepS f x st=some st'):∃k s l,arN x.op=some k∧st=s++l∧l.length=k∧st'=s++[f x l]:=by
 unfold stepS at h;split at h
 ·cases h
 ·next k hk =>
  split at h
  ·next hle =>
   refine⟨k,_,_,hk,(List.take_append_drop _ _).symm,by rw[List.length_drop];omega,(Option.some.inj h).symm⟩
  ·cases h
theorem run_flat:∀ (t:Tr) (st:List α),t.wf→runS f t.flat st=some (st++[t.fold f])
 | .t0 x,st,h=>by
  show (stepS f x st).bind some=_;have k:=step_some f h st [] rfl;rw[List.append_nil]at k;rw[k];rfl
 | .t1 x a,st,h=>by
  show runS f (a.flat++[x]) st=_;rw[run_snoc,run_flat a st h.2];exact step_some f h.1 st [_] rfl
 | .t2 x a b,st,h=>by
  show runS f (a.flat++(b.flat++[x])) st=_;rw[run_append,run_flat a st h.2.1];show runS f (b.flat++[x]) (st++[a.fold f])=_;rw[run_snoc,run_flat b _ h.2.2,List.append_assoc];exact step_some f h.1 st [_,_] rfl
 | .t3 x a b c,st,h=>by
  show runS f (a.flat++(b.flat++(c.flat++[x]))) st=_;rw[run_append,run_flat a st h.2.1];show runS f (b.flat++(c.flat++[x])) (st++[a.fold f])=_;rw[run_append,run_flat b _ h.2.2.1];show runS f (c.flat++[x]) (st++[a.fold f]++[b.fold f])=_;rw[run_snoc,run_flat c _ h.2.2.2,List.append_assoc,List.append_assoc];exact step_some f h.1 st [_,_,_] rfl
theorem fold_mk{x:Nd}:∀ {l:List Tr},l.length≤3→(mkT x l).fold f=f x (l.map (Tr.fold f))
 | [],_=>rfl
 | [_],_=>rfl
 | [_,_],_=>rfl
 | [_,_,_],_=>rfl
 | _::_::_::_::_,h=>by simp only[List.length_cons]at h;omega
end
theorem flat_mk{x:Nd}:∀ {l:List Tr},l.length≤3→(mkT x l).flat=(l.map Tr.flat).flatten++[x]
 | [],_=>rfl
 | [_],_=>by simp[mkT,Tr.flat]
 | [_,_],_=>by simp[mkT,Tr.flat]
 | [_,_,_],_=>by simp[mkT,Tr.flat]
 | _::_::_::_::_,h=>by simp only[List.length_cons]at h;omega
theorem wf_mk{x:Nd}:∀ {l:List Tr},arN x.op=some l.length→(∀s∈l,s.wf)→(mkT x l).wf
 | [],h,_=>h
 | [_],h,k=>⟨h,k _ (by simp)⟩
 | [_,_],h,k=>⟨h,k _ (by simp),k _ (by simp)⟩
 | [_,_,_],h,k=>⟨h,k _ (by simp),k _ (by simp),k _ (by simp)⟩
 | _::_::_::_::_,h,_=>by have:=arN_le h;simp only[List.length_cons]at this;omega
theorem run_inv:∀ (t:List Nd) (st st':List Tr),runS mkT t st=some st'→(∀s∈st,s.wf)→(∀s∈st',s.wf)∧(st'.map Tr.flat).flatten=(st.map Tr.flat).flatten++t
 | [],st,st',h,hw=>by cases h;exact⟨hw,by rw[List.append_nil]⟩
 | x::r,st,st',h,hw=>by
  have h:(stepS mkT x st).bind (runS mkT r)=some st':=h
  cases e:stepS mkT x st with
  | none=>rw[e]at h;cases h
  | some s1 =>
   rw[e]at h;obtain⟨k,s,l,hk,rfl,hl,rfl⟩:=step_inv mkT e;have hl3:l.length≤3:=by have:=arN_le hk;omega
   have hw1:∀u∈s++[mkT x l],u.wf:=fun u hu=>by
    rcases List.mem_append.1 hu with hu|hu
    ·exact hw u (List.mem_append_left _ hu)
    ·rw[List.mem_singleton.1 hu];exact wf_mk (by rw[hl];exact hk) fun v hv=>hw v (List.mem_append_right _ hv)
   obtain⟨a,b⟩:=run_inv r _ st' h hw1;refine⟨a,b.trans ?_⟩;rw[List.map_append,List.flatten_append,List.map_singleton,flat_mk hl3,List.map_append,List.flatten_append];simp
def treeOf(t:List Nd):Option Tr:=match runS mkT t [] with|some [tr]=>some tr|_=>none
theorem fold_self(t:Tr):t.fold mkT=t:=by
 induction t with
 | t0 x=>rfl
 | t1 x a ha=>simp[Tr.fold,mkT,ha]
 | t2 x a b ha hb=>simp[Tr.fold,mkT,ha,hb]
 | t3 x a b c ha hb hc=>simp[Tr.fold,mkT,ha,hb,hc]
theorem tree_flat{tr:Tr}(h:tr.wf):treeOf tr.flat=some tr:=by
 unfold treeOf;rw[run_flat mkT tr [] h,fold_self];rfl
theorem tree_inv{t:List Nd}{tr:Tr}(h:treeOf t=some tr):tr.wf∧tr.flat=t:=by
 unfold treeOf at h;split at h
 ·next e =>
  cases h
  obtain⟨a,b⟩:=run_inv t [] _ e (fun _ h=>by cases h);exact⟨a _ (by simp),by simpa using b⟩
 ·cases h
def formB(t:List Nd):Bool:=decide (1≤t.length)&&(decide (t.length≤2000)&&(treeOf t).isSome)
theorem form_tree{t:List Nd}(h:formB t=true):∃tr:Tr,tr.wf∧tr.flat=t∧treeOf t=some tr∧t.length≤2000:=by
 unfold formB at h;simp only[Bool.and_eq_true,decide_eq_true_eq]at h;obtain⟨tr,e⟩:=Option.isSome_iff_exists.1 h.2.2;exact⟨tr,(tree_inv e).1,(tree_inv e).2,e,h.2.1⟩
theorem form_flat{tr:Tr}(h:tr.wf)(hl:tr.flat.length≤2000):formB tr.flat=true:=by
 unfold formB;rw[tree_flat h];have:1≤tr.flat.length:=List.length_pos_iff.2 (flat_ne tr);simp[this,hl]
def astB(l:List UInt8):Bool:=isName l&&(!(l.head?==some 33)&&!(match l.head? with|some c=>isDig c|none=>false))
def okN(x:Nd):Bool :=
 if x.op=0 then (x.ast == []&&(x.a==0&&x.b==0))&&(isR x.num&&(decide ((absW x.num.1).length≤60)&&decide (x.num.2.length≤60)))
 else if x.op=1 then (x.num==([],[])&&x.b==0)&&(astB x.ast&&(decide (0≤x.a)&&decide (x.a≤9999)))
 else if 2≤x.op∧x.op≤4 then x.num==([],[])&&(astB x.ast&&(decide (0≤x.a)&&(decide (x.b≤9999)&&(decide (x.a≤x.b)&&decide (x.b-x.a<60)))))
 else (x.num==([],[])&&x.ast == [])&&(x.a==0&&x.b==0)
def decB(q:Key):Bool:=(plS q).2&&(decide ((plS q).1≤20)&&decide (0≤sgnR q))
def numH:List UInt8:=[110,117,109,40]
def numP(q:Key):List UInt8:=if decB q then prS q else numH++(q.1++44::32::(q.2++[41]))
def leafH(op:Int):List UInt8:=if op=2 then [97,118,103,40] else if op=3 then [104,105,40] else [108,111,40]
def leafP(x:Nd):List UInt8 :=
 if x.op=0 then numP x.num
 else if x.op=1 then [112,120,40]++(x.ast++44::32::(ofS x.a++[41]))
 else leafH x.op++(x.ast++44::32::(ofS x.a++44::32::(ofS x.b++[41])))
def sgnO(op:Int):UInt8:=if op=6 then 43 else if op=7 then 45 else if op=8 then 42 else 47
def fnH(op:Int):List UInt8:=if op=10 then [109,97,120,40] else if op=11 then [109,105,110,40] else [105,102,40]
def commas:List (List UInt8)→List UInt8
 | []=>[]
 | [u]=>u
 | u::r=>u++44::32::commas r
def aboveP(op:Int)(l:List (List UInt8)):List UInt8 :=
 if op=5 then 40::45::(l[0]?.getD []++[41])
 else if op≤9 then 40::(l[0]?.getD []++32::sgnO op::32::(l[1]?.getD []++[41]))
 else fnH op++(commas l++[41])
def prF(x:Nd)(l:List (List UInt8)):List UInt8:=if l=[] then leafP x else aboveP x.op l
def pr(t:Tr):List UInt8:=t.fold prF
def okT(t:Tr):Prop:=∀x∈t.flat,okN x=true
def printT(t:List Nd):List UInt8:=match treeOf t with
 | some tr=>if formB t&&t.all okN then pr tr else []
 | none=>[]
def dpF(_:Nd)(l:List Nat):Nat:=l.foldr max 0+1
def dp(t:Tr):Nat:=t.fold dpF
def depthT(t:List Nd):Nat:=match treeOf t with
 | some tr=>if formB t then dp tr else 0
 | none=>0
def argsT(t:List Nd):List (List Nd):=match treeOf t with
 | some tr=>if formB t then tr.kids.map Tr.flat else []
 | none=>[]
def plainN(op:Int):Nd:=Nd.mk op ([],[]) [] 0 0
def joinT(op:Int)(l:List (List Nd)):List Nd:=l.flatten++[plainN op]
def checkT(t:List Nd):Int:=if printT t=[]∨20000<(printT t).length∨150<depthT t then 100 else 0
def sepB:List UInt8→Bool
 | []=>true
 | c::_=>c==32||(c==41||c==44)
def ptB(c:UInt8):Bool:=isDig c||c==46
theorem sep_pt{x:List UInt8}(h:sepB x=true):∀c r,x=c::r→ptB c=false:=fun c r e=>by
 subst e;simp only[sepB,Bool.or_eq_true,beq_iff_eq]at h;rcases h with rfl|rfl|rfl<;>decide
theorem dig_pt(n:Nat):∀c∈dig n,isDig c=true:=fun c hc=>List.all_eq_true.1 (dig_all n) c hc
theorem prD_pt{q:Rat}{k:Nat}(h:plc q.den=some k)(h0:0≤q.num):∀c∈prD q,ptB c=true:=by
 rw[prD_body h,show decide (q.num<0)=false from decide_eq_false (by omega)];show ∀c∈bodyD k _,ptB c=true;have hd:∀n:Nat,∀c∈dig n,ptB c=true:=fun n c hc=>by unfold ptB;rw[dig_pt n c hc];rfl
 unfold bodyD;split
 ·exact hd _
 ·unfold ptD padD;have key:∀c∈List.replicate (k+1-(dig (q.num.natAbs*(10 ^ k / q.den))).length) (48:UInt8)++dig (q.num.natAbs*(10 ^ k / q.den)),ptB c=true:=fun c hc=>by
   rcases List.mem_append.1 hc with h|h
   ·rw[(List.mem_replicate.1 h).2];decide
   ·exact hd _ c h
  intro c hc;rcases List.mem_append.1 hc with h|h
  ·exact key c (List.mem_of_mem_take h)
  ·rcases List.mem_cons.1 h with rfl|h
   ·decide
   ·exact key c (List.mem_of_mem_drop h)
theorem sgnR_num{q:Key}(h:isR q=true)(h0:0≤sgnR q):0≤(valR q).num:=by
 unfold sgnR sgnQ at h0;rw[if_pos h]at h0;split at h0
 ·omega
 ·omega
theorem dec_q{q:Key}(h:decB q=true):isR q=true∧(∃k,plc (valR q).den=some k∧k≤20)∧0≤(valR q).num:=by
 unfold decB at h;simp only[Bool.and_eq_true,decide_eq_true_eq]at h;obtain⟨h1,h2,h3⟩:=h;have hr:isR q=true:=by
  cases hq:isR q with
  | true=>rfl
  | false=>rw[plS_no hq]at h1;cases h1
 rw[pl_den hr]at h1 h2;refine⟨hr,?_,sgnR_num hr h3⟩
 cases hp:plc (valR q).den with
 | none=>rw[hp]at h1;cases h1
 | some k=>rw[hp]at h2;exact⟨k,rfl,by have:(k:Int)≤20:=h2;omega⟩
theorem dec_pt{q:Key}(h:decB q=true):(∀c∈prS q,ptB c=true)∧prS q≠[]:=by
 obtain⟨hr,⟨k,hk,_⟩,h0⟩:=dec_q h;rw[prS_yes hr];refine⟨prD_pt hk h0,fun e=>?_⟩;have k1:=back_u (valR q);rw[e]at k1
 cases k1
theorem isR_w{q:Key}(h:isR q=true):isW q.1=true∧isNat q.2=true:=by
 unfold isR at h;simp only[Bool.and_eq_true]at h;exact h.1
theorem ofS_pos{n:Int}(h:0≤n):ofS n=dig n.toNat:=by unfold ofS;rw[if_neg (by omega)]
theorem ops0{op:Int}(h:arN op=some 0):op=0∨op=1∨op=2∨op=3∨op=4:=by
 unfold arN at h;split at h
 ·cases h
 ·split at h
  ·omega
  ·split at h
   ·cases h
   ·split at h<;>cases h
theorem ops1{op:Int}(h:arN op=some 1):op=5:=by
 unfold arN at h;split at h
 ·cases h
 ·split at h
  ·cases h
  ·split at h
   ·assumption
   ·split at h<;>cases h
theorem ops2{op:Int}(h:arN op=some 2):op=6∨op=7∨op=8∨op=9∨op=10∨op=11:=by
 unfold arN at h;split at h
 ·cases h
 ·split at h
  ·cases h
  ·split at h
   ·cases h
   ·split at h
    ·omega
    ·cases h
theorem ops3{op:Int}(h:arN op=some 3):op=12:=by
 unfold arN at h;split at h
 ·cases h
 ·split at h
  ·cases h
  ·split at h
   ·cases h
   ·split at h
    ·cases h
    ·omega
theorem ok_num{x:Nd}(h:okN x=true)(ho:x.op=0):x=Nd.mk 0 x.num [] 0 0∧isR x.num=true∧(absW x.num.1).length≤60∧x.num.2.length≤60:=by
 obtain⟨op,q,s,a,b⟩:=x;dsimp only at ho;subst ho;unfold okN at h;rw[if_pos rfl]at h;simp only[Bool.and_eq_true,beq_iff_eq,decide_eq_true_eq]at h;obtain⟨⟨h1,h2,h3⟩,h4,h5,h6⟩:=h;subst h1 h2 h3;exact⟨rfl,h4,h5,h6⟩
theorem ok_px{x:Nd}(h:okN x=true)(ho:x.op=1):x=Nd.mk 1 ([],[]) x.ast x.a 0∧astB x.ast=true∧0≤x.a∧x.a≤9999:=by
 obtain⟨op,q,s,a,b⟩:=x;dsimp only at ho;subst ho;unfold okN at h;rw[if_neg (by dsimp only;omega),if_pos rfl]at h;simp only[Bool.and_eq_true,beq_iff_eq,decide_eq_true_eq]at h;obtain⟨⟨h1,h2⟩,h4,h5,h6⟩:=h;subst h1 h2;exact⟨rfl,h4,h5,h6⟩
theorem ok_avg{x:Nd}(h:okN x=true)(ho:2≤x.op∧x.op≤4):x=Nd.mk x.op ([],[]) x.ast x.a x.b∧astB x.ast=true∧0≤x.a∧x.b≤9999∧x.a≤x.b∧x.b-x.a<60:=by
 unfold okN at h;rw[if_neg (by omega),if_neg (by omega),if_pos ho]at h;simp only[Bool.and_eq_true,beq_iff_eq,decide_eq_true_eq]at h;obtain⟨h1,h4,h5,h6,h7,h8⟩:=h;obtain⟨op,q,s,a,b⟩:=x;dsimp only at *;subst h1;exact⟨rfl,h4,h5,h6,h7,h8⟩
theorem ok_more{x:Nd}(h:okN x=true)(ho:x.op<0∨5≤x.op):x=plainN x.op:=by
 unfold okN at h;rw[if_neg (by omega),if_neg (by omega),if_neg (by omega)]at h;simp only[Bool.and_eq_true,beq_iff_eq]at h;obtain⟨⟨h1,h2⟩,h3,h4⟩:=h;obtain⟨op,q,s,a,b⟩:=x;dsimp only at *;subst h1 h2 h3 h4
 rfl
def kl(x:Nd):Nat:=if x.op=0 then (if decB x.num then 0 else 13) else x.op.toNat
end Tm
end Go.Proofs.YtghioekjghmdaaaGreatDoor
namespace Go.Proofs.YtghioekjghmdaaaGreatDoor
namespace Tm
theorem pr0(x:Nd):pr (.t0 x)=leafP x:=rfl
theorem pr1{x:Nd}{a:Tr}(h:x.op=5):pr (.t1 x a)=40::45::(pr a++[41]):=by
 show aboveP x.op [pr a]=_;unfold aboveP;rw[if_pos h];rfl
theorem pr2{x:Nd}{a b:Tr}(h:6≤x.op)(h':x.op≤9):pr (.t2 x a b)=40::(pr a++32::sgnO x.op::32::(pr b++[41])):=by
 show aboveP x.op [pr a,pr b]=_;unfold aboveP;rw[if_neg (by omega),if_pos h'];rfl
theorem pr2f{x:Nd}{a b:Tr}(h:9<x.op):pr (.t2 x a b)=fnH x.op++((pr a++44::32::pr b)++[41]):=by
 show aboveP x.op [pr a,pr b]=_;unfold aboveP;rw[if_neg (by omega),if_neg (by omega)];rfl
theorem pr3{x:Nd}{a b c:Tr}(h:x.op=12):pr (.t3 x a b c)=[105,102,40]++((pr a++44::32::(pr b++44::32::pr c))++[41]):=by
 show aboveP x.op [pr a,pr b,pr c]=_;unfold aboveP;rw[if_neg (by omega),if_neg (by omega),h];rfl
theorem leaf_head{x:Nd}(h:okN x=true)(ho:arN x.op=some 0):∃c r,leafP x=c::r∧c≠45:=by
 rcases ops0 ho with e|e|e|e|e
 ·unfold leafP numP;rw[if_pos e]
  cases hd:decB x.num with
  | true =>
   obtain⟨h1,h2⟩:=dec_pt hd;rw[if_pos rfl]
   cases hp:prS x.num with
   | nil=>exact absurd hp h2
   | cons c r=>exact⟨c,r,rfl,fun k=>by have:=h1 c (by rw[hp];exact List.mem_cons_self ..);rw[k]at this;cases this⟩
  | false=>rw[if_neg (by decide)];exact⟨_,_,rfl,by decide⟩
 ·unfold leafP;rw[if_neg (by omega),if_pos e];exact⟨_,_,rfl,by decide⟩
 ·unfold leafP leafH;rw[if_neg (by omega),if_neg (by omega),if_pos e];exact⟨_,_,rfl,by decide⟩
 ·unfold leafP leafH;rw[if_neg (by omega),if_neg (by omega),if_neg (by omega),if_pos e];exact⟨_,_,rfl,by decide⟩
 ·unfold leafP leafH;rw[if_neg (by omega),if_neg (by omega),if_neg (by omega),if_neg (by omega)];exact⟨_,_,rfl,by decide⟩
theorem ok_t0{x:Nd}(h:okT (.t0 x)):okN x=true:=h x (by simp[Tr.flat])
theorem ok_t1{x:Nd}{a:Tr}(h:okT (.t1 x a)):okN x=true∧okT a:=⟨h x (by simp[Tr.flat]),fun y hy=>h y (by simp[Tr.flat,hy])⟩
theorem ok_t2{x:Nd}{a b:Tr}(h:okT (.t2 x a b)):okN x=true∧okT a∧okT b:=⟨h x (by simp[Tr.flat]),fun y hy=>h y (by simp[Tr.flat,hy]),fun y hy=>h y (by simp[Tr.flat,hy])⟩
theorem ok_t3{x:Nd}{a b c:Tr}(h:okT (.t3 x a b c)):okN x=true∧okT a∧okT b∧okT c:=⟨h x (by simp[Tr.flat]),fun y hy=>h y (by simp[Tr.flat,hy]),fun y hy=>h y (by simp[Tr.flat,hy]),fun y hy=>h y (by simp[Tr.flat,hy])⟩
theorem pr_head:∀ {t:Tr},t.wf→okT t→∃c r,pr t=c::r∧c≠45
 | .t0 x,hw,ho=>leaf_head (ok_t0 ho) hw
 | .t1 x a,hw,ho=>by rw[pr1 (ops1 hw.1)];exact⟨_,_,rfl,by decide⟩
 | .t2 x a b,hw,ho=>by
  have ho2:=ops2 hw.1;by_cases h:x.op≤9
  ·rw[pr2 (by omega) h];exact⟨_,_,rfl,by decide⟩
  ·rw[pr2f (by omega)];unfold fnH;rcases ho2 with e|e|e|e|e|e
   ·omega
   ·omega
   ·omega
   ·omega
   ·rw[if_pos e];exact⟨_,_,rfl,by decide⟩
   ·rw[if_neg (by omega),if_pos e];exact⟨_,_,rfl,by decide⟩
 | .t3 x a b c,hw,ho=>by rw[pr3 (ops3 hw.1)];exact⟨_,_,rfl,by decide⟩
theorem pr_ne{t:Tr}(hw:t.wf)(ho:okT t):pr t≠[]:=by obtain⟨c,r,e,_⟩:=pr_head hw ho;rw[e];exact fun k=>by cases k
theorem top_eq{x y:Nd}(hx:okN x=true)(hy:okN y=true)(h:x.op=y.op)(h5:5≤x.op):x=y:=by
 rw[ok_more hx (.inr h5),ok_more hy (.inr (h▸h5)),h]
end Tm
namespace Tm
def fl(st:List Tr):Nat:=((st.map Tr.flat).flatten).length
theorem fl_append(s t:List Tr):fl (s++t)=fl s+fl t:=by unfold fl;rw[List.map_append,List.flatten_append,List.length_append]
theorem fl_one(t:Tr):fl [t]=t.flat.length:=by unfold fl;simp
theorem len_fl:∀st:List Tr,st.length≤fl st
 | []=>Nat.le_refl _
 | t::r=>by
  have:=len_fl r;have h:1≤t.flat.length:=List.length_pos_iff.2 (flat_ne t);have e:fl (t::r)=fl [t]+fl r:=fl_append [t] r;rw[e,fl_one,List.length_cons];omega
def bgs(st:List Tr):List Int:=(List.range st.length).map fun j=>((fl (st.take j):Nat):Int)
theorem bgs_len(st:List Tr):(bgs st).length=st.length:=by unfold bgs;rw[List.length_map,List.length_range]
theorem bgs_get{st:List Tr}{j:Nat}(h:j<st.length):(bgs st)[j]?=some ((fl (st.take j):Nat):Int):=by
 unfold bgs;rw[List.getElem?_map,List.getElem?_range h];rfl
theorem bgs_take(st:List Tr)(m:Nat)(h:m≤st.length):(bgs st).take m=bgs (st.take m):=by
 unfold bgs;rw[←List.map_take,List.take_range,List.length_take,Nat.min_eq_left h];refine List.map_congr_left fun j hj=>?_;have:=List.mem_range.1 hj;rw[List.take_take,Nat.min_eq_left (by omega)]
theorem bgs_snoc(st:List Tr)(t:Tr):bgs (st++[t])=bgs st++[((fl st:Nat):Int)]:=by
 unfold bgs;rw[List.length_append,List.length_singleton,List.range_succ,List.map_append,List.map_singleton]
 congr 1
 ·refine List.map_congr_left fun j hj=>?_;have:=List.mem_range.1 hj;rw[List.take_append_of_le_length (by omega)]
 ·rw[List.take_left]
def stk(t:List Nd)(i:Nat):Option (List Tr):=runS mkT (t.take i) []
theorem stk_next{t:List Nd}{i:Nat}{x:Nd}(h:t[i]?=some x):stk t (i+1)=(stk t i).bind (stepS mkT x):=by
 unfold stk;rw[List.take_add_one,h];exact run_snoc mkT _ x _
theorem stk_flat{t:List Nd}{i:Nat}{st:List Tr}(h:stk t i=some st):(st.map Tr.flat).flatten=t.take i∧∀s∈st,s.wf:=by
 obtain⟨a,b⟩:=run_inv (t.take i) [] st h (fun _ h=>by cases h);exact⟨by simpa using b,a⟩
theorem stk_fl{t:List Nd}{i:Nat}{st:List Tr}(h:stk t i=some st)(hi:i≤t.length):fl st=i:=by
 unfold fl;rw[(stk_flat h).1,List.length_take,Nat.min_eq_left hi]
theorem stk_none{t:List Nd}{i:Nat}(h:stk t i=none):treeOf t=none:=by
 unfold treeOf;have:runS mkT t []=none:=by
  rw[←List.take_append_drop i t,run_append];have h:runS mkT (t.take i) []=none:=h;rw[h];rfl
 rw[this]
theorem form_no{t:List Nd}(h:treeOf t=none):formB t=false:=by unfold formB;rw[h];simp
def bgA(t:List Nd)(i:Nat):Nat:=match stk t (i+1) with
 | some st=>fl st.dropLast
 | none=>0
def begT(t:List Nd)(i:Nat):List Int:=(List.range i).map fun j=>((bgA t j:Nat):Int)
theorem begT_len(t:List Nd)(i:Nat):(begT t i).length=i:=by unfold begT;rw[List.length_map,List.length_range]
theorem begT_next(t:List Nd)(i:Nat):begT t (i+1)=begT t i++[((bgA t i:Nat):Int)]:=by unfold begT;rw[List.range_succ,List.map_append];rfl
theorem step_yes{t:List Nd}{i k:Nat}{x:Nd}{st:List Tr}(hi:i≤t.length)(hx:t[i]?=some x)(hs:stk t i=some st)(hk:arN x.op=some k)(hl:k≤st.length) :
  ∃u,stk t (i+1)=some (st.take (st.length-k)++[u])∧bgs (st.take (st.length-k)++[u])=(bgs st).take (st.length-k)++[((bgA t i:Nat):Int)]∧bgA t i=fl (st.take (st.length-k))∧(k=0→bgA t i=i):=by
 have e:stk t (i+1)=some (st.take (st.length-k)++[mkT x (st.drop (st.length-k))]):=by
  rw[stk_next hx,hs];show stepS mkT x st=_;unfold stepS;rw[hk];dsimp only;rw[if_pos hl]
 have eb:bgA t i=fl (st.take (st.length-k)):=by
  unfold bgA;rw[e];dsimp only;rw[List.dropLast_concat]
 refine⟨_,e,?_,eb,fun h0=>?_⟩
 ·rw[bgs_snoc,← bgs_take _ _ (by omega),eb]
 ·subst h0;rw[eb,Nat.sub_zero,List.take_length];exact stk_fl hs hi
theorem step_no{t:List Nd}{i:Nat}{x:Nd}{st:List Tr}(hx:t[i]?=some x)(hs:stk t i=some st)(h:arN x.op=none∨∃k,arN x.op=some k∧¬k≤st.length):formB t=false:=by
 refine form_no (stk_none (i:=i+1) ?_);rw[stk_next hx,hs];show stepS mkT x st=none;unfold stepS;rcases h with h|⟨k,h,hl⟩
 ·rw[h]
 ·rw[h];dsimp only;rw[if_neg hl]
theorem form_end{t:List Nd}{st:List Tr}(h:stk t t.length=some st)(h1:1≤t.length)(h2:t.length≤2000):formB t=(st.length==1):=by
 have h:runS mkT t []=some st:=by unfold stk at h;rwa[List.take_length]at h
 unfold formB treeOf;rw[h,decide_eq_true h1,decide_eq_true h2]
 match st with
 | []=>rfl
 | [_]=>rfl
 | _::_::_=>rfl
theorem form_len{t:List Nd}(h:t.length<1∨2000<t.length):formB t=false:=by
 unfold formB;rcases h with h|h
 ·rw[decide_eq_false (by omega)];rfl
 ·rw[decide_eq_false (show ¬t.length≤2000 by omega),Bool.false_and,Bool.and_false]
theorem form_step{t:List Nd}(h:formB t=true){i:Nat}{x:Nd}{st:List Tr}(hx:t[i]?=some x)(hs:stk t i=some st):∃m,arN x.op=some m∧m≤st.length:=by
 cases ha:arN x.op with
 | none=>rw[step_no hx hs (.inl ha)]at h;cases h
 | some m =>
  by_cases hm:m≤st.length
  ·exact⟨m,rfl,hm⟩
  ·rw[step_no hx hs (.inr ⟨m,ha,hm⟩)]at h;cases h
theorem step_mk{t:List Nd}{i k:Nat}{x:Nd}{st:List Tr}(hx:t[i]?=some x)(hs:stk t i=some st)(hk:arN x.op=some k)(hl:k≤st.length) :
  stk t (i+1)=some (st.take (st.length-k)++[mkT x (st.drop (st.length-k))]):=by
 rw[stk_next hx,hs];show stepS mkT x st=_;unfold stepS;rw[hk];dsimp only;rw[if_pos hl]
theorem form_stk{t:List Nd}(h:formB t=true):∃tr:Tr,stk t t.length=some [tr]∧treeOf t=some tr∧tr.wf∧tr.flat=t∧1≤t.length∧t.length≤2000:=by
 obtain⟨tr,h1,h2,h3,h4⟩:=form_tree h;refine⟨tr,?_,h3,h1,h2,?_,h4⟩
 ·unfold stk;rw[List.take_length];unfold treeOf at h3;split at h3
  ·next e=>rw[e];cases h3;rfl
  ·cases h3
 ·rw[←h2];exact List.length_pos_iff.2 (flat_ne tr)
def mx(l:List Nat):Nat:=l.foldr max 0
theorem mx_snoc(l:List Nat)(a:Nat):mx (l++[a])=max (mx l) a:=by
 induction l with
 | nil=>show max a 0=max 0 a;omega
 | cons b r ih=>show max b (mx (r++[a]))=max (max b (mx r)) a;rw[ih];omega
theorem mx_le{l:List Nat}{n:Nat}(h:∀a∈l,a≤n):mx l≤n:=by
 induction l with
 | nil=>exact Nat.zero_le _
 | cons b r ih =>
  have a:=h b (List.mem_cons_self ..);have c:=ih fun a ha=>h a (List.mem_cons_of_mem _ ha);show max b (mx r)≤n;omega
theorem dp_le:∀t:Tr,dp t≤t.flat.length
 | .t0 x=>Nat.le_refl _
 | .t1 x a=>by
  have:=dp_le a;show max (dp a) 0+1≤(a.flat++[x]).length;simp only[List.length_append,List.length_singleton];omega
 | .t2 x a b=>by
  have:=dp_le a;have:=dp_le b
  show max (dp a) (max (dp b) 0)+1≤(a.flat++(b.flat++[x])).length;simp only[List.length_append,List.length_singleton];omega
 | .t3 x a b c=>by
  have:=dp_le a;have:=dp_le b;have:=dp_le c
  show max (dp a) (max (dp b) (max (dp c) 0))+1≤(a.flat++(b.flat++(c.flat++[x]))).length;simp only[List.length_append,List.length_singleton];omega
theorem one_fl{st:List Tr}{s:Tr}(h:s∈st):s.flat.length≤fl st:=by
 obtain⟨a,b,rfl⟩:=List.append_of_mem h;have:a++s::b=a++([s]++b):=rfl;rw[this,fl_append,fl_append,fl_one];omega
theorem dp_mk{x:Nd}{l:List Tr}(h:l.length≤3):dp (mkT x l)=mx (l.map dp)+1:=fold_mk dpF h
def ds(st:List Tr):List Int:=st.map fun s=>((dp s:Nat):Int)
theorem ds_len(st:List Tr):(ds st).length=st.length:=List.length_map ..
theorem depth_of{t:List Nd}{tr:Tr}(h:formB t=true)(ht:treeOf t=some tr):depthT t=dp tr:=by unfold depthT;rw[ht];dsimp only;rw[if_pos h]
theorem depth_no{t:List Nd}(h:formB t=false):depthT t=0:=by
 unfold depthT;split
 ·rw[h];rfl
 ·rfl
end Tm
end Go.Proofs.YtghioekjghmdaaaGreatDoor
