/- Own work. -/
import Derived.Test.YtmllklfjngapiaaGreatDoorWordNumM
set_option linter.unusedSimpArgs false
set_option linter.unusedVariables false
namespace Go.Proofs.YtmllklfjngapiaaGreatDoor
namespace Pz
open Tm (Nd Tr plainN)
abbrev K:=Nat×List UInt8
inductive Rs where
 | bad (e:Int) (n:Nat)
 | ok (r:List K) (t:List Nd)
def sg(s:List UInt8):List K→Option (List K)
 | k::r=>if k=(2,s) then some r else none
 | []=>none
def dayR(lo hi:Int):List K→Option (Int×List K)
 | k::r=>if k.1=1∧(smallS k.2).2=true∧lo≤(smallS k.2).1∧(smallS k.2).1≤hi∧(smallS k.2).1≤9999 then some ((smallS k.2).1,r) else none
 | []=>none
def natR(zero:Bool):List K→Option (List UInt8×List K)
 | k::r=>if k.1=1∧isNat k.2=true∧k.2.length≤60∧(zero=true∨k.2≠[48]) then some (k.2,r) else none
 | []=>none
def nameR:List K→Option (List UInt8×List K)
 | k::r=>if k.1=0 then some (k.2,r) else none
 | []=>none
def thenR{α:Type}(r:List K)(x:Option α)(f:α→Rs):Rs:=match x with
 | some a=>f a
 | none=>.bad 110 r.length
def priceR(op:Int)(r:List K)(t:List Nd):Rs :=
 thenR r (sg [40] r) fun r1=>thenR r1 (nameR r1) fun (a,r2)=>thenR r2 (sg [44] r2) fun r3=>thenR r3 (dayR 0 9999 r3) fun (x,r4) =>
  if op≤1 then thenR r4 (sg [41] r4) fun r5=>.ok r5 (t++[Nd.mk op ([],[]) a x 0])
  else thenR r4 (sg [44] r4) fun r5=>thenR r5 (dayR x (x+59) r5) fun (y,r6)=>thenR r6 (sg [41] r6) fun r7=>.ok r7 (t++[Nd.mk op ([],[]) a x y])
def minusR(r:List K):Bool×List K:=match sg [45] r with
 | some r1=>(true,r1)
 | none=>(false,r)
def numR(r:List K)(t:List Nd):Rs :=
 thenR r (sg [40] r) fun r1=>thenR (minusR r1).2 (natR true (minusR r1).2) fun (a,r3)=>thenR r3 (sg [44] r3) fun r4=>thenR r4 (natR false r4) fun (b,r5)=>thenR r5 (sg [41] r5) fun r6 =>
  .ok r6 (t++[Nd.mk 0 (makeR (if (minusR r1).1 then negW a else a) b).1 [] 0 0])
def numberR(s:List UInt8)(r:List K)(t:List Nd):Rs :=
 if (parS s).2=0∧(parS s).1.1.length≤60∧(parS s).1.2.length≤60 then .ok r (t++[Nd.mk 0 (parS s).1 [] 0 0]) else .bad 110 (r.length+1)
def opName(s:List UInt8):Option Int :=
 if s=[110,117,109] then some 0 else if s=[112,120] then some 1 else if s=[97,118,103] then some 2 else if s=[104,105] then some 3 else if s=[108,111] then some 4
 else if s=[109,97,120] then some 10 else if s=[109,105,110] then some 11 else if s=[105,102] then some 12 else none
def leafR:List K→List Nd→Option Rs
 | [],_=>some (.bad 110 0)
 | k::r,t =>
  if k.1=1 then some (numberR k.2 r t)
  else if k.1=0 then match opName k.2 with
   | some op=>if op=0 then some (numR r t) else if op≤4 then some (priceR op r t) else none
   | none=>some (.bad 110 (r.length+1))
  else if k=(2,[40]) then none else some (.bad 110 (r.length+1))
def callOp(k:K):Option Int:=if k.1=0 then match opName k.2 with
  | some op=>if 10≤op then some op else none
  | none=>none
 else none
def signR(s:List UInt8):Rs→Rs
 | .bad e n=>.bad e n
 | .ok r t=>match sg s r with
  | some r1=>.ok r1 t
  | none=>.bad 110 r.length
def openR(d:Nat):Rs→Rs
 | .bad e n=>.bad e n
 | .ok r t=>match sg [40] r with
  | some r1=>if 200≤d then .bad 111 r.length else .ok r1 t
  | none=>.bad 110 r.length
def pushR(op:Int):Rs→Rs
 | .bad e n=>.bad e n
 | .ok r t=>.ok r (t++[plainN op])
def opOf(l:Bool):List K→Option Int
 | k::_=>if l then (if k=(2,[43]) then some 6 else if k=(2,[45]) then some 7 else none) else (if k=(2,[42]) then some 8 else if k=(2,[47]) then some 9 else none)
 | []=>none
inductive G where
 | bin (l:Bool)
 | loop (l:Bool)
 | minus
 | atom
 | args (n:Nat)
def sub(l:Bool):G:=if l then .bin false else .minus
inductive Par:G→Nat→Rs→Rs→Prop
 | err (g d e n):Par g d (.bad e n) (.bad e n)
 | bin (l d r t a b):Par (sub l) d (.ok r t) a→Par (.loop l) d a b→Par (.bin l) d (.ok r t) b
 | lend (l d r t):opOf l r=none→Par (.loop l) d (.ok r t) (.ok r t)
 | lgo (l d k r t o a b):opOf l (k::r)=some o→Par (sub l) d (.ok r t) a→Par (.loop l) d (pushR o a) b→Par (.loop l) d (.ok (k::r) t) b
 | mgo (d r t a):Par .minus d (.ok r t) a→Par .minus d (.ok ((2,[45])::r) t) (pushR 5 a)
 | mend (d r t a):sg [45] r=none→Par .atom d (.ok r t) a→Par .minus d (.ok r t) a
 | leaf (d r t a):leafR r t=some a→Par .atom d (.ok r t) a
 | paren (d r t a):Par (.bin true) (d+1) (openR d (.ok ((2,[40])::r) t)) a→Par .atom d (.ok ((2,[40])::r) t) (signR [41] a)
 | call (d k r t op m a):callOp k=some op→Tm.arN op=some m→Par (.args m) (d+1) (openR d (.ok r t)) a→Par .atom d (.ok (k::r) t) (pushR op (signR [41] a))
 | one (d r t a):Par (.bin true) d (.ok r t) a→Par (.args 1) d (.ok r t) a
 | more (n d r t a b):Par (.bin true) d (.ok r t) a→Par (.args (n+1)) d (signR [44] a) b→Par (.args (n+2)) d (.ok r t) b
theorem leafR_cons(k:K)(r:List K)(t:List Nd):leafR (k::r) t=if k.1=1 then some (numberR k.2 r t)
  else if k.1=0 then match opName k.2 with
   | some op=>if op=0 then some (numR r t) else if op≤4 then some (priceR op r t) else none
   | none=>some (.bad 110 (r.length+1))
  else if k=(2,[40]) then none else some (.bad 110 (r.length+1)):=rfl
theorem sg_cons(s:List UInt8)(k:K)(r:List K):sg s (k::r)=if k=(2,s) then some r else none:=rfl
theorem sg_yes(s:List UInt8)(r:List K):sg s ((2,s)::r)=some r:=by rw[sg_cons,if_pos rfl]
theorem leaf_paren(r:List K)(t:List Nd):leafR ((2,[40])::r) t=none:=rfl
theorem leaf_call{k:K}{op:Int}(h:callOp k=some op)(r:List K)(t:List Nd):leafR (k::r) t=none:=by
 unfold callOp at h;by_cases h0:k.1=0
 ·rw[if_pos h0]at h;rw[leafR_cons,if_neg (by omega),if_pos h0]
  cases e:opName k.2 with
  | none=>rw[e]at h;cases h
  | some o =>
   rw[e]at h;dsimp only at h ⊢;by_cases ho:10≤o
   ·rw[if_neg (by omega),if_neg (by omega)]
   ·rw[if_neg ho]at h;cases h
 ·rw[if_neg h0]at h;cases h
theorem call_not{op:Int}(h:callOp (2,[40])=some op):False:=by
 have:callOp (2,[40])=none:=rfl;rw[this]at h;cases h
theorem sg_minus(r:List K):sg [45] ((2,[45])::r)=some r:=sg_yes _ _
theorem det:∀ {g:G} {d:Nat} {x a:Rs},Par g d x a→∀ {b:Rs},Par g d x b→a=b:=by
 intro g d x a h
 induction h with
 | err g d e n=>intro b k;cases k;rfl
 | bin l d r t a b h1 h2 i1 i2 =>
  intro c k
  cases k with
  | bin _ _ _ _ a' _ k1 k2 =>
   obtain rfl:=i1 k1;exact i2 k2
 | lend l d r t h =>
  intro c k
  cases k with
  | lend=>rfl
  | lgo _ _ k' r' _ o a b k0=>rw[h]at k0;cases k0
 | lgo l d k r t o a b h0 h1 h2 i1 i2 =>
  intro c k'
  cases k' with
  | lend _ _ _ _ k0=>rw[h0]at k0;cases k0
  | lgo _ _ _ _ _ o' a' _ k0 k1 k2 =>
   rw[h0]at k0;obtain rfl:=Option.some.inj k0;obtain rfl:=i1 k1;exact i2 k2
 | mgo d r t a h i =>
  intro c k
  cases k with
  | mgo _ _ _ a' k1=>rw[i k1]
  | mend _ _ _ _ k0=>rw[sg_minus]at k0;cases k0
 | mend d r t a h0 h i =>
  intro c k
  cases k with
  | mgo _ _ _ _ k1=>rw[sg_minus]at h0;cases h0
  | mend _ _ _ _ k0 k1=>exact i k1
 | leaf d r t a h =>
  intro c k
  cases k with
  | leaf _ _ _ _ k1=>rw[h]at k1;exact Option.some.inj k1
  | paren _ r' _ _ k1=>rw[leaf_paren]at h;cases h
  | call _ k' r' _ op m _ k0 _ _=>rw[leaf_call k0]at h;cases h
 | paren d r t a h i =>
  intro c k
  cases k with
  | leaf _ _ _ _ k1=>rw[leaf_paren]at k1;cases k1
  | paren _ _ _ a' k1=>rw[i k1]
  | call _ _ _ _ op m _ k0 _ _=>exact(call_not k0).elim
 | call d k r t op m a h0 h1 h2 i =>
  intro c k'
  cases k' with
  | leaf _ _ _ _ k1=>rw[leaf_call h0]at k1;cases k1
  | paren _ _ _ a' k1=>exact(call_not h0).elim
  | call _ _ _ _ op' m' a' k0 k1 k2 =>
   rw[h0]at k0;obtain rfl:=Option.some.inj k0;rw[h1]at k1;obtain rfl:=Option.some.inj k1;rw[i k2]
 | one d r t a h i =>
  intro c k
  cases k with
  | one _ _ _ _ k1=>exact i k1
 | more n d r t a b h1 h2 i1 i2 =>
  intro c k
  cases k with
  | more _ _ _ _ a' _ k1 k2 =>
   obtain rfl:=i1 k1;exact i2 k2
end Pz
namespace Pz
open Tm (Nd Tr plainN okN okT arN decB isR_w leafP aboveP)
def wholeK(l:List UInt8):List K:=if l.head?=some 45 then [(2,[45]),(1,l.tail)] else [(1,l)]
def numK(q:Key):List K:=if decB q then [(1,prS q)] else (0,[110,117,109])::(2,[40])::(wholeK q.1++[(2,[44]),(1,q.2),(2,[41])])
def hiN(op:Int):List UInt8:=if op=2 then [97,118,103] else if op=3 then [104,105] else [108,111]
def leafK(x:Nd):List K :=
 if x.op=0 then numK x.num
 else if x.op=1 then [(0,[112,120]),(2,[40]),(0,x.ast),(2,[44]),(1,ofS x.a),(2,[41])]
 else [(0,hiN x.op),(2,[40]),(0,x.ast),(2,[44]),(1,ofS x.a),(2,[44]),(1,ofS x.b),(2,[41])]
theorem at_minus{d:Nat}{s:List K}{t:List Nd}{a:Rs}(h0:sg [45] s=none)(h:Par .atom d (.ok s t) a):Par .minus d (.ok s t) a:=.mend _ _ _ _ h0 h
theorem at_prod{d:Nat}{s r:List K}{t t':List Nd}(h:Par .minus d (.ok s t) (.ok r t'))(h0:opOf false r=none):Par (.bin false) d (.ok s t) (.ok r t'):=.bin _ _ _ _ _ _ h (.lend _ _ _ _ h0)
theorem at_sum{d:Nat}{s r:List K}{t t':List Nd}(h:Par (.bin false) d (.ok s t) (.ok r t'))(h0:opOf true r=none):Par (.bin true) d (.ok s t) (.ok r t'):=.bin _ _ _ _ _ _ h (.lend _ _ _ _ h0)
def stopK:List K→Bool
 | k::_=>k==(2,[41])||k==(2,[44])
 | []=>true
theorem stop_op{r:List K}(h:stopK r=true)(l:Bool):opOf l r=none:=by
 match r with
 | []=>rfl
 | k::r =>
  simp only[stopK,Bool.or_eq_true,beq_iff_eq]at h;rcases h with rfl|rfl<;>cases l<;>rfl
theorem up{d:Nat}{s r:List K}{t t':List Nd}(h0:sg [45] s=none)(h:Par .atom d (.ok s t) (.ok r t'))(hr:stopK r=true):Par (.bin true) d (.ok s t) (.ok r t') :=
 at_sum (at_prod (at_minus h0 h) (stop_op hr _)) (stop_op hr _)
theorem small_of{n:Int}(h0:0≤n)(h:n≤9999):smallS (ofS n)=(n,true):=by
 rw[Tm.ofS_pos h0];unfold smallS;rw[isNat_dig,valS_dig,decide_eq_true (show n.toNat≤9223372036854775807 by omega)];rw[if_pos (by rfl)];rw[show ((n.toNat:Nat):Int)=n by omega]
theorem nameR_cons(k:K)(r:List K):nameR (k::r)=if k.1=0 then some (k.2,r) else none:=rfl
theorem dig_nought:dig 0=[48]:=dig_nil
theorem day_of{n lo hi:Int}(h0:0≤n)(h:n≤9999)(h1:lo≤n)(h2:n≤hi)(r:List K):dayR lo hi ((1,ofS n)::r)=some (n,r):=by
 show (if _ then some ((smallS (ofS n)).1,r) else none)=_;rw[small_of h0 h,if_pos ⟨rfl,rfl,h1,h2,h⟩]
theorem nat_of{s:List UInt8}{z:Bool}(h:isNat s=true)(hl:s.length≤60)(hz:z=true∨s≠[48])(r:List K):natR z ((1,s)::r)=some (s,r):=by
 show (if _ then some (s,r) else none)=_;rw[if_pos ⟨rfl,h,hl,hz⟩]
theorem name_of(s:List UInt8)(r:List K):nameR ((0,s)::r)=some (s,r):=by
 rw[nameR_cons,if_pos rfl]
theorem then_some{α:Type}{r:List K}{x:Option α}{a:α}{f:α→Rs}(h:x=some a):thenR r x f=f a:=by rw[h];rfl
theorem sg_no{s:List UInt8}{k:K}(h:¬k=(2,s))(r:List K):sg s (k::r)=none:=by rw[sg_cons,if_neg h]
theorem number_of{q:Key}(hr:isR q=true)(hd:decB q=true)(h1:(absW q.1).length≤60)(h2:q.2.length≤60)(r:List K)(t:List Nd):numberR (prS q) r t=.ok r (t++[Nd.mk 0 q [] 0 0]):=by
 have hl:(prS q).length≤140:=by
  have:=Tm.numP_len hr h1 h2;unfold Tm.numP at this
  rwa[if_pos hd]at this
 have hp:parS (prS q)=(q,0):=by
  have:=parS_some (l:=prS q) (q:=valR q) (by omega) (by rw[prS_yes hr];exact back_u _);rw[rd_valR hr]at this;exact this
 have h0:0≤(valR q).num:=(Tm.dec_q hd).2.2;have hn:q.1.length≤60:=by
  rw[valR_num hr]at h0;rcases isW_cases (isR_w hr).1 with ⟨k,e⟩|⟨s,e,k,e1,e2⟩
  ·have:absW q.1=q.1:=by
    unfold absW;rw[if_pos (isR_w hr).1,e,Int.natAbs_natCast,dig_valS k]
   rwa[this]at h1
  ·have hz:valS s=0:=by omega
   exact absurd (by rw[←dig_valS k,hz,dig_nought]) e1
 unfold numberR;rw[hp,if_pos ⟨rfl,hn,h2⟩]
theorem whole_cases{q:Key}(hr:isR q=true):∃m:Bool,∃a:List UInt8,wholeK q.1=(if m then [(2,[45]),(1,a)] else [(1,a)])∧isNat a=true∧absW q.1=a∧(if m then negW a else a)=q.1:=by
 have hw:=(isR_w hr).1;rcases isW_cases hw with ⟨k,e⟩|⟨s,e,k,e1,e2⟩
 ·refine⟨false,q.1,?_,k,?_,rfl⟩
  ·unfold wholeK;rw[if_neg]
   ·rfl
   intro h;have hm:(45:UInt8)∈q.1:=by
    cases hq:q.1 with
    | nil=>rw[hq]at h;cases h
    | cons c r=>rw[hq]at h;cases h;exact List.mem_cons_self ..
   exact Tm.not_n k (by decide) hm
  ·unfold absW;rw[if_pos hw,e,Int.natAbs_natCast,dig_valS k]
 ·refine⟨true,s,?_,k,?_,?_⟩
  ·rw[e];rfl
  ·unfold absW;rw[if_pos hw,e2,Int.natAbs_neg,Int.natAbs_natCast,dig_valS k]
  ·rw[if_pos rfl,e];unfold negW;have hpos:0<valS s:=by
    refine Nat.pos_of_ne_zero fun hz=>e1 ?_;rw[←dig_valS k,hz,dig_nought]
   have hv:valW s=(valS s:Int):=by
    have:=valW_dig (valS s)
    rwa[dig_valS k]at this
   have hws:isW s=true:=by
    have:=isW_wd (valS s:Int);unfold wd at this;rw[if_neg (by omega),Int.natAbs_natCast,dig_valS k]at this;exact this
   rw[if_pos hws,hv];unfold wd;rw[if_pos (by omega),Int.natAbs_neg,Int.natAbs_natCast,dig_valS k]
theorem num_of{q:Key}(hr:isR q=true)(h1:(absW q.1).length≤60)(h2:q.2.length≤60)(r:List K)(t:List Nd) :
  numR ((2,[40])::(wholeK q.1++(2,[44])::(1,q.2)::(2,[41])::r)) t=.ok r (t++[Nd.mk 0 q [] 0 0]):=by
 obtain⟨m,a,e,hn,ha,hq⟩:=whole_cases hr;obtain⟨hw,hd⟩:=isR_w hr;have hz:q.2≠[48]:=fun c=>by
  have:=valR_den hr;have hp:=(valR q).den_pos;rw[c]at this;have h0:valS [48]=0:=rfl;omega
 have hmk:(makeR q.1 q.2).1=q:=by
  have hw2:isW q.2=true:=by
   have:=isW_wd (valS q.2:Int);unfold wd at this;rw[if_neg (by omega),Int.natAbs_natCast,dig_valS hd]at this;exact this
  have hv2:valW q.2=(valS q.2:Int):=by
   have:=valW_dig (valS q.2)
   rwa[dig_valS hd]at this
  have hp:=(valR q).den_pos;rw[valR_den hr]at hp;rw[makeR_yes hw hw2 (by rw[hv2];omega),hv2];show rd (Rat.divInt (valW q.1) ((valS q.2:Nat):Int))=q;have:Rat.divInt (valW q.1) ((valS q.2:Nat):Int)=valR q:=by
   unfold valR
   rfl
  rw[this,rd_valR hr]
 rw[ha]at h1;rw[e];unfold numR;rw[then_some (sg_yes _ _)]
 cases m with
 | true =>
  have hm:minusR ((if true=true then [((2,[45]):K),(1,a)] else [(1,a)])++(2,[44])::(1,q.2)::(2,[41])::r)=(true,(1,a)::(2,[44])::(1,q.2)::(2,[41])::r):=by
   show minusR ((2,[45])::_)=_;unfold minusR;rw[sg_yes];rfl
  rw[hm];dsimp only;rw[then_some (nat_of hn h1 (.inl rfl) _)];dsimp only;rw[then_some (sg_yes _ _),then_some (nat_of hd h2 (.inr hz) _)];dsimp only;rw[then_some (sg_yes _ _),hq,hmk]
 | false =>
  have hm:minusR ((if false=true then [((2,[45]):K),(1,a)] else [(1,a)])++(2,[44])::(1,q.2)::(2,[41])::r)=(false,(1,a)::(2,[44])::(1,q.2)::(2,[41])::r):=by
   show minusR ((1,a)::_)=_;unfold minusR;rw[sg_no (by intro c;cases c)];rfl
  rw[hm];dsimp only;rw[then_some (nat_of hn h1 (.inl rfl) _)];dsimp only;rw[then_some (sg_yes _ _),then_some (nat_of hd h2 (.inr hz) _)];dsimp only;rw[then_some (sg_yes _ _),hq,hmk]
end Pz
namespace Pz
open Tm (Nd Tr plainN okN okT arN decB isR_w leafP aboveP)
theorem leaf_of{x:Nd}(h:okN x=true)(h0:arN x.op=some 0)(r:List K)(t:List Nd):leafR (leafK x++r) t=some (.ok r (t++[x])):=by
 have hh:=h;unfold okN at h;unfold leafK;obtain⟨op,q,ast,a,b⟩:=x;dsimp only at h h0 hh ⊢;rcases Tm.ops0 h0 with e|e|e|e|e
 ·rw[if_pos e]at h ⊢;simp only[Bool.and_eq_true,decide_eq_true_eq,beq_iff_eq]at h;obtain⟨⟨h1,h2,h3⟩,h4,h5,h6⟩:=h;subst e h1 h2 h3;unfold numK
  cases hd:decB q with
  | true =>
   rw[if_pos rfl];show leafR ((1,prS q)::r) t=_;rw[leafR_cons,if_pos rfl,number_of h4 hd h5 h6]
  | false =>
   rw[if_neg (by decide)];show leafR ((0,[110,117,109])::(2,[40])::((wholeK q.1++[(2,[44]),(1,q.2),(2,[41])])++r)) t=_;rw[List.append_assoc];rw[leafR_cons,if_neg (by decide),if_pos rfl];show some (numR ((2,[40])::(wholeK q.1++(2,[44])::(1,q.2)::(2,[41])::r)) t)=_;rw[num_of h4 h5 h6]
 ·rw[if_neg (by omega),if_pos e]at h ⊢;simp only[Bool.and_eq_true,decide_eq_true_eq,beq_iff_eq]at h;obtain⟨⟨h1,h2⟩,_,h4,h5⟩:=h;subst e h1 h2;show leafR ((0,[112,120])::(2,[40])::(0,ast)::(2,[44])::(1,ofS a)::(2,[41])::r) t=_;rw[leafR_cons,if_neg (by decide),if_pos rfl];show some (priceR 1 _ t)=_;unfold priceR;rw[then_some (sg_yes _ _),then_some (name_of _ _)];dsimp only;rw[then_some (sg_yes _ _),then_some (day_of h4 h5 h4 h5 _)];dsimp only;rw[if_pos (by decide),then_some (sg_yes _ _)]
 all_goals
  rw[if_neg (by omega),if_neg (by omega),if_pos (by omega)]at h;rw[if_neg (by omega),if_neg (by omega)];simp only[Bool.and_eq_true,decide_eq_true_eq,beq_iff_eq]at h;obtain⟨h1,_,h4,h5,h6,h7⟩:=h;subst e h1;show leafR ((0,_)::(2,[40])::(0,ast)::(2,[44])::(1,ofS a)::(2,[44])::(1,ofS b)::(2,[41])::r) t=_;rw[leafR_cons,if_neg (by decide),if_pos rfl];show some (priceR _ _ t)=_;unfold priceR;rw[then_some (sg_yes _ _),then_some (name_of _ _)];dsimp only;rw[then_some (sg_yes _ _),then_some (day_of h4 (by omega) h4 (by omega) _)];dsimp only;rw[if_neg (by decide),then_some (sg_yes _ _),then_some (day_of (n:=b) (by omega) h5 (by omega) (by omega) _)];dsimp only;rw[then_some (sg_yes _ _)]
theorem sign_yes(u:List UInt8)(r:List K)(t:List Nd):signR u (.ok ((2,u)::r) t)=.ok r t:=by
 unfold signR;simp only[sg_yes]
theorem comma(r:List K)(t:List Nd):signR [44] (.ok ((2,[44])::r) t)=.ok r t:=sign_yes _ _ _
end Pz
namespace Pz
open Tm (Nd Tr plainN okN okT arN decB isR_w leafP aboveP pr sepB)
open Wd (lexAt ktT kl run numL dotD)
def Lx(s:List UInt8)(ks:List K)(v:List UInt8):Prop:=∀ln c,∃ln' c',(lexAt (s++v) ln c).1.map ktT=ks++(lexAt v ln' c').1.map ktT∧(lexAt (s++v) ln c).2=(lexAt v ln' c').2
theorem Lx.join{s s' v:List UInt8}{ks ks':List K}(h:Lx s ks (s'++v))(h':Lx s' ks' v):Lx (s++s') (ks++ks') v:=fun ln c=>by
 obtain⟨l1,c1,a1,b1⟩:=h ln c;obtain⟨l2,c2,a2,b2⟩:=h' l1 c1;refine⟨l2,c2,?_,?_⟩
 ·rw[List.append_assoc,a1,a2,List.append_assoc]
 ·rw[List.append_assoc,b1,b2]
theorem Lx.nil(v:List UInt8):Lx [] [] v:=fun ln c=>⟨ln,c,rfl,rfl⟩
theorem Lx.tok{kd:Nat}{u v:List UInt8}(hk:kl (u++v)=some (kd,u.length))(h:∃x r,u=x::r∧x≠32∧x≠10):Lx u [(kd,u)] v:=fun ln c=>by
 obtain⟨x,r,rfl,h1,h2⟩:=h;have k:=Wd.lex_tok (r:=r++v) ln c h1 h2 hk;refine⟨ln,c+(x::r).length,?_,?_⟩
 ·have e:(x::r)++v=x::(r++v):=rfl;rw[e,k];show ktT _::(lexAt (((x::r)++v).drop (x::r).length) ln (c+(x::r).length)).1.map ktT=_;rw[List.drop_left];have et:(x::(r++v)).take (x::r).length=x::r:=List.take_left (l₁:=x::r) (l₂:=v);rw[et]
  rfl
 ·have e:(x::r)++v=x::(r++v):=rfl;rw[e,k];show (lexAt (((x::r)++v).drop (x::r).length) ln (c+(x::r).length)).2=_;rw[List.drop_left]
theorem Lx.blank(v:List UInt8):Lx [32] [] v:=fun ln c=>⟨ln,c+1,by
 show (lexAt (32::v) ln c).1.map ktT=_;rw[Wd.lex_blank];rfl,by
 show (lexAt (32::v) ln c).2=_;rw[Wd.lex_blank]⟩
theorem Lx.sign{b:UInt8}(h:Wd.isSgn b=true)(v:List UInt8):Lx [b] [(2,[b])] v:=by
 have key:∀n:Fin 256,Wd.isSgn (UInt8.ofFin n)=true→Wd.isLet (UInt8.ofFin n)=false∧Wd.isDig (UInt8.ofFin n)=false∧UInt8.ofFin n≠32∧UInt8.ofFin n≠10:=by decide +kernel
 obtain⟨k1,k2,k3,k4⟩:=key b.toFin h;have e1:Wd.isLet b=false:=k1;have e2:Wd.isDig b=false:=k2;refine Lx.tok ?_ ⟨b,[],rfl,k3,k4⟩;show kl (b::v)=some (2,1);rw[Wd.kl_cons,e1,e2,h];rfl
theorem run_all{p:UInt8→Bool}:∀ {u v:List UInt8},u.all p=true→(∀c r,v=c::r→p c=false)→run p (u++v)=u.length
 | [],[],_,_=>rfl
 | [],c::r,_,h=>by show run p (c::r)=0;unfold run;rw[h c r rfl];rfl
 | x::u,v,hu,h=>by
  simp only[List.all_cons,Bool.and_eq_true]at hu;show run p (x::(u++v))=_;rw[Wd.run_pos hu.1,run_all hu.2 h];rfl
theorem sep_dig{v:List UInt8}(h:sepB v=true):∀c r,v=c::r→Wd.isDig c=false:=fun c r e=>by
 subst e;simp only[sepB,Bool.or_eq_true,beq_iff_eq]at h;rcases h with rfl|rfl|rfl<;>decide
theorem dig_not{x:UInt8}(h:Wd.isDig x=true):Wd.isLet x=false∧x≠32∧x≠10:=by
 have key:∀n:Fin 256,Wd.isDig (UInt8.ofFin n)=true→Wd.isLet (UInt8.ofFin n)=false∧UInt8.ofFin n≠32∧UInt8.ofFin n≠10:=by decide +kernel
 exact key x.toFin h
theorem dot_sep{v:List UInt8}(h:sepB v=true):dotD v=false:=by
 match v with
 | []=>rfl
 | c::r=>exact Wd.dot_no (fun e=>by subst e;cases h) r
theorem Lx.nat{u v:List UInt8}(h:digs u=true)(hl:u.length≤100)(hv:sepB v=true):Lx u [(1,u)] v:=by
 unfold digs at h;simp only[Bool.and_eq_true]at h;obtain⟨h0,h1⟩:=h
 match u,h0 with
 | x::r,_ =>
  have hx:Wd.isDig x=true:=by
   simp only[List.all_cons,Bool.and_eq_true]at h1;exact h1.1
  obtain⟨k1,k2,k3⟩:=dig_not hx;have hr:run Wd.isDig (x::(r++v))=(x::r).length:=run_all (u:=x::r) h1 (sep_dig hv);have hn:numL (x::(r++v))=(x::r).length:=by
   unfold numL;rw[hr,show (x::(r++v)).drop (x::r).length=v from List.drop_left (l₁:=x::r) (l₂:=v),dot_sep hv];rfl
  refine Lx.tok ?_ ⟨x,r,rfl,k2,k3⟩;show kl (x::(r++v))=_;rw[Wd.kl_cons,k1,if_neg (by decide),if_pos hx,hn,if_pos hl]
theorem nat_digs{l:List UInt8}(h:isNat l=true):digs l=true:=by
 rw[←dig_valS h];unfold digs;rw[show ((dig (valS l)).all isDig)=true from dig_all _];have:=dig_ne (valS l)
 match dig (valS l),this with
 | x::r,_=>rfl
theorem digs_dig(n:Nat):digs (dig n)=true:=nat_digs (isNat_dig n)
end Pz
namespace Pz
open Tm (Nd Tr plainN okN okT arN decB isR_w leafP aboveP pr sepB)
open Wd (lexAt ktT kl run numL dotD)
theorem digs_of{l:List UInt8}(h:l.all isDig=true)(hl:1≤l.length):digs l=true:=by
 unfold digs;rw[h,Bool.and_true]
 match l,hl with
 | x::r,_=>rfl
end Pz
namespace Pz
open Tm (Nd Tr plainN okN okT arN printT checkT depthT pr sepB)
open Wd (Tk lexAt lexD ktT)
def goodE:Rs→Prop
 | .bad e _=>e=110∨e=111
 | .ok _ _=>True
def placeT(l:List Tk)(i:Nat):Nat×Nat:=match l[i]? with
 | some k=>(k.line,k.col)
 | none=>match l.getLast? with
  | some k=>(k.line,k.col+k.text.length)
  | none=>(1,1)
def endR:Rs→Rs
 | .bad e n=>.bad e n
 | .ok r t=>if r=[] then .ok [] t else .bad 110 r.length
def outR(ts:List Tk):Rs→List Nd×Int×Nat×Nat
 | .bad e n=>([],e,(placeT ts (ts.length-n)).1,(placeT ts (ts.length-n)).2)
 | .ok _ t=>if checkT t=0 then (t,0,0,0) else ([],100,1,1)
def PsIs(s:List UInt8)(R:List Nd×Int×Nat×Nat):Prop :=
 ∃ts er a b,lexD s=(ts,er,a,b)∧(er≠0∧R=([],er,a,b)∨er=0∧∃x,Par (.bin true) 0 (.ok (ts.map ktT) []) x∧R=outR ts (endR x))
theorem ps_det{s:List UInt8}{R R':List Nd×Int×Nat×Nat}(h:PsIs s R)(h':PsIs s R'):R=R':=by
 obtain⟨ts,er,a,b,e,k⟩:=h;obtain⟨ts',er',a',b',e',k'⟩:=h';rw[e]at e';obtain⟨rfl,e1⟩:=Prod.mk.inj e';obtain⟨rfl,e2⟩:=Prod.mk.inj e1;obtain⟨rfl,rfl⟩:=Prod.mk.inj e2;rcases k with ⟨h0,rfl⟩|⟨h0,x,p,rfl⟩
 ·rcases k' with ⟨_,rfl⟩|⟨h1,_⟩
  ·rfl
  ·exact absurd h1 h0
 ·rcases k' with ⟨h1,_⟩|⟨_,y,q,rfl⟩
  ·exact absurd h0 h1
  ·rw[det p q]
theorem lexD_ok{s:List UInt8}(hl:s.length≤20000)(h:(lexAt s 1 1).2=none):lexD s=((lexAt s 1 1).1,0,0,0):=by
 unfold lexD;rw[if_neg (by omega)];generalize lexAt s 1 1=R at *;obtain⟨ts,p⟩:=R;dsimp only at h;subst h
 rfl
theorem lexD_no{s:List UInt8}{p:Nat×Nat}(hl:s.length≤20000)(h:(lexAt s 1 1).2=some p):lexD s=([],90,p.1,p.2):=by
 unfold lexD;rw[if_neg (by omega)];generalize lexAt s 1 1=R at *;obtain⟨ts,q⟩:=R;dsimp only at h;subst h
 rfl
theorem ps_of{s:List UInt8}{ks:List K}(hl:s.length≤20000)(h:Lx s ks []){x:Rs}(hp:Par (.bin true) 0 (.ok ks []) x):PsIs s (outR (lexAt s 1 1).1 (endR x)):=by
 obtain⟨l',c',h1,h2⟩:=h 1 1;rw[List.append_nil,Wd.lex_nil]at h1 h2;rw[show ks++List.map ktT (([]:List Tk),(none:Option (Nat×Nat))).1=ks from List.append_nil ks]at h1;refine⟨(lexAt s 1 1).1,0,0,0,lexD_ok hl h2,.inr ⟨rfl,x,?_,rfl⟩⟩;rw[h1];exact hp
end Pz
end Go.Proofs.YtmllklfjngapiaaGreatDoor
