/- Own work. -/
import Derived.Test.YtmllklfjngapiaaGreatDoorAllPaQM
set_option linter.unusedSimpArgs false
set_option linter.unusedVariables false
namespace Go.Proofs.YtmllklfjngapiaaGreatDoor
namespace Pz
open Tm (Nd Tr plainN okN okT arN printT checkT depthT pr sepB sevN)
open Wd (Tk lexAt lexD ktT)
def nn(b:UInt8):Nd:=Nd.mk 0 ([b],[49]) [] 0 0
theorem nn_leaf{b:UInt8}(h:okN (nn b)=true)(hk:leafK (nn b)=[(1,[b])])(d:Nat)(r:List K)(t:List Nd):Par .minus d (.ok ((1,[b])::r) t) (.ok r (t++[nn b])):=by
 have k:=leaf_of (x:=nn b) h rfl r t;rw[hk]at k;exact at_minus (sg_no (by intro c;cases c) _) (.leaf _ _ _ _ k)
theorem n1(d:Nat)(r:List K)(t:List Nd):Par .minus d (.ok ((2,[45])::(1,[49])::r) t) (.ok r (t++[nn 49]++[plainN 5])):=Par.mgo _ _ _ _ (nn_leaf (by decide +kernel) (by decide +kernel) d r t)
theorem n2(d:Nat)(r:List K)(t:List Nd):Par .minus d (.ok ((1,[50])::r) t) (.ok r (t++[nn 50])):=nn_leaf (by decide +kernel) (by decide +kernel) d r t
theorem n3(d:Nat)(r:List K)(t:List Nd):Par .minus d (.ok ((1,[51])::r) t) (.ok r (t++[nn 51])):=nn_leaf (by decide +kernel) (by decide +kernel) d r t
end Pz
namespace Pz
open Tm (Nd Tr plainN okN okT arN printT checkT depthT pr sepB formB treeOf)
open Wd (Tk lexAt lexD ktT)
end Pz
namespace Pz
open Tm (Nd Tr plainN okN okT arN printT checkT depthT pr sepB formB treeOf)
open Wd (Tk lexAt lexD ktT kl run numL dotD)
theorem ps_none{s:List UInt8}{t:List Nd}{e:Int}{a b:Nat}(h:PsIs s (t,e,a,b))(he:e≠0):t=[]:=by
 obtain⟨ts,er,a',b',el,k⟩:=h;rcases k with ⟨h0,k⟩|⟨h0,x,p,k⟩
 ·exact(Prod.mk.inj k).1
 ·cases hx:endR x with
  | bad e' n =>
   rw[hx]at k;exact(Prod.mk.inj k).1
  | ok r u =>
   rw[hx]at k;have k:(t,e,a,b)=if checkT u=0 then (u,(0:Int),0,0) else ([],100,1,1):=k
   split at k
   ·exact absurd (Prod.mk.inj (Prod.mk.inj k).2).1 he
   ·exact(Prod.mk.inj k).1
end Pz
namespace Pz
open Tm (Nd Tr plainN okN okT arN printT checkT depthT pr sepB formB treeOf)
open Wd (Tk lexAt lexD ktT)
end Pz
namespace Pz
open Tm (Nd Tr plainN okN okT arN printT checkT depthT pr sepB formB treeOf)
open Wd (Tk lexAt lexD ktT kl)
theorem tk_four(x y:Tk):(x.kind=y.kind∧x.text=y.text∧x.line=y.line∧x.col=y.col)↔x=y:=⟨fun⟨h1,h2,h3,h4⟩=>by cases x;cases y;cases h1;cases h2;cases h3;cases h4;rfl,fun h=>by rw[h];exact⟨rfl,rfl,rfl,rfl⟩⟩
theorem nd_five(x y:Nd):(x.op=y.op∧x.num=y.num∧x.ast=y.ast∧x.a=y.a∧x.b=y.b)↔x=y:=⟨fun⟨h1,h2,h3,h4,h5⟩=>by cases x;cases y;cases h1;cases h2;cases h3;cases h4;cases h5;rfl,fun h=>by rw[h];exact⟨rfl,rfl,rfl,rfl,rfl⟩⟩
instance:DecidableEq Tk:=fun x y=>decidable_of_iff _ (tk_four x y)
instance:DecidableEq Nd:=fun x y=>decidable_of_iff _ (nd_five x y)
def lexF:Nat→List UInt8→Nat→Nat→Option (List Tk×Option (Nat×Nat))
 | 0,_,_,_=>none
 | _+1,[],_,_=>some ([],none)
 | n+1,x::r,ln,c =>
  if x=32 then lexF n r ln (c+1)
  else if x=10 then lexF n r (ln+1) 1
  else match kl (x::r) with
   | none=>some ([],some (ln,c))
   | some (kd,m)=>(lexF n ((x::r).drop m) ln (c+m)).map fun R=>(Tk.mk kd ((x::r).take m) ln c::R.1,R.2)
theorem lexF_ok:∀ (n:Nat) (l:List UInt8) (ln c:Nat) (R:List Tk×Option (Nat×Nat)),lexF n l ln c=some R→lexAt l ln c=R
 | 0,_,_,_,_,h=>by cases h
 | n+1,[],ln,c,R,h=>by rw[Wd.lex_nil];exact Option.some.inj h
 | n+1,x::r,ln,c,R,h=>by
  have h:(if x=32 then lexF n r ln (c+1) else if x=10 then lexF n r (ln+1) 1 else match kl (x::r) with
   | none=>some ([],some (ln,c))
   | some (kd,m)=>(lexF n ((x::r).drop m) ln (c+m)).map fun R=>(Tk.mk kd ((x::r).take m) ln c::R.1,R.2))=some R:=h
  by_cases h1:x=32
  ·subst h1;rw[if_pos rfl]at h;rw[Wd.lex_blank];exact lexF_ok n _ _ _ _ h
  rw[if_neg h1]at h;by_cases h2:x=10
  ·subst h2;rw[if_pos rfl]at h;rw[Wd.lex_line];exact lexF_ok n _ _ _ _ h
  rw[if_neg h2]at h
  cases e:kl (x::r) with
  | none =>
   rw[e]at h;rw[Wd.lex_bad ln c h1 h2 e];exact Option.some.inj h
  | some km =>
   obtain⟨kd,m⟩:=km;rw[e]at h;dsimp only at h
   cases e2:lexF n ((x::r).drop m) ln (c+m) with
   | none=>rw[e2]at h;cases h
   | some R' =>
    rw[e2]at h;rw[Wd.lex_tok ln c h1 h2 e,lexF_ok n _ _ _ _ e2];exact Option.some.inj h
def goF:Nat→G→Nat→Rs→Option Rs
 | 0,_,_,_=>none
 | _+1,_,_,.bad e k=>some (.bad e k)
 | n+1,.bin l,d,.ok r t=>(goF n (sub l) d (.ok r t)).bind fun a=>goF n (.loop l) d a
 | n+1,.loop l,d,.ok r t=>match opOf l r with
  | none=>some (.ok r t)
  | some o=>(goF n (sub l) d (.ok r.tail t)).bind fun a=>goF n (.loop l) d (pushR o a)
 | n+1,.minus,d,.ok r t=>match sg [45] r with
  | some r1=>(goF n .minus d (.ok r1 t)).map (pushR 5)
  | none=>goF n .atom d (.ok r t)
 | n+1,.atom,d,.ok r t=>match leafR r t with
  | some a=>some a
  | none=>match r with
   | []=>none
   | k::r1=>if k=(2,[40]) then (goF n (.bin true) (d+1) (openR d (.ok (k::r1) t))).map (signR [41]) else match callOp k with
    | none=>none
    | some op=>match arN op with
     | none=>none
     | some m=>(goF n (.args m) (d+1) (openR d (.ok r1 t))).map fun a=>pushR op (signR [41] a)
 | _+1,.args 0,_,.ok _ _=>none
 | n+1,.args 1,d,.ok r t=>goF n (.bin true) d (.ok r t)
 | n+1,.args (m+2),d,.ok r t=>(goF n (.bin true) d (.ok r t)).bind fun a=>goF n (.args (m+1)) d (signR [44] a)
theorem map_some{α β:Type}{o:Option α}{f:α→β}{y:β}(h:o.map f=some y):∃a,o=some a∧f a=y:=by
 cases o with
 | none=>cases h
 | some a=>exact⟨a,rfl,Option.some.inj h⟩
theorem bind_some{α β:Type}{o:Option α}{f:α→Option β}{y:β}(h:o.bind f=some y):∃a,o=some a∧f a=some y:=by
 cases o with
 | none=>cases h
 | some a=>exact⟨a,rfl,h⟩
theorem goF_ok:∀ (n:Nat) (g:G) (d:Nat) (x y:Rs),goF n g d x=some y→Par g d x y
 | 0,_,_,_,_,h=>by cases h
 | n+1,g,d,.bad e k,y,h=>by
  have:some (Rs.bad e k)=some y:=by cases g<;>exact h
  obtain rfl:=Option.some.inj this;exact .err _ _ _ _
 | n+1,.bin l,d,.ok r t,y,h=>by
  obtain⟨a,e1,e2⟩:=bind_some (o:=goF n (sub l) d (.ok r t)) h;exact .bin _ _ _ _ _ _ (goF_ok n _ _ _ _ e1) (goF_ok n _ _ _ _ e2)
 | n+1,.loop l,d,.ok r t,y,h=>by
  have h:(match opOf l r with
   | none=>some (.ok r t)
   | some o=>(goF n (sub l) d (.ok r.tail t)).bind fun a=>goF n (.loop l) d (pushR o a))=some y:=h
  cases e:opOf l r with
  | none =>
   rw[e]at h;obtain rfl:=Option.some.inj h;exact .lend _ _ _ _ e
  | some o =>
   rw[e]at h;obtain⟨a,e1,e2⟩:=bind_some h
   match r,e,e1 with
   | [],e,_=>cases e
   | k::r,e,e1=>exact .lgo _ _ _ _ _ _ _ _ e (goF_ok n _ _ _ _ e1) (goF_ok n _ _ _ _ e2)
 | n+1,.minus,d,.ok r t,y,h=>by
  have h:(match sg [45] r with
   | some r1=>(goF n .minus d (.ok r1 t)).map (pushR 5)
   | none=>goF n .atom d (.ok r t))=some y:=h
  cases e:sg [45] r with
  | none =>
   rw[e]at h;exact .mend _ _ _ _ e (goF_ok n _ _ _ _ h)
  | some r1 =>
   rw[e]at h;obtain⟨a,e1,rfl⟩:=map_some h
   match r,e with
   | [],e=>cases e
   | k::r,e =>
    rw[sg_cons]at e;split at e
    ·rename_i c
     subst c;obtain rfl:=Option.some.inj e;exact .mgo _ _ _ _ (goF_ok n _ _ _ _ e1)
    ·cases e
 | n+1,.atom,d,.ok r t,y,h=>by
  have h:(match leafR r t with
  | some a=>some a
  | none=>match (generalizing:=false) r with
   | []=>none
   | k::r1=>if k=(2,[40]) then (goF n (.bin true) (d+1) (openR d (.ok (k::r1) t))).map (signR [41]) else match callOp k with
    | none=>none
    | some op=>match arN op with
     | none=>none
     | some m=>(goF n (.args m) (d+1) (openR d (.ok r1 t))).map fun a=>pushR op (signR [41] a))=some y:=h
  cases e:leafR r t with
  | some a =>
   rw[e]at h;obtain rfl:=Option.some.inj h;exact .leaf _ _ _ _ e
  | none =>
   rw[e]at h
   match r with
   | []=>cases h
   | k::r1 =>
    dsimp only at h;split at h
    ·rename_i c
     subst c;obtain⟨a,e1,rfl⟩:=map_some h;exact .paren _ _ _ _ (goF_ok n _ _ _ _ e1)
    ·cases e2:callOp k with
     | none=>rw[e2]at h;cases h
     | some op =>
      rw[e2]at h;dsimp only at h
      cases e3:arN op with
      | none=>rw[e3]at h;cases h
      | some m =>
       rw[e3]at h;obtain⟨a,e1,rfl⟩:=map_some h;exact .call _ _ _ _ _ _ _ e2 e3 (goF_ok n _ _ _ _ e1)
 | n+1,.args 0,d,.ok r t,y,h=>by cases h
 | n+1,.args 1,d,.ok r t,y,h=>.one _ _ _ _ (goF_ok n _ _ _ _ h)
 | n+1,.args (m+2),d,.ok r t,y,h=>by
  obtain⟨a,e1,e2⟩:=bind_some (o:=goF n (.bin true) d (.ok r t)) h;exact .more _ _ _ _ _ _ (goF_ok n _ _ _ _ e1) (goF_ok n _ _ _ _ e2)
def psF(s:List UInt8):Option (List Nd×Int×Nat×Nat):=match lexF 100 s 1 1 with
 | some (ts,none)=>(goF 100 (.bin true) 0 (.ok (ts.map ktT) [])).map fun x=>outR ts (endR x)
 | some (_,some p)=>some ([],90,p.1,p.2)
 | none=>none
theorem psF_ok{s:List UInt8}{R:List Nd×Int×Nat×Nat}(hl:s.length≤20000)(h:psF s=some R):PsIs s R:=by
 unfold psF at h
 cases e:lexF 100 s 1 1 with
 | none=>rw[e]at h;cases h
 | some L =>
  obtain⟨ts,q⟩:=L;have e2:=lexF_ok _ _ _ _ _ e;rw[e]at h
  cases q with
  | none =>
   obtain⟨x,e1,rfl⟩:=map_some (o:=goF 100 (.bin true) 0 (.ok (ts.map ktT) [])) h;have k:=lexD_ok hl (by rw[e2]);rw[e2]at k;exact⟨ts,0,0,0,k,.inr ⟨rfl,x,goF_ok _ _ _ _ _ e1,rfl⟩⟩
  | some p =>
   have k:=lexD_no hl (p:=p) (by rw[e2]);exact⟨[],90,p.1,p.2,k,.inl ⟨by decide,(Option.some.inj h).symm⟩⟩
def fx1:List UInt8:=[112,120,40,120,44,32,53,41,32,45,32,50,32,42,32,45,40,49,32,43,32,109,97,120,40,121,49,44,32,50,41,41]
def fx2:List UInt8:=[112,120,40,120,44,32,53,41,32,45,32,50,32,42,32,45,49,46,53,48]
def fx3:List UInt8:=[112,120,40,120,44,32,53,41,32,45,32,50,32,42,32,45,121]
def fx4:List UInt8:=[40,49,32,43,10]
def fx2T:List Nd:=[Nd.mk 1 ([],[]) [120] 5 0,Nd.mk 0 ([50],[49]) [] 0 0,Nd.mk 0 ([51],[50]) [] 0 0,plainN 5,plainN 8,plainN 7]
theorem fx1_is:PsIs fx1 ([],110,1,26):=psF_ok (by decide) (by decide +kernel)
theorem fx2_is:PsIs fx2 (fx2T,0,0,0):=psF_ok (by decide) (by decide +kernel)
theorem fx3_is:PsIs fx3 ([],110,1,17):=psF_ok (by decide) (by decide +kernel)
theorem fx4_is:PsIs fx4 ([],110,1,5):=psF_ok (by decide) (by decide +kernel)
theorem fx5_is:PsIs [] ([],110,1,1):=psF_ok (by decide) (by decide +kernel)
theorem fx2_pr:printT fx2T=[40,112,120,40,120,44,32,53,41,32,45,32,40,50,32,42,32,40,45,49,46,53,41,41,41]:=by decide +kernel
end Pz
end Go.Proofs.YtmllklfjngapiaaGreatDoor
namespace Go.Proofs.YtmllklfjngapiaaGreatDoor
open Go.RowKit
open Wd (Tk okT ktT)
open Tm (Nd plainN checkT printT)
open Pz (PsIs Par Rs endR outR placeT ps_det G leafR numberR numR priceR opName signR openR pushR sg minusR)
def npK(k:Pz.K):Bool:=!(decide (k=(2,[40]))||decide (k=(2,[41])))
def wK(r:List Pz.K):Nat:=(r.filter npK).length
theorem wK_cons(k:Pz.K)(r:List Pz.K):wK (k::r)=(if npK k then 1 else 0)+wK r:=by
 unfold wK;rw[List.filter_cons];split
 ·rw[List.length_cons];omega
 ·omega
theorem wK_tail(k:Pz.K)(r:List Pz.K):wK r≤wK (k::r):=by rw[wK_cons];omega
theorem sg_w{s:List UInt8}{r r1:List Pz.K}(h:sg s r=some r1):wK r1≤wK r:=by
 cases r with
 | nil=>cases h
 | cons k r =>
  rw[Pz.sg_cons]at h;split at h
  ·cases h;exact wK_tail _ _
  ·cases h
theorem name_w{r r1:List Pz.K}{a:List UInt8}(h:Pz.nameR r=some (a,r1)):wK r1≤wK r:=by
 cases r with
 | nil=>cases h
 | cons k r =>
  have h:(if k.1=0 then some (k.2,r) else none)=some (a,r1):=h;split at h
  ·cases h;exact wK_tail _ _
  ·cases h
theorem day_w{lo hi x:Int}{r r1:List Pz.K}(h:Pz.dayR lo hi r=some (x,r1)):wK r1≤wK r:=by
 cases r with
 | nil=>cases h
 | cons k r =>
  rw[Pz.day_cons]at h;split at h
  ·cases h;exact wK_tail _ _
  ·cases h
theorem nat_w{z:Bool}{a:List UInt8}{r r1:List Pz.K}(h:Pz.natR z r=some (a,r1)):wK r1≤wK r:=by
 cases r with
 | nil=>cases h
 | cons k r =>
  rw[Pz.nat_cons]at h;split at h
  ·cases h;exact wK_tail _ _
  ·cases h
theorem minus_w(r:List Pz.K):wK (minusR r).2≤wK r:=by
 unfold minusR
 cases e:sg [45] r with
 | none=>exact Nat.le_refl _
 | some r1=>exact sg_w e
theorem num_w{r r':List Pz.K}{t t':List Nd}(h:numR r t=.ok r' t'):wK r'≤wK r∧t'.length=t.length+1:=by
 unfold numR at h;obtain⟨r1,e1,h⟩:=Pz.then_ok h;obtain⟨⟨a,r3⟩,e3,h⟩:=Pz.then_ok h;obtain⟨r4,e4,h⟩:=Pz.then_ok h;obtain⟨⟨b,r5⟩,e5,h⟩:=Pz.then_ok h;obtain⟨r6,e6,h⟩:=Pz.then_ok h;have l1:=sg_w e1;have l2:=minus_w r1;have l3:=nat_w e3;have l4:=sg_w e4;have l5:=nat_w e5;have l6:=sg_w e6
 cases h
 exact⟨by omega,by rw[List.length_append];rfl⟩
theorem price_w{op:Int}{r r':List Pz.K}{t t':List Nd}(h:priceR op r t=.ok r' t'):wK r'≤wK r∧t'.length=t.length+1:=by
 unfold priceR at h;obtain⟨r1,e1,h⟩:=Pz.then_ok h;obtain⟨⟨a,r2⟩,e2,h⟩:=Pz.then_ok h;obtain⟨r3,e3,h⟩:=Pz.then_ok h;obtain⟨⟨x,r4⟩,e4,h⟩:=Pz.then_ok h;have l1:=sg_w e1;have l2:=name_w e2;have l3:=sg_w e3;have l4:=day_w e4;dsimp only at h;split at h
 ·obtain⟨r5,e5,h⟩:=Pz.then_ok h;have l5:=sg_w e5
  cases h
  exact⟨by omega,by rw[List.length_append];rfl⟩
 ·obtain⟨r5,e5,h⟩:=Pz.then_ok h;obtain⟨⟨y,r6⟩,e6,h⟩:=Pz.then_ok h;dsimp only at h;obtain⟨r7,e7,h⟩:=Pz.then_ok h;have l5:=sg_w e5;have l6:=day_w e6;have l7:=sg_w e7
  cases h
  exact⟨by omega,by rw[List.length_append];rfl⟩
def ms:Rs→Nat
 | .bad _ _=>0
 | .ok r t=>wK r+t.length
theorem ms_push(o:Int)(x:Rs):ms (pushR o x)≤ms x+1:=by
 cases x with
 | bad e n=>exact Nat.zero_le _
 | ok r t=>show wK r+(t++[plainN o]).length≤_;rw[List.length_append];exact Nat.le_refl _
theorem ms_sign(s:List UInt8)(x:Rs):ms (signR s x)≤ms x:=by
 cases x with
 | bad e n=>exact Nat.le_refl _
 | ok r t =>
  unfold signR;dsimp only
  cases e:sg s r with
  | none=>exact Nat.zero_le _
  | some r1=>have:=sg_w e;show wK r1+t.length≤wK r+t.length;omega
theorem ms_open(d:Nat)(x:Rs):ms (openR d x)≤ms x:=by
 cases x with
 | bad e n=>exact Nat.le_refl _
 | ok r t =>
  unfold openR;dsimp only
  cases e:sg [40] r with
  | none=>exact Nat.zero_le _
  | some r1 =>
   dsimp only;split
   ·exact Nat.zero_le _
   ·have:=sg_w e;show wK r1+t.length≤wK r+t.length;omega
theorem np_0{k:Pz.K}{n:Nat}(h:k.1=n)(hn:n≠2):npK k=true:=by
 unfold npK;rw[decide_eq_false (fun e=>by rw[e]at h;exact hn h.symm),decide_eq_false (fun e=>by rw[e]at h;exact hn h.symm)]
 rfl
theorem ms_leaf{r:List Pz.K}{t:List Nd}{a:Rs}(h:leafR r t=some a):ms a≤ms (.ok r t):=by
 cases a with
 | bad e n=>exact Nat.zero_le _
 | ok r' t' =>
  cases r with
  | nil=>cases h
  | cons k r =>
   rw[Pz.leafR_cons]at h;show wK r'+t'.length≤wK (k::r)+t.length;rw[wK_cons];split at h
   ·rename_i h1
    rw[if_pos (np_0 h1 (by decide))];have h:=Option.some.inj h;unfold numberR at h;split at h
    ·cases h;rw[List.length_append,List.length_singleton];omega
    ·cases h
   ·split at h
    ·rename_i h1
     rw[if_pos (np_0 h1 (by decide))];split at h
     ·split at h
      ·obtain⟨h1,h2⟩:=num_w (Option.some.inj h);omega
      ·split at h
       ·obtain⟨h1,h2⟩:=price_w (Option.some.inj h);omega
       ·cases h
     ·cases h
    ·split at h
     ·cases h
     ·cases h
theorem np_op{l:Bool}{k:Pz.K}{r:List Pz.K}{o:Int}(h:Pz.opOf l (k::r)=some o):npK k=true:=by
 have h:(if l then (if k=(2,[43]) then some (6:Int) else if k=(2,[45]) then some 7 else none) else (if k=(2,[42]) then some 8 else if k=(2,[47]) then some 9 else none))=some o:=h
 repeat' split at h
 all_goals first|(cases h;done)|(rename_i e;rw[e];rfl)|(rename_i e _;rw[e];rfl)
theorem np_call{k:Pz.K}{op:Int}(h:Pz.callOp k=some op):npK k=true:=by
 unfold Pz.callOp at h;split at h
 ·rename_i h0;exact np_0 h0 (by decide)
 ·cases h
theorem par_ms:∀ {g:G} {d:Nat} {x y:Rs},Par g d x y→ms y≤ms x:=by
 intro g d x y h
 induction h with
 | err=>exact Nat.le_refl _
 | bin l d r t a b h1 h2 i1 i2=>exact Nat.le_trans i2 i1
 | lend=>exact Nat.le_refl _
 | lgo l d k r t o a b h0 h1 h2 i1 i2 =>
  have:=ms_push o a;have i1:ms a≤wK r+t.length:=i1;show ms b≤wK (k::r)+t.length;rw[wK_cons,if_pos (np_op h0)];omega
 | mgo d r t a h i =>
  have:=ms_push 5 a;have i:ms a≤wK r+t.length:=i;show _≤wK ((2,[45])::r)+t.length;rw[wK_cons,if_pos (by decide)];omega
 | mend d r t a h0 h i=>exact i
 | leaf d r t a h=>exact ms_leaf h
 | paren d r t a h i=>exact Nat.le_trans (ms_sign _ _) (Nat.le_trans i (ms_open _ _))
 | call d k r t op m a h0 h1 h2 i =>
  have e1:=ms_push op (signR [41] a);have e2:=ms_sign [41] a;have e3:=Nat.le_trans i (ms_open d (.ok r t));have e3:ms a≤wK r+t.length:=e3;show _≤wK (k::r)+t.length;rw[wK_cons,if_pos (np_call h0)];omega
 | one d r t a h i=>exact i
 | more n d r t a b h1 h2 i1 i2=>exact Nat.le_trans i2 (Nat.le_trans (ms_sign _ _) i1)
def npB(x:UInt8):Bool:=!(x==32||x==10||x==40||x==41)
def wB(s:List UInt8):Nat:=(s.filter npB).length
theorem wB_cons(x:UInt8)(r:List UInt8):wB (x::r)=(if npB x then 1 else 0)+wB r:=by
 unfold wB;rw[List.filter_cons];split
 ·rw[List.length_cons];omega
 ·omega
theorem wB_le(s:List UInt8):wB s≤s.length:=List.length_filter_le _ _
theorem wB_app(a b:List UInt8):wB (a++b)=wB a+wB b:=by
 unfold wB;rw[List.filter_append,List.length_append]
theorem wB_drop(n:Nat)(s:List UInt8):wB (s.drop n)≤wB s:=by
 have k:=wB_app (s.take n) (s.drop n);rw[List.take_append_drop]at k;omega
theorem lex_w:∀ (l:List UInt8) (ln c:Nat),wK ((Wd.lexAt l ln c).1.map ktT)≤wB l:=by
 refine Wd.lex_ind (fun ln c=>?_) (fun r ih ln c=>?_) (fun r ih ln c=>?_) (fun x r e1 e2 e ln c=>?_) (fun x r kd m e1 e2 e ih ln c=>?_)
 ·rw[Wd.lex_nil];exact Nat.le_refl _
 ·rw[Wd.lex_blank,wB_cons];have:=ih ln (c+1);omega
 ·rw[Wd.lex_line,wB_cons];have:=ih (ln+1) 1;omega
 ·rw[Wd.lex_bad ln c e1 e2 e];exact Nat.zero_le _
 ·have hm:=Wd.kl_len e;have hi:=ih ln (c+m);have hd:wB ((x::r).drop m)≤wB r:=by
   obtain⟨q,rfl⟩:∃q,m=q+1:=⟨m-1,by omega⟩;exact wB_drop q r
  rw[Wd.lex_tok ln c e1 e2 e];show wK ((kd,(x::r).take m)::_)≤_;rw[wK_cons,wB_cons];have hw:(if npK (kd,(x::r).take m) then 1 else 0)≤if npB x then 1 else 0:=by
   by_cases hp:x=40∨x=41
   ·have hk:Wd.kl (x::r)=some (2,1):=by
     rw[Wd.kl_cons];rcases hp with rfl|rfl<;>rfl
    rw[hk]at e;obtain⟨rfl,rfl⟩:=Prod.mk.inj (Option.some.inj e);have hn:npK (2,(x::r).take 1)=false:=by rcases hp with rfl|rfl<;>rfl
    rw[hn];exact Nat.zero_le _
   ·have hb:npB x=true:=by
     unfold npB;rw[beq_false_of_ne e1,beq_false_of_ne e2,beq_false_of_ne (fun h=>hp (.inl h)),beq_false_of_ne (fun h=>hp (.inr h))]
     rfl
    rw[hb];split<;>simp
  have hi:wK (List.map ktT (Wd.lexAt ((x::r).drop m) ln (c+m)).1)≤wB r:=Nat.le_trans hi hd;omega
theorem few_w{s:List UInt8}(h:wB s≤2000):FewN s:=fun ts a b hl t hp=>by
 have k:=par_ms hp;have hn:wK (ts.map ktT)≤2000:=by
  unfold Wd.lexD at hl;split at hl
  ·have:=(Prod.mk.inj (Prod.mk.inj hl).2).1
   cases this
  ·split at hl
   ·obtain rfl:=(Prod.mk.inj hl).1;exact Nat.le_trans (lex_w s 1 1) h
   ·have:=(Prod.mk.inj (Prod.mk.inj hl).2).1
    cases this
 have k:wK []+t.length≤wK (ts.map ktT)+([]:List Nd).length:=k;have k:0+t.length≤wK (ts.map ktT)+0:=k;omega
theorem few_short{s:List UInt8}(h:s.length≤2000):FewN s:=few_w (Nat.le_trans (wB_le s) h)
theorem few_print{t0:List Nd}(h:checkT t0=0)(hn:t0.length≤2000):FewN (printT t0):=fun ts a b hl t hp=>by
 have h1:=Pz.ps_back h;have h2:PsIs (printT t0) (if checkT t=0 then (t,0,0,0) else ([],100,1,1)):=⟨ts,0,a,b,hl,.inr ⟨rfl,_,hp,rfl⟩⟩;have e:=ps_det h1 h2;split at e
 ·have:=(Prod.mk.inj e).1;rw[←this];exact hn
 ·have:=(Prod.mk.inj (Prod.mk.inj e).2).1;exact absurd this (by decide)
def GiveP(w:World)(R:List Nd×Int×Nat×Nat)(r:Ending)(w':World):Prop :=
 (∃ (q:Option Addr) (cq:Nat),r=.returned (.tuple #[.slice q R.1.length cq,.int .i64 R.2.1,.int .i64 (R.2.2.1:Int),.int .i64 (R.2.2.2:Int)])∧R.1.length≤cq∧Nds w' q R.1∧∀x∈R.1,SzN x)∧Below w.heap.size w w'
theorem parse_is{s:List UInt8}{R:List Nd×Int×Nat×Nat}(h:PsIs s R)(hs:s.length≤20000)(hf:FewN s)(w:World)(hg:GoodP w):Calls Tryz.prog 7 #[.string ⟨s.toArray⟩] w (GiveP w R) :=
 (pparse_any s w hs hg hf).mono fun r w' ⟨R',q,cq,hp,e,hc,hn,hz,hb⟩=>by
  obtain rfl:=ps_det h hp;exact⟨⟨q,cq,e,hc,hn,hz⟩,hb⟩
end Go.Proofs.YtmllklfjngapiaaGreatDoor
set_option maxHeartbeats 4000000
set_option maxRecDepth 100000
namespace Go.Proofs.YtmllklfjngapiaaGreatDoor
open Go.RowKit
open Tm (Nd plainN checkT printT)
open Pz (PsIs)
def GivePE(w:World)(e:Int)(a b:Nat)(r:Ending)(w':World):Prop:=(∃ (q:Option Addr) (cq:Nat),r=.returned (.tuple #[.slice q 0 cq,.int .i64 e,.int .i64 (a:Int),.int .i64 (b:Int)]))∧Below w.heap.size w w'
def GivePT(w:World)(t:List Nd)(r:Ending)(w':World):Prop:=(∃ (q:Option Addr) (cq:Nat),r=.returned (.tuple #[.slice q t.length cq,.int .i64 0,.int .i64 0,.int .i64 0])∧t.length≤cq∧Nds w' q t∧∀x∈t,SzN x)∧Below w.heap.size w w'
theorem give_e{s:List UInt8}{e:Int}{a b:Nat}(h:PsIs s ([],e,a,b))(hs:s.length≤20000)(hf:FewN s)(w:World)(hg:GoodP w):Calls Tryz.prog 7 #[.string ⟨s.toArray⟩] w (GivePE w e a b) :=
 (parse_is h hs hf w hg).mono fun r w' ⟨⟨q,c,e,_⟩,b⟩=>⟨⟨q,c,e⟩,b⟩
theorem give_t{s:List UInt8}{t:List Nd}(h:PsIs s (t,0,0,0))(hs:s.length≤20000)(hf:FewN s)(w:World)(hg:GoodP w):Calls Tryz.prog 7 #[.string ⟨s.toArray⟩] w (GivePT w t) :=
 (parse_is h hs hf w hg).mono fun r w' ⟨⟨q,c,e,h1,h2,h3⟩,b⟩=>⟨⟨q,c,e,h1,h2,h3⟩,b⟩
theorem fp1(w:World)(hg:GoodP w):Calls Tryz.prog 7 #[.string ⟨#[112,120,40,120,44,32,53,41,32,45,32,50,32,42,32,45,40,49,32,43,32,109,97,120,40,121,49,44,32,50,41,41]⟩] w (GivePE w 110 1 26):=give_e Pz.fx1_is (by decide) (few_short (by decide)) w hg
theorem fp3(w:World)(hg:GoodP w):Calls Tryz.prog 7 #[.string ⟨#[112,120,40,120,44,32,53,41,32,45,32,50,32,42,32,45,121]⟩] w (GivePE w 110 1 17):=give_e Pz.fx3_is (by decide) (few_short (by decide)) w hg
theorem fp4(w:World)(hg:GoodP w):Calls Tryz.prog 7 #[.string ⟨#[40,49,32,43,10]⟩] w (GivePE w 110 1 5):=give_e Pz.fx4_is (by decide) (few_short (by decide)) w hg
theorem fp5(w:World)(hg:GoodP w):Calls Tryz.prog 7 #[.string ⟨#[]⟩] w (GivePE w 110 1 1):=give_e Pz.fx5_is (by decide) (few_short (by decide)) w hg
theorem fp2(w:World)(hg:GoodP w):Calls Tryz.prog 7 #[.string ⟨#[112,120,40,120,44,32,53,41,32,45,32,50,32,42,32,45,49,46,53,48]⟩] w (GivePT w Pz.fx2T):=give_t Pz.fx2_is (by decide) (few_short (by decide)) w hg
theorem rt_big{t:List Nd}(h:∀x∈t,SzN x):Hid (∀x∈t,x.num.1.length≤100000∧x.num.2.length≤100000∧x.ast.length≤4611686018427387904):=zh fun x hx=>⟨by have:=(h x hx).1.1;omega,by have:=(h x hx).1.2.1;omega,by have:=(h x hx).1.2.2;omega⟩
theorem fixed11_any(w:World)(hg:GoodP w):Calls Tryz.prog 6 #[] w (GiveB w true):=by
 have HG:=zh hg;clear hg;go_enter Tryz.func6,Tryz.ntmps6;go_wp2_with fail;refine(fp1 _ HG.out).mono ?_;rintro r w1 ⟨⟨q1,c1,rfl⟩,b1⟩;have HG1:=zh (HG.out.below b1);have B1:=zh b1
 clear b1 HG;go_wp2_with fail;refine(fp2 _ HG1.out).mono ?_;rintro r w2 ⟨⟨q2,c2,rfl,hc2,hn2,hz2⟩,b2⟩;have HG2:=zh (HG1.out.below b2);have B2:=zh (Below.more B1.out b2)
 have HN2:=zh hn2;have HZ2:=zh hz2
 clear b2 HG1 B1 hn2 hz2 hc2;have hl2:Pz.fx2T.length=6:=rfl;rw[hl2];go_wp2_with fail;refine(fp3 _ HG2.out).mono ?_;rintro r w3 ⟨⟨q3,c3,rfl⟩,b3⟩;have HG3:=zh (HG2.out.below b3);have B3:=zh (Below.more B2.out b3);have HN3:=zh (HN2.out.below b3)
 clear b3 HG2 B2 HN2;go_wp2_with fail;refine(fp4 _ HG3.out).mono ?_;rintro r w4 ⟨⟨q4,c4,rfl⟩,b4⟩;have HG4:=zh (HG3.out.below b4);have B4:=zh (Below.more B3.out b4);have HN4:=zh (HN3.out.below b4)
 clear b4 HG3 B3 HN3;go_wp2_with fail;refine(fp5 _ HG4.out).mono ?_;rintro r w5 ⟨⟨q5,c5,rfl⟩,b5⟩;have B5:=zh (Below.more B4.out b5);have HN5:=zh (HN4.out.below b5)
 clear b5 HG4 B4 HN4;have cp:=rtprint_any q2 c2 Pz.fx2T w5 (rt_big HZ2.out) HN5.out;rw[hl2,Pz.fx2_pr]at cp;have CP:=zh cp;clear cp HN5 HZ2;go_wp2_with fail;refine CP.out.mono ?_;rintro r w6 ⟨rfl,b6⟩;have B6:=zh (Below.more B5.out b6);clear b6 B5 CP;go_wp2_with fail;go_ret;exact⟨rfl,B6.out⟩
theorem hid_g{w w':World}(h:Hid (GoodP w))(b:Below w.heap.size w w'):Hid (GoodP w'):=zh (h.out.below b)
end Go.Proofs.YtmllklfjngapiaaGreatDoor
namespace Go.Proofs.YtmllklfjngapiaaGreatDoor
open Go.RowKit
open Tm (Nd plainN checkT printT)
open Pz (PsIs)
def GivePS(w:World)(s:List UInt8)(r:Ending)(w':World):Prop:=∃ (t:List Nd) (e:Int) (a b:Nat) (q:Option Addr) (cq:Nat),PsIs s (t,e,a,b)∧r=.returned (.tuple #[.slice q t.length cq,.int .i64 e,.int .i64 (a:Int),.int .i64 (b:Int)])∧Nds w' q t∧(∀x∈t,SzN x)∧Below w.heap.size w w'
theorem give_s{s:List UInt8}(hs:s.length≤20000)(hf:FewN s)(w:World)(hg:GoodP w):Calls Tryz.prog 7 #[.string ⟨s.toArray⟩] w (GivePS w s) :=
 (pparse_any s w hs hg hf).mono fun r w' ⟨⟨t,e,a,b⟩,q,cq,hp,er,hc,hn,hz,hb⟩=>⟨t,e,a,b,q,cq,hp,er,hn,hz,hb⟩
theorem term_len{s:List UInt8}{t:List Nd}{e:Int}{a b:Nat}(hf:FewN s)(h:PsIs s (t,e,a,b)):t.length≤2000:=by
 obtain⟨ts,er,x,y,hl,⟨h0,hR⟩|⟨h0,z,hp,hR⟩⟩:=h
 ·have:=(Prod.mk.inj hR).1;rw[this];exact Nat.zero_le _
 ·subst h0
  cases z with
  | bad e' n =>
   have:=(Prod.mk.inj hR).1;rw[this];exact Nat.zero_le _
  | ok r u =>
   by_cases hr:r=[]
   ·subst hr;have hR:(t,e,a,b)=if checkT u=0 then (u,(0:Int),0,0) else ([],100,1,1):=hR
    split at hR
    ·have:=(Prod.mk.inj hR).1;rw[this];exact hf ts x y hl u hp
    ·have:=(Prod.mk.inj hR).1;rw[this];exact Nat.zero_le _
   ·have hR:(t,e,a,b)=Pz.outR ts (if r=[] then .ok [] u else .bad 110 r.length):=hR;rw[if_neg hr]at hR;have:=(Prod.mk.inj hR).1;rw[this];exact Nat.zero_le _
theorem to_arr(x:ByteArray):x=⟨x.data.toList.toArray⟩:=by cases x;simp
end Go.Proofs.YtmllklfjngapiaaGreatDoor
