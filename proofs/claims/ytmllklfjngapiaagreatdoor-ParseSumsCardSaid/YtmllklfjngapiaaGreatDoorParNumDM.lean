/- Own work. -/
import Derived.Test.YtmllklfjngapiaaGreatDoorParNum6M
import Derived.Lib.Index
set_option linter.unusedSimpArgs false
set_option linter.unusedVariables false
namespace Go.Proofs.YtmllklfjngapiaaGreatDoor
namespace Pz
open Tm (Nd Tr plainN)
abbrev Wt:=Int×Nat
def tgt(o:Int):Nat:=if o=5 then 3 else if o=8∨o=9 then 2 else if o=6∨o=7 then 1 else 0
def Up(lev d:Nat)(x b:Rs):Prop:=match lev with
 | 0=>b=x
 | 1=>Par (.loop true) d x b
 | _=>∃a,Par (.loop false) d x a∧Par (.loop true) d a b
def Args(c d:Nat)(b b':Rs):Prop:=match c with
 | 0=>b'=b
 | c+1=>Par (.args (c+1)) d (signR [44] b) b'
def endOp(o:Int)(x:Rs):Rs:=if o=13 then x else pushR o x
def Con:List Wt→Nat→Nat→Rs→Rs→Prop
 | [],d,lev,x,y=>Up lev d x y
 | (o,c)::K,d,lev,x,y =>
  if tgt o=3 then Con K d 3 (pushR o x) y
  else if tgt o=2 then Con K d 2 (pushR o x) y
  else if tgt o=1 then ∃a,Par (.loop false) d x a∧Con K d 1 (pushR o a) y
  else ∃b b',Up lev d x b∧Args c d b b'∧Con K (d-1) 3 (endOp o (signR [41] b')) y
def DenOp(K:List Wt)(d:Nat)(r:List Pz.K)(t:List Nd)(y:Rs):Prop:=∃x,Par .minus d (.ok r t) x∧Con K d 3 x y
theorem con3{o:Int}(h:tgt o=3)(c:Nat)(K:List Wt)(d lev:Nat)(x y:Rs):Con ((o,c)::K) d lev x y=Con K d 3 (pushR o x) y:=by
 show (if tgt o=3 then _ else _)=_;rw[if_pos h]
theorem con2{o:Int}(h:tgt o=2)(c:Nat)(K:List Wt)(d lev:Nat)(x y:Rs):Con ((o,c)::K) d lev x y=Con K d 2 (pushR o x) y:=by
 show (if tgt o=3 then _ else if tgt o=2 then _ else _)=_;rw[if_neg (by omega),if_pos h]
theorem con1{o:Int}(h:tgt o=1)(c:Nat)(K:List Wt)(d lev:Nat)(x y:Rs):Con ((o,c)::K) d lev x y=∃a,Par (.loop false) d x a∧Con K d 1 (pushR o a) y:=by
 show (if tgt o=3 then _ else if tgt o=2 then _ else if tgt o=1 then _ else _)=_;rw[if_neg (by omega),if_neg (by omega),if_pos h]
theorem con0{o:Int}(h:tgt o=0)(c:Nat)(K:List Wt)(d lev:Nat)(x y:Rs):Con ((o,c)::K) d lev x y=∃b b',Up lev d x b∧Args c d b b'∧Con K (d-1) 3 (endOp o (signR [41] b')) y:=by
 show (if tgt o=3 then _ else if tgt o=2 then _ else if tgt o=1 then _ else _)=_;rw[if_neg (by omega),if_neg (by omega),if_neg (by omega)]
theorem tgt_le(o:Int):tgt o≤3:=by
 unfold tgt;split
 ·omega
 ·split
  ·omega
  ·split<;>omega
theorem tgt_cases(o:Int):tgt o=3∨tgt o=2∨tgt o=1∨tgt o=0:=by
 have:=tgt_le o;omega
theorem up_bad2(lev d:Nat)(e:Int)(n:Nat):Up lev d (.bad e n) (.bad e n):=by
 match lev with
 | 0=>exact rfl
 | 1=>exact .err _ _ _ _
 | _+2=>exact⟨_,.err _ _ _ _,.err _ _ _ _⟩
theorem args_bad(c d:Nat)(e:Int)(n:Nat):Args c d (.bad e n) (.bad e n):=by
 match c with
 | 0=>exact rfl
 | _+1=>exact .err _ _ _ _
theorem end_bad(o:Int)(e:Int)(n:Nat):endOp o (signR [41] (.bad e n))=.bad e n:=by
 unfold endOp;split<;>rfl
theorem con_bad:∀ (K:List Wt) (d lev:Nat) (e:Int) (n:Nat),Con K d lev (.bad e n) (.bad e n)
 | [],d,lev,e,n=>up_bad2 lev d e n
 | (o,c)::K,d,lev,e,n=>by
  rcases tgt_cases o with h|h|h|h
  ·rw[con3 h];exact con_bad K d 3 e n
  ·rw[con2 h];exact con_bad K d 2 e n
  ·rw[con1 h];exact⟨_,.err _ _ _ _,con_bad K d 1 e n⟩
  ·rw[con0 h];exact⟨_,_,up_bad2 _ _ _ _,args_bad _ _ _ _,by rw[end_bad];exact con_bad K (d-1) 3 e n⟩
def settleF(n:Nat):List Wt→List Nd→List Wt×List Nd
 | (o,c)::K,t=>if n≤tgt o then settleF n K (t++[plainN o]) else ((o,c)::K,t)
 | [],t=>([],t)
theorem settle_yes{n:Nat}{o:Int}(h:n≤tgt o)(c:Nat)(K:List Wt)(t:List Nd):settleF n ((o,c)::K) t=settleF n K (t++[plainN o]):=by
 show (if _ then _ else _)=_;rw[if_pos h]
theorem settle_no{n:Nat}{o:Int}(h:¬n≤tgt o)(c:Nat)(K:List Wt)(t:List Nd):settleF n ((o,c)::K) t=((o,c)::K,t):=by
 show (if _ then _ else _)=_;rw[if_neg h]
def Loose(n:Nat)(K:List Wt):Prop:=∀o c K',K=(o,c)::K'→tgt o<n
theorem settle_loose(n:Nat):∀ (K:List Wt) (t:List Nd),Loose n (settleF n K t).1
 | [],t=>fun o c K' h=>by cases h
 | (o,c)::K,t=>by
  by_cases h:n≤tgt o
  ·rw[settle_yes h];exact settle_loose n K _
  ·rw[settle_no h];intro o' c' K' e
   cases e
   omega
theorem settle_len(n:Nat):∀ (K:List Wt) (t:List Nd),(settleF n K t).1.length≤K.length∧(settleF n K t).2.length+(settleF n K t).1.length=t.length+K.length
 | [],t=>⟨Nat.le_refl _,rfl⟩
 | (o,c)::K,t=>by
  by_cases h:n≤tgt o
  ·rw[settle_yes h];have:=settle_len n K (t++[plainN o]);rw[List.length_append,List.length_singleton]at this;rw[List.length_cons];omega
  ·rw[settle_no h];exact⟨Nat.le_refl _,rfl⟩
theorem up_lev{lev d:Nat}(h:2≤lev){x b:Rs}(k:Up 2 d x b):Up lev d x b:=by
 match lev,h with
 | _+2,_=>exact k
theorem set2{d:Nat}{r:List Pz.K}{y:Rs}:∀ (K:List Wt) (t:List Nd) (lev:Nat),2≤lev→Con (settleF 2 K t).1 d 2 (.ok r (settleF 2 K t).2) y→Con K d lev (.ok r t) y
 | [],t,lev,hl,h=>up_lev hl h
 | (o,c)::K,t,lev,hl,h=>by
  rcases tgt_cases o with e|e|e|e
  ·rw[settle_yes (by omega)]at h;rw[con3 e];exact set2 K _ 3 (by omega) h
  ·rw[settle_yes (by omega)]at h;rw[con2 e];exact set2 K _ 2 (by omega) h
  ·rw[settle_no (by omega)]at h;dsimp only at h;rw[con1 e]at h ⊢;exact h
  ·rw[settle_no (by omega)]at h;dsimp only at h;rw[con0 e]at h ⊢;obtain⟨b,b',h1,h2,h3⟩:=h;exact⟨b,b',up_lev hl h1,h2,h3⟩
theorem up_one{lev d:Nat}(h:1≤lev){r:List Pz.K}{t:List Nd}{b:Rs}(h0:opOf false r=none)(k:Up 1 d (.ok r t) b):Up lev d (.ok r t) b:=by
 match lev,h with
 | 1,_=>exact k
 | _+2,_=>exact⟨_,.lend _ _ _ _ h0,k⟩
theorem set1{d:Nat}{r:List Pz.K}{y:Rs}(h0:opOf false r=none):∀ (K:List Wt) (t:List Nd) (lev:Nat),1≤lev→Con (settleF 1 K t).1 d 1 (.ok r (settleF 1 K t).2) y→Con K d lev (.ok r t) y
 | [],t,lev,hl,h=>up_one hl h0 h
 | (o,c)::K,t,lev,hl,h=>by
  rcases tgt_cases o with e|e|e|e
  ·rw[settle_yes (by omega)]at h;rw[con3 e];exact set1 h0 K _ 3 (by omega) h
  ·rw[settle_yes (by omega)]at h;rw[con2 e];exact set1 h0 K _ 2 (by omega) h
  ·rw[settle_yes (by omega)]at h;rw[con1 e];exact⟨_,.lend _ _ _ _ h0,set1 h0 K _ 1 (by omega) h⟩
  ·rw[settle_no (by omega)]at h;dsimp only at h;rw[con0 e]at h ⊢;obtain⟨b,b',h1,h2,h3⟩:=h;exact⟨b,b',up_one hl h0 h1,h2,h3⟩
theorem set0{d:Nat}{r:List Pz.K}{t:List Nd}{y:Rs}(h0:opOf true r=none){K:List Wt}(hK:Loose 1 K)(h:Con K d 0 (.ok r t) y):Con K d 1 (.ok r t) y:=by
 match K,hK,h with
 | [],_,h =>
  have h:y=.ok r t:=h;subst h;exact .lend _ _ _ _ h0
 | (o,c)::K,hK,h =>
  have e:tgt o=0:=by have:=hK o c K rfl;omega
  rw[con0 e]at h ⊢;obtain⟨b,b',h1,h2,h3⟩:=h;have h1:b=.ok r t:=h1;subst h1;exact⟨_,b',.lend _ _ _ _ h0,h2,h3⟩
theorem op_tgt2{r:List Pz.K}{o:Int}(h:opOf false r=some o):tgt o=2:=by
 match r,h with
 | k::r,h =>
  have h:(if k=(2,[42]) then some (8:Int) else if k=(2,[47]) then some 9 else none)=some o:=h;split at h
  ·cases h;rfl
  ·split at h
   ·cases h;rfl
   ·cases h
theorem op_tgt1{r:List Pz.K}{o:Int}(h:opOf true r=some o):tgt o=1:=by
 match r,h with
 | k::r,h =>
  have h:(if k=(2,[43]) then some (6:Int) else if k=(2,[45]) then some 7 else none)=some o:=h;split at h
  ·cases h;rfl
  ·split at h
   ·cases h;rfl
   ·cases h
theorem up_two{d:Nat}{k:Pz.K}{r:List Pz.K}{t:List Nd}{o:Int}{x b:Rs}(h0:opOf false (k::r)=some o)(hx:Par .minus d (.ok r t) x)(h:Up 2 d (pushR o x) b):Up 2 d (.ok (k::r) t) b:=by
 obtain⟨a,h1,h2⟩:=h;exact⟨a,.lgo _ _ _ _ _ _ _ _ h0 hx h1,h2⟩
theorem go_mul{d:Nat}{k:Pz.K}{r:List Pz.K}{t:List Nd}{o:Int}{y:Rs}(h0:opOf false (k::r)=some o){K:List Wt}(hK:Loose 2 K)(h:DenOp ((o,0)::K) d r t y):Con K d 2 (.ok (k::r) t) y:=by
 obtain⟨x,hx,hc⟩:=h;rw[con2 (op_tgt2 h0)]at hc
 match K,hK,hc with
 | [],_,hc=>exact up_two h0 hx hc
 | (o',c)::K,hK,hc =>
  have e:tgt o'<2:=hK o' c K rfl;rcases(by omega:tgt o'=1∨tgt o'=0) with e|e
  ·rw[con1 e]at hc ⊢;obtain⟨a,h1,h2⟩:=hc;exact⟨a,.lgo _ _ _ _ _ _ _ _ h0 hx h1,h2⟩
  ·rw[con0 e]at hc ⊢;obtain⟨b,b',h1,h2,h3⟩:=hc;exact⟨b,b',up_two h0 hx h1,h2,h3⟩
theorem go_add{d:Nat}{k:Pz.K}{r:List Pz.K}{t:List Nd}{o:Int}{y:Rs}(h0:opOf true (k::r)=some o){K:List Wt}(hK:Loose 1 K)(h:DenOp ((o,0)::K) d r t y):Con K d 1 (.ok (k::r) t) y:=by
 obtain⟨x,hx,hc⟩:=h;rw[con1 (op_tgt1 h0)]at hc;obtain⟨a,h1,hc⟩:=hc;have hb:Par (.bin false) d (.ok r t) a:=.bin _ _ _ _ _ _ hx h1
 match K,hK,hc with
 | [],_,hc=>exact .lgo _ _ _ _ _ _ _ _ h0 hb hc
 | (o',c)::K,hK,hc =>
  have e:tgt o'=0:=by have:=hK o' c K rfl;omega
  rw[con0 e]at hc ⊢;obtain⟨b,b',h1,h2,h3⟩:=hc;exact⟨b,b',.lgo _ _ _ _ _ _ _ _ h0 hb h1,h2,h3⟩
theorem go_neg{K:List Wt}{d:Nat}{r:List Pz.K}{t:List Nd}{y:Rs}(h:DenOp ((5,0)::K) d r t y):DenOp K d ((2,[45])::r) t y:=by
 obtain⟨x,hx,hc⟩:=h;rw[con3 rfl]at hc;exact⟨_,.mgo _ _ _ _ hx,hc⟩
theorem go_leaf{K:List Wt}{d:Nat}{r:List Pz.K}{t:List Nd}{x y:Rs}(h0:sg [45] r=none)(hl:leafR r t=some x)(h:Con K d 3 x y):DenOp K d r t y :=
 ⟨x,.mend _ _ _ _ h0 (.leaf _ _ _ _ hl),h⟩
theorem minus_at{d:Nat}{k:Pz.K}{r:List Pz.K}{t:List Nd}{a:Rs}(h:¬k=(2,[45]))(p:Par .atom d (.ok (k::r) t) a):Par .minus d (.ok (k::r) t) a :=
 .mend _ _ _ _ (by rw[sg_cons,if_neg h]) p
theorem openK_yes{d:Nat}(h:d<200)(r:List Pz.K)(t:List Nd):openR d (.ok ((2,[40])::r) t)=.ok r t:=by
 unfold openR;dsimp only;rw[sg_yes];dsimp only;rw[if_neg (by omega)]
theorem openK_deep{d:Nat}(h:200≤d)(r:List Pz.K)(t:List Nd):openR d (.ok ((2,[40])::r) t)=.bad 111 (r.length+1):=by
 unfold openR;dsimp only;rw[sg_yes];dsimp only;rw[if_pos h]
 rfl
theorem openK_no{d:Nat}{r:List Pz.K}(h:sg [40] r=none)(t:List Nd):openR d (.ok r t)=.bad 110 r.length:=by
 unfold openR;dsimp only;rw[h]
theorem signK_yes(s:List UInt8)(r:List Pz.K)(t:List Nd):signR s (.ok ((2,s)::r) t)=.ok r t:=by
 unfold signR;dsimp only;rw[sg_yes]
theorem signK_no{s:List UInt8}{r:List Pz.K}(h:sg s r=none)(t:List Nd):signR s (.ok r t)=.bad 110 r.length:=by
 unfold signR;dsimp only;rw[h]
theorem go_open{K:List Wt}{d:Nat}{r:List Pz.K}{t:List Nd}{y:Rs}(hd:d<200)(h:DenOp ((13,0)::K) (d+1) r t y):DenOp K d ((2,[40])::r) t y:=by
 obtain⟨x,hx,hc⟩:=h;rw[con0 rfl]at hc;obtain⟨b,b',⟨a,h1,h2⟩,h3,h4⟩:=hc;have h3:b'=b:=h3;subst h3;have hp:Par (.bin true) (d+1) (.ok r t) b':=.bin _ _ _ _ _ _ (.bin _ _ _ _ _ _ hx h1) h2;have ho:=openK_yes hd r t;exact⟨signR [41] b',minus_at (by decide) (.paren d r t b' (by rw[ho];exact hp)),h4⟩
theorem go_open_deep{K:List Wt}{d:Nat}{r:List Pz.K}{t:List Nd}(hd:200≤d):DenOp K d ((2,[40])::r) t (.bad 111 (r.length+1)):=by
 have ho:=openK_deep hd r t;exact⟨signR [41] (.bad 111 (r.length+1)),minus_at (by decide) (.paren d r t (.bad 111 (r.length+1)) (by rw[ho];exact .err _ _ _ _)),con_bad _ _ _ _ _⟩
theorem call_ne{k:Pz.K}{op:Int}(h:callOp k=some op):¬k=(2,[45]):=fun e=>by
 rw[e]at h;have k:callOp (2,[45])=none:=rfl;rw[k]at h;cases h
theorem args_all{c d:Nat}{r:List Pz.K}{t:List Nd}{b b':Rs}(h1:Par (.bin true) d (.ok r t) b)(h2:Args c d b b'):Par (.args (c+1)) d (.ok r t) b':=by
 match c,h2 with
 | 0,h2 =>
  have h2:b'=b:=h2;subst h2;exact .one _ _ _ _ h1
 | c+1,h2=>exact .more _ _ _ _ _ _ h1 h2
theorem op_vals{s:List UInt8}{o:Int}(h:opName s=some o):o=0∨o=1∨o=2∨o=3∨o=4∨o=10∨o=11∨o=12:=by
 unfold opName at h
 repeat' split at h
 all_goals first|(cases h;done)|(injection h with h;omega)
theorem call_tgt{k:Pz.K}{op:Int}(h:callOp k=some op):op=10∨op=11∨op=12:=by
 unfold callOp at h;by_cases h0:k.1=0
 ·rw[if_pos h0]at h
  cases e:opName k.2 with
  | none=>rw[e]at h;cases h
  | some o =>
   rw[e]at h;dsimp only at h;split at h
   ·injection h with h
    have:=op_vals e;omega
   ·cases h
 ·rw[if_neg h0]at h;cases h
theorem go_call{K:List Wt}{d:Nat}{k:Pz.K}{r:List Pz.K}{t:List Nd}{op:Int}{c:Nat}{y:Rs}(hk:callOp k=some op)(hc:Tm.arN op=some (c+1))(hd:d<200)(h:DenOp ((op,c)::K) (d+1) r t y):DenOp K d (k::(2,[40])::r) t y:=by
 have ht:tgt op=0:=by rcases call_tgt hk with rfl|rfl|rfl<;>rfl
 have hn:¬op=13:=by rcases call_tgt hk with rfl|rfl|rfl<;>decide
 obtain⟨x,hx,hc'⟩:=h;rw[con0 ht]at hc';obtain⟨b,b',⟨a,h1,h2⟩,h3,h4⟩:=hc';have hp:Par (.bin true) (d+1) (.ok r t) b:=.bin _ _ _ _ _ _ (.bin _ _ _ _ _ _ hx h1) h2;have ho:=openK_yes hd r t;unfold endOp at h4;rw[if_neg hn]at h4;exact⟨pushR op (signR [41] b'),minus_at (call_ne hk) (.call _ _ _ _ _ _ b' hk hc (by rw[ho];exact args_all hp h3)),h4⟩
theorem go_call_bad{K:List Wt}{d:Nat}{k:Pz.K}{r:List Pz.K}{t:List Nd}{op:Int}{m:Nat}{e:Int}{n:Nat}(hk:callOp k=some op)(hc:Tm.arN op=some m)(ho:openR d (.ok r t)=.bad e n):DenOp K d (k::r) t (.bad e n) :=
 ⟨pushR op (signR [41] (.bad e n)),minus_at (call_ne hk) (.call _ _ _ _ _ _ (.bad e n) hk hc (by rw[ho];exact .err _ _ _ _)),con_bad _ _ _ _ _⟩
theorem go_part{K:List Wt}{d c:Nat}{r:List Pz.K}{t:List Nd}{o:Int}{y:Rs}(ho:tgt o=0)(h:DenOp ((o,c)::K) d r t y):Con ((o,c+1)::K) d 0 (.ok ((2,[44])::r) t) y:=by
 obtain⟨x,hx,hc⟩:=h;rw[con0 ho]at hc ⊢;obtain⟨b,b',⟨a,h1,h2⟩,h3,h4⟩:=hc;have hp:Par (.bin true) d (.ok r t) b:=.bin _ _ _ _ _ _ (.bin _ _ _ _ _ _ hx h1) h2;refine⟨_,b',rfl,?_,h4⟩;show Par (.args (c+1)) d (signR [44] (.ok ((2,[44])::r) t)) b';have e:=signK_yes [44] r t;rw[e];exact args_all hp h3
theorem go_end{K:List Wt}{d:Nat}{r:List Pz.K}{t:List Nd}{o:Int}{y:Rs}(ho:tgt o=0)(h:Con K (d-1) 3 (endOp o (.ok r t)) y):Con ((o,0)::K) d 0 (.ok ((2,[41])::r) t) y:=by
 rw[con0 ho];refine⟨_,_,rfl,rfl,?_⟩;have e:=signK_yes [41] r t;rw[e];exact h
theorem go_stuck{K:List Wt}{d:Nat}{r:List Pz.K}{t:List Nd}(hK:Loose 1 K)(h0:K=[]→r≠[])(h1:∀o c K',K=(o,c)::K'→(c=0→sg [41] r=none)∧(c≠0→sg [44] r=none)) :
  ∃y,Con K d 0 (.ok r t) y∧endR y=.bad 110 r.length:=by
 match K,hK,h0,h1 with
 | [],_,h0,_ =>
  refine⟨_,rfl,?_⟩;show (if r=[] then _ else _)=_;rw[if_neg (h0 rfl)]
 | (o,c)::K,hK,_,h1 =>
  have e:tgt o=0:=by have:=hK o c K rfl;omega
  obtain⟨k1,k2⟩:=h1 o c K rfl;refine⟨.bad 110 r.length,?_,rfl⟩;rw[con0 e]
  match c,k1,k2 with
  | 0,k1,_ =>
   refine⟨_,_,rfl,rfl,?_⟩;rw[signK_no (k1 rfl),show endOp o (.bad 110 r.length)=.bad 110 r.length by unfold endOp;split<;>rfl];exact con_bad _ _ _ _ _
  | c+1,_,k2 =>
   refine⟨_,.bad 110 r.length,rfl,?_,?_⟩
   ·show Par (.args (c+1)) d (signR [44] (.ok r t)) _;rw[signK_no (k2 (by omega))];exact .err _ _ _ _
   ·rw[end_bad];exact con_bad _ _ _ _ _
theorem go_first{l:List Pz.K}{t:List Nd}{y:Rs}(h:DenOp [] 0 l t y):Par (.bin true) 0 (.ok l t) y:=by
 obtain⟨x,hx,a,h1,h2⟩:=h;exact .bin _ _ _ _ _ _ (.bin _ _ _ _ _ _ hx h1) h2
end Pz
namespace Pz
open Tm (Nd Tr plainN)
open Wd (okT kl)
theorem ok_kind{k:Nat×List UInt8}(h:okT k):∃x r,k.2=x::r∧((k.1=0∧Wd.isLet x=true)∨(k.1=1∧Wd.isDig x=true∧Wd.isLet x=false)∨(k.1=2∧r=[]∧Wd.isSgn x=true)):=by
 obtain⟨x,r,e,_,_,hk⟩:=h;refine⟨x,r,e,?_⟩;rw[e]at hk;rw[Wd.kl_cons]at hk
 cases h1:Wd.isLet x with
 | true =>
  rw[h1,if_pos rfl]at hk;split at hk
  ·have:=(Prod.mk.inj (Option.some.inj hk)).1;exact .inl ⟨this.symm,rfl⟩
  ·cases hk
 | false =>
  rw[h1,if_neg (by decide)]at hk
  cases h2:Wd.isDig x with
  | true =>
   rw[h2,if_pos rfl]at hk;split at hk
   ·have:=(Prod.mk.inj (Option.some.inj hk)).1;exact .inr (.inl ⟨this.symm,rfl,rfl⟩)
   ·cases hk
  | false =>
   rw[h2,if_neg (by decide)]at hk
   cases h3:Wd.isSgn x with
   | true =>
    rw[h3,if_pos rfl]at hk;obtain⟨a,b⟩:=Prod.mk.inj (Option.some.inj hk);refine .inr (.inr ⟨a.symm,?_,rfl⟩);have:r.length=0:=by simpa using b
    exact List.length_eq_zero_iff.1 this
   | false=>rw[h3,if_neg (by decide)]at hk;cases hk
theorem sgn_cases{x:UInt8}(h:Wd.isSgn x=true):x=43∨x=45∨x=42∨x=47∨x=40∨x=41∨x=44:=by
 unfold Wd.isSgn at h;simp only[Bool.or_eq_true,beq_iff_eq]at h;rcases h with (((((h|h)|h)|h)|h)|h)|h
 ·exact .inl h
 ·exact .inr (.inl h)
 ·exact .inr (.inr (.inl h))
 ·exact .inr (.inr (.inr (.inl h)))
 ·exact .inr (.inr (.inr (.inr (.inl h))))
 ·exact .inr (.inr (.inr (.inr (.inr (.inl h)))))
 ·exact .inr (.inr (.inr (.inr (.inr (.inr h)))))
theorem let_nsgn{x:UInt8}(h:Wd.isLet x=true):Wd.isSgn x=false:=by
 cases e:Wd.isSgn x with
 | false=>rfl
 | true=>rcases sgn_cases e with rfl|rfl|rfl|rfl|rfl|rfl|rfl<;>exact absurd h (by decide)
theorem dig_nsgn{x:UInt8}(h:Wd.isDig x=true):Wd.isSgn x=false:=by
 cases e:Wd.isSgn x with
 | false=>rfl
 | true=>rcases sgn_cases e with rfl|rfl|rfl|rfl|rfl|rfl|rfl<;>exact absurd h (by decide)
theorem ok_sign{k:Nat×List UInt8}(h:okT k){b:UInt8}(hb:Wd.isSgn b=true):(k.2=[b])↔k=(2,[b]):=by
 constructor
 ·intro e;obtain⟨x,r,e',hk⟩:=ok_kind h;rw[e]at e';obtain⟨rfl,rfl⟩:=List.cons.inj e';rcases hk with ⟨_,h1⟩|⟨_,h1,_⟩|⟨h1,_,_⟩
  ·rw[let_nsgn h1]at hb;cases hb
  ·rw[dig_nsgn h1]at hb;cases hb
  ·exact Prod.ext h1 e
 ·intro e;rw[e]
def idx4(s:List UInt8):Int:=Lib.index [43,45,42,47] s
theorem idx_none{x:UInt8}{r:List UInt8}(h:x≠43∧x≠45∧x≠42∧x≠47):idx4 (x::r)=-1:=by
 obtain⟨h1,h2,h3,h4⟩:=h;have e:∀ (b:UInt8) (l:List UInt8),x≠b→(x::r).isPrefixOf (b::l)=false:=fun b l hb=>by
  show ((x==b)&&r.isPrefixOf l)=false;rw[beq_false_of_ne hb];rfl
 unfold idx4;have k0:Lib.index [] (x::r)=-1:=rfl;have k1:∀ (b:UInt8) (l:List UInt8),x≠b→Lib.index l (x::r)=-1→Lib.index (b::l) (x::r)=-1:=fun b l hb h=>by
  show (if (x::r).isPrefixOf (b::l) then (0:Int) else if Lib.index l (x::r) == -1 then -1 else Lib.index l (x::r)+1)=-1;rw[e b l hb,h];rfl
 exact k1 _ _ h1 (k1 _ _ h2 (k1 _ _ h3 (k1 _ _ h4 k0)))
theorem inf_cases{k:Nat×List UInt8}(h:okT k):(k=(2,[43])∧idx4 k.2=0)∨(k=(2,[45])∧idx4 k.2=1)∨(k=(2,[42])∧idx4 k.2=2)∨(k=(2,[47])∧idx4 k.2=3)∨(idx4 k.2=-1∧k≠(2,[43])∧k≠(2,[45])∧k≠(2,[42])∧k≠(2,[47])):=by
 have hne:∀ {x:UInt8} {r:List UInt8},k.2=x::r→(x≠43∧x≠45∧x≠42∧x≠47)→(idx4 k.2=-1∧k≠(2,[43])∧k≠(2,[45])∧k≠(2,[42])∧k≠(2,[47])):=fun {x r} e hx=>by
  refine⟨by rw[e];exact idx_none hx,?_,?_,?_,?_⟩<;>intro c<;>rw[c]at e<;>have:=(List.cons.inj e).1
  ·exact hx.1 this.symm
  ·exact hx.2.1 this.symm
  ·exact hx.2.2.1 this.symm
  ·exact hx.2.2.2 this.symm
 obtain⟨x,r,e,hk⟩:=ok_kind h;rcases hk with ⟨h0,h1⟩|⟨h0,h1,_⟩|⟨h0,h1,h2⟩
 ·refine .inr (.inr (.inr (.inr (hne e ⟨?_,?_,?_,?_⟩))))<;>rintro rfl<;>exact absurd h1 (by decide)
 ·refine .inr (.inr (.inr (.inr (hne e ⟨?_,?_,?_,?_⟩))))<;>rintro rfl<;>exact absurd h1 (by decide)
 ·subst h1;have hk:k=(2,[x]):=Prod.ext h0 e;rcases sgn_cases h2 with rfl|rfl|rfl|rfl|rfl|rfl|rfl
  ·subst hk;exact .inl ⟨rfl,by decide⟩
  ·subst hk;exact .inr (.inl ⟨rfl,by decide⟩)
  ·subst hk;exact .inr (.inr (.inl ⟨rfl,by decide⟩))
  ·subst hk;exact .inr (.inr (.inr (.inl ⟨rfl,by decide⟩)))
  ·exact .inr (.inr (.inr (.inr (hne e (by decide)))))
  ·exact .inr (.inr (.inr (.inr (hne e (by decide)))))
  ·exact .inr (.inr (.inr (.inr (hne e (by decide)))))
theorem inf_yes{k:Nat×List UInt8}(h:okT k)(hi:0≤idx4 k.2)(r:List Pz.K):idx4 k.2≤3∧((opOf true (k::r)=some (6+idx4 k.2)∧opOf false (k::r)=none)∨(opOf false (k::r)=some (6+idx4 k.2)∧opOf true (k::r)=none)):=by
 rcases inf_cases h with ⟨e,e2⟩|⟨e,e2⟩|⟨e,e2⟩|⟨e,e2⟩|⟨e,_⟩
 ·rw[e2];subst e;exact⟨by decide,.inl ⟨rfl,rfl⟩⟩
 ·rw[e2];subst e;exact⟨by decide,.inl ⟨rfl,rfl⟩⟩
 ·rw[e2];subst e;exact⟨by decide,.inr ⟨rfl,rfl⟩⟩
 ·rw[e2];subst e;exact⟨by decide,.inr ⟨rfl,rfl⟩⟩
 ·omega
theorem inf_no{k:Nat×List UInt8}(h:okT k)(hi:idx4 k.2<0)(l:Bool)(r:List Pz.K):opOf l (k::r)=none:=by
 rcases inf_cases h with ⟨e,e2⟩|⟨e,e2⟩|⟨e,e2⟩|⟨e,e2⟩|⟨_,h1,h2,h3,h4⟩
 ·omega
 ·omega
 ·omega
 ·omega
 ·show (if l then (if k=(2,[43]) then some (6:Int) else if k=(2,[45]) then some 7 else none) else (if k=(2,[42]) then some 8 else if k=(2,[47]) then some 9 else none))=none;rw[if_neg h1,if_neg h2,if_neg h3,if_neg h4];split<;>rfl
theorem op_kind{k:Nat×List UInt8}(h:okT k){o:Int}(ho:opName k.2=some o):k.1=0:=by
 obtain⟨x,r,e,hk⟩:=ok_kind h;rcases hk with ⟨h0,_⟩|⟨_,h1,_⟩|⟨_,_,h2⟩
 ·exact h0
 ·exfalso;rw[e]at ho;unfold opName at ho
  repeat' split at ho
  all_goals first|(cases ho;done)|(rename_i c;obtain⟨rfl,rfl⟩:=List.cons.inj c;exact absurd h1 (by decide))
 ·exfalso;rw[e]at ho;unfold opName at ho
  repeat' split at ho
  all_goals first|(cases ho;done)|(rename_i c;obtain⟨rfl,rfl⟩:=List.cons.inj c;exact absurd h2 (by decide))
theorem nat_kind{k:Nat×List UInt8}(h:okT k)(hn:isNat k.2=true):k.1=1:=by
 obtain⟨x,r,e,hk⟩:=ok_kind h;have hx:isDig x=true:=by
  unfold isNat at hn;rw[e]at hn;simp only[Bool.and_eq_true,List.all_cons]at hn;exact hn.2.1
 rcases hk with ⟨_,h1⟩|⟨h0,_⟩|⟨_,_,h2⟩
 ·exfalso;unfold Wd.isLet at h1;unfold isDig at hx;simp only[Bool.and_eq_true,decide_eq_true_eq]at h1 hx;omega
 ·exact h0
 ·rw[dig_nsgn hx]at h2;cases h2
theorem small_kind{k:Nat×List UInt8}(h:okT k)(hn:(smallS k.2).2=true):k.1=1:=by
 refine nat_kind h ?_;unfold smallS at hn
 cases e:isNat k.2 with
 | true=>rfl
 | false=>rw[e,Bool.false_and,if_neg (by decide)]at hn;cases hn
theorem digs_head{x:UInt8}{l:List UInt8}(h:isDig x=false):digs (x::l)=false:=by
 unfold digs;rw[List.all_cons,h];simp
theorem parts_let{x:UInt8}{r:List UInt8}(h:isDig x=false)(h1:x≠47)(h2:x≠46):partsD (x::r)=none:=by
 unfold partsD;have e1:∀c:UInt8,x≠c→(x::r).idxOf c=r.idxOf c+1:=fun c hc=>by
  rw[List.idxOf_cons,beq_false_of_ne hc];rfl
 rw[e1 47 h1,e1 46 h2,List.take_succ_cons,List.take_succ_cons,digs_head h,digs_head h,digs_head h];simp
theorem num_kind{k:Nat×List UInt8}(h:okT k)(hn:(parS k.2).2=0):k.1=1:=by
 obtain⟨x,r,e,hk⟩:=ok_kind h;rcases hk with ⟨_,h1⟩|⟨h0,_⟩|⟨_,h1,h2⟩
 ·exfalso;rw[e]at hn;have hd:isDig x=false:=by
   unfold Wd.isLet at h1;unfold isDig;simp only[Bool.and_eq_true,decide_eq_true_eq]at h1;simp only[Bool.and_eq_false_iff,decide_eq_false_iff_not];omega
  have hx:∀c:UInt8,Wd.isLet c=false→x≠c:=fun c hc e=>by rw[e,hc]at h1;cases h1
  have hu:unD (x::r)=(false,x::r):=by
   unfold unD;rw[List.head?_cons,if_neg (fun c=>hx 45 (by decide) (Option.some.inj c))]
  unfold parS parU at hn;rw[hu]at hn;dsimp only at hn;rw[parts_let hd (hx 47 (by decide)) (hx 46 (by decide))]at hn;split at hn
  ·cases hn
  ·cases hn
 ·exact h0
 ·exfalso;subst h1;rw[e]at hn;rcases sgn_cases h2 with rfl|rfl|rfl|rfl|rfl|rfl|rfl<;>exact absurd hn (by decide +kernel)
theorem isW_nat{a:List UInt8}(h:isNat a=true):isW a=true:=by
 rw[isW_plain ?_]
 ·exact h
 ·intro e
  cases a with
  | nil=>cases e
  | cons x r =>
   obtain rfl:x=45:=Option.some.inj e;unfold isNat at h;simp only[Bool.and_eq_true,List.all_cons]at h;exact absurd h.2.1 (by decide)
theorem valW_ne{b:List UInt8}(h:isNat b=true)(h0:b≠[48]):valW b≠0:=by
 rcases isW_cases (isW_nat h) with ⟨_,e⟩|⟨r,e,_⟩
 ·rw[e];intro c;have c:valS b=0:=by omega
  have k:=dig_valS h;rw[c,dig_nought]at k;exact h0 k.symm
 ·subst e;unfold isNat at h;simp only[Bool.and_eq_true,List.all_cons]at h;exact absurd h.2.1 (by decide)
theorem neg_make{a b:List UInt8}(ha:isNat a=true)(hb:isNat b=true)(h0:b≠[48]):negR (makeR a b).1=(makeR (negW a) b).1:=by
 have wa:=isW_nat ha;have wb:=isW_nat hb;have vb:valW b≠0:=valW_ne hb h0;have e:negW a=wd (-valW a):=by unfold negW;rw[wa];rfl
 rw[makeR_yes wa wb vb,e,makeR_yes (isW_wd _) wb vb,valW_wd];unfold negR;rw[isR_rd,valR_rd,if_pos rfl,← Rat.neg_divInt]
end Pz
end Go.Proofs.YtmllklfjngapiaaGreatDoor
