/- Own work. -/
import Derived.Test.YtmllklfjngapiaaGreatDoorParNum4M
set_option linter.unusedSimpArgs false
set_option linter.unusedVariables false
namespace Go.Proofs.YtmllklfjngapiaaGreatDoor
namespace Pz
open Tm (Nd Tr plainN okN okT arN decB isR_w leafP aboveP pr sepB)
open Wd (lexAt ktT kl run numL dotD)
theorem pad_digs(n:Nat)(l:List UInt8)(h:digs l=true):(padD n l).all isDig=true:=by
 unfold digs at h;simp only[Bool.and_eq_true]at h;unfold padD;rw[List.all_append,h.2,Bool.and_true];exact List.all_eq_true.2 fun c hc=>by rw[(List.mem_replicate.1 hc).2];rfl
theorem digs_of{l:List UInt8}(h:l.all isDig=true)(hl:1≤l.length):digs l=true:=by
 unfold digs;rw[h,Bool.and_true]
 match l,hl with
 | x::r,_=>rfl
theorem body_lex{k N:Nat}(hk:k≤20)(hN:(dig N).length≤80){v:List UInt8}(hv:sepB v=true):Lx (bodyD k (dig N)) [(1,bodyD k (dig N))] v:=by
 by_cases k0:k=0
 ·have e:bodyD k (dig N)=dig N:=by unfold bodyD;rw[if_pos k0]
  rw[e];exact Lx.nat (digs_dig N) (by omega) hv
 ·have e:bodyD k (dig N)=ptD k (padD (k+1) (dig N)):=by unfold bodyD;rw[if_neg k0]
  have hp:=pad_digs (k+1) (dig N) (digs_dig N);have hl1:=pad_len (k+1) (dig N);have hl2:(padD (k+1) (dig N)).length≤80:=by
   unfold padD;rw[List.length_append,List.length_replicate];omega
  rw[e];generalize padD (k+1) (dig N)=s at *;unfold ptD;refine Lx.point (digs_of ?_ ?_) (digs_of ?_ ?_) ?_ hv
  ·exact List.all_eq_true.2 fun c hc=>List.all_eq_true.1 hp c (List.mem_of_mem_take hc)
  ·rw[List.length_take];omega
  ·exact List.all_eq_true.2 fun c hc=>List.all_eq_true.1 hp c (List.mem_of_mem_drop hc)
  ·rw[List.length_drop];omega
  ·rw[List.length_take,List.length_drop];omega
theorem lit_name{u:List UInt8}(h1:u.all Wd.isLD=true)(h2:∃x r,u=x::r∧Wd.isLet x=true)(hl:u.length≤20){v:List UInt8}(hv:∃r,v=40::r):Lx u [(0,u)] v:=by
 refine Lx.name h1 h2 hl fun c r e=>?_;obtain⟨q,rfl⟩:=hv
 cases e;rfl
theorem par_lex(v:List UInt8):Lx [40] [(2,[40])] v:=Lx.sign (b:=40) rfl v
theorem shut_lex(v:List UInt8):Lx [41] [(2,[41])] v:=Lx.sign (b:=41) rfl v
theorem com_lex(s v:List UInt8)(ks:List K)(h:Lx s ks v):Lx (44::32::s) ((2,[44])::ks) v:=(Lx.sign (b:=44) rfl _).join ((Lx.blank _).join h)
theorem sep_comma(v:List UInt8):sepB (44::v)=true:=rfl
theorem sep_shut(v:List UInt8):sepB (41::v)=true:=rfl
theorem sep_blank(v:List UInt8):sepB (32::v)=true:=rfl
theorem whole_lex{q:Key}(hr:isR q=true)(h1:(absW q.1).length≤60){v:List UInt8}(hv:sepB v=true):Lx q.1 (wholeK q.1) v:=by
 rcases isW_cases (isR_w hr).1 with ⟨k,e⟩|⟨s,e,k,e1,e2⟩
 ·have hw:wholeK q.1=[(1,q.1)]:=by
   unfold wholeK;rw[if_neg];intro h;have hm:(45:UInt8)∈q.1:=by
    cases hq:q.1 with
    | nil=>rw[hq]at h;cases h
    | cons c r=>rw[hq]at h;cases h;exact List.mem_cons_self ..
   exact Tm.not_n k (by decide) hm
  have hl:q.1.length≤60:=by
   have:absW q.1=q.1:=by
    unfold absW;rw[if_pos (isR_w hr).1,e,Int.natAbs_natCast,dig_valS k]
   rwa[this]at h1
  rw[hw];exact Lx.nat (nat_digs k) (by omega) hv
 ·have hl:=Tm.w_len (isR_w hr).1;rw[e]at hl ⊢;have hw:wholeK (45::s)=[(2,[45])]++[(1,s)]:=rfl;rw[hw];have hs:s.length≤60:=by
   rw[e]at h1;simp only[List.length_cons]at hl;omega
  exact(Lx.sign (b:=45) rfl (s++v)).join (Lx.nat (nat_digs k) (by omega) hv)
theorem of_lex{n:Int}(h0:0≤n)(h:n≤9999){v:List UInt8}(hv:sepB v=true):Lx (ofS n) [(1,ofS n)] v:=by
 have hl:=Tm.of_len h0 h;rw[Tm.ofS_pos h0]at hl ⊢;exact Lx.nat (digs_dig _) (by omega) hv
theorem leaf_lex{x:Nd}(h:okN x=true)(h0:arN x.op=some 0){v:List UInt8}(hv:sepB v=true):Lx (leafP x) (leafK x) v:=by
 unfold okN at h;unfold leafK leafP;obtain⟨op,q,ast,a,b⟩:=x;dsimp only at h h0 ⊢;rcases Tm.ops0 h0 with e|e|e|e|e
 ·rw[if_pos e]at h ⊢;rw[if_pos e];simp only[Bool.and_eq_true,decide_eq_true_eq,beq_iff_eq]at h;obtain⟨_,h4,h5,h6⟩:=h;unfold numK Tm.numP
  cases hd:decB q with
  | true =>
   rw[if_pos rfl,if_pos rfl];obtain⟨_,⟨k,hk,hk2⟩,hp⟩:=Tm.dec_q hd;have hN:(dig ((valR q).num.natAbs*(10 ^ k / (valR q).den))).length≤80:=by
    have h3:=h5;rw[Tm.abs_num h4]at h3;by_cases k0:k=0
    ·subst k0;have hq:(10 ^ 0 / (valR q).den)≤1:=Nat.div_le_self _ _;have h9:(valR q).num.natAbs*(10 ^ 0 / (valR q).den)≤(valR q).num.natAbs:=by
      have:=Nat.mul_le_mul_left (valR q).num.natAbs hq
      rwa[Nat.mul_one]at this
     exact Nat.le_trans (dig_len_le h9) (by omega)
    ·exact Nat.le_trans (prod_len (Nat.pos_of_ne_zero k0) (Nat.div_le_self _ _)) (by omega)
   rw[prS_yes h4,prD_body hk,show decide ((valR q).num<0)=false from decide_eq_false (by omega)];exact body_lex hk2 hN hv
  | false =>
   rw[if_neg (by decide),if_neg (by decide)];obtain⟨hw,hn⟩:=isR_w h4;have k1:=com_lex _ _ _ ((Lx.nat (nat_digs hn) (by omega) (sep_shut v)).join (shut_lex v));have k2:=(whole_lex h4 h5 (v:=44::32::(q.2++[41])++v) (sep_comma _)).join k1;have k3:=(par_lex _).join k2;have k4:=(lit_name (u:=[110,117,109]) (by decide) ⟨_,_,rfl,rfl⟩ (by decide) (v:=([40]++(q.1++44::32::(q.2++[41])))++v) ⟨_,rfl⟩).join k3;exact k4
 ·rw[if_neg (by omega),if_pos e]at h ⊢;rw[if_neg (by omega),if_pos e];simp only[Bool.and_eq_true,decide_eq_true_eq,beq_iff_eq]at h;obtain⟨_,h3,h4,h5⟩:=h;have k1:=com_lex _ _ _ ((of_lex h4 h5 (sep_shut v)).join (shut_lex v));have k2:=(ast_name h3 (v:=44::32::(ofS a++[41])++v) (sep_comma _)).join k1;have k3:=(par_lex _).join k2;have k4:=(lit_name (u:=[112,120]) (by decide) ⟨_,_,rfl,rfl⟩ (by decide) (v:=([40]++(ast++44::32::(ofS a++[41])))++v) ⟨_,rfl⟩).join k3;exact k4
 all_goals
  rw[if_neg (by omega),if_neg (by omega),if_pos (by omega)]at h;rw[if_neg (by omega),if_neg (by omega),if_neg (by omega),if_neg (by omega)];simp only[Bool.and_eq_true,decide_eq_true_eq,beq_iff_eq]at h;obtain⟨h1,h3,h4,h5,h6,h7⟩:=h;subst e;have k0:=com_lex _ _ _ ((of_lex (n:=b) (by omega) h5 (sep_shut v)).join (shut_lex v));have k1:=com_lex _ _ _ ((of_lex h4 (by omega) (v:=44::32::(ofS b++[41])++v) (sep_comma _)).join k0);have k2:=(ast_name h3 (v:=44::32::(ofS a++44::32::(ofS b++[41]))++v) (sep_comma _)).join k1;have k3:=(par_lex _).join k2
  first
   | exact(lit_name (u:=[97,118,103]) (by decide) ⟨_,_,rfl,rfl⟩ (by decide) (v:=([40]++(ast++44::32::(ofS a++44::32::(ofS b++[41]))))++v) ⟨_,rfl⟩).join k3
   | exact(lit_name (u:=[104,105]) (by decide) ⟨_,_,rfl,rfl⟩ (by decide) (v:=([40]++(ast++44::32::(ofS a++44::32::(ofS b++[41]))))++v) ⟨_,rfl⟩).join k3
   | exact(lit_name (u:=[108,111]) (by decide) ⟨_,_,rfl,rfl⟩ (by decide) (v:=([40]++(ast++44::32::(ofS a++44::32::(ofS b++[41]))))++v) ⟨_,rfl⟩).join k3
theorem fn_lex{op:Int}(h:10≤op)(h':op≤12)(v:List UInt8):Lx (Tm.fnH op) [(0,fnN op),(2,[40])] v:=by
 have:op=10∨op=11∨op=12:=by omega
 rcases this with rfl|rfl|rfl
 ·exact(lit_name (u:=[109,97,120]) (by decide) ⟨_,_,rfl,rfl⟩ (by decide) (v:=[40]++v) ⟨_,rfl⟩).join (par_lex v)
 ·exact(lit_name (u:=[109,105,110]) (by decide) ⟨_,_,rfl,rfl⟩ (by decide) (v:=[40]++v) ⟨_,rfl⟩).join (par_lex v)
 ·exact(lit_name (u:=[105,102]) (by decide) ⟨_,_,rfl,rfl⟩ (by decide) (v:=[40]++v) ⟨_,rfl⟩).join (par_lex v)
theorem pr_lex:∀ {tr:Tr},tr.wf→okT tr→∀ {v:List UInt8},sepB v=true→Lx (pr tr) (tokK tr) v
 | .t0 x,hw,ho,v,hv=>by
  rw[Tm.pr0];exact leaf_lex (Tm.ok_t0 ho) hw hv
 | .t1 x a,hw,ho,v,hv=>by
  obtain⟨h1,h2⟩:=Tm.ok_t1 ho;rw[Tm.pr1 (Tm.ops1 hw.1)];have k1:=(pr_lex hw.2 h2 (sep_shut v)).join (shut_lex v);have k2:=(Lx.sign (b:=45) rfl _).join k1;have k3:=(par_lex _).join k2;exact k3
 | .t2 x a b,hw,ho,v,hv=>by
  obtain⟨h1,h2,h3⟩:=Tm.ok_t2 ho;have hop:=Tm.ops2 hw.1;rw[tok2];have k1:=(pr_lex hw.2.2 h3 (sep_shut v)).join (shut_lex v);by_cases h9:x.op≤9
  ·rw[if_pos h9,Tm.pr2 (by omega) h9];have hs:Wd.isSgn (Tm.sgnO x.op)=true:=by
    have:x.op=6∨x.op=7∨x.op=8∨x.op=9:=by omega
    rcases this with c|c|c|c<;>rw[c]<;>rfl
   have k2:=(Lx.blank _).join k1;have k3:=(Lx.sign hs _).join k2;have k4:=(Lx.blank _).join k3;have k5:=(pr_lex hw.2.1 h2 (v:=32::Tm.sgnO x.op::32::(pr b++[41])++v) (sep_blank _)).join k4;have k6:=(par_lex _).join k5;exact k6
  ·rw[if_neg h9,Tm.pr2f (by omega)];have k2:=com_lex _ _ _ k1;have k3:=(pr_lex hw.2.1 h2 (v:=44::32::(pr b++[41])++v) (sep_comma _)).join k2;have k4:=(fn_lex (op:=x.op) (by omega) (by omega) _).join k3;have e:Tm.fnH x.op++((pr a++44::32::pr b)++[41])=Tm.fnH x.op++(pr a++44::32::(pr b++[41])):=by simp only[List.append_assoc,List.cons_append]
   rw[e];exact k4
 | .t3 x a b c,hw,ho,v,hv=>by
  obtain⟨h1,h2,h3,h4⟩:=Tm.ok_t3 ho;have hop:=Tm.ops3 hw.1;rw[tok3,Tm.pr3 hop];have k1:=(pr_lex hw.2.2.2 h4 (sep_shut v)).join (shut_lex v);have k2:=com_lex _ _ _ k1;have k3:=(pr_lex hw.2.2.1 h3 (v:=44::32::(pr c++[41])++v) (sep_comma _)).join k2;have k4:=com_lex _ _ _ k3;have k5:=(pr_lex hw.2.1 h2 (v:=44::32::(pr b++44::32::(pr c++[41]))++v) (sep_comma _)).join k4;have k6:=(fn_lex (op:=x.op) (by omega) (by omega) _).join k5;have e:[105,102,40]++((pr a++44::32::(pr b++44::32::pr c))++[41])=Tm.fnH x.op++(pr a++44::32::(pr b++44::32::(pr c++[41]))):=by
   rw[hop];simp only[List.append_assoc,List.cons_append]
   rfl
  rw[e];exact k6
end Pz
namespace Pz
open Tm (Nd Tr plainN okN okT arN printT checkT depthT pr sepB)
open Wd (Tk lexAt lexD ktT)
def goodE:Rs→Prop
 | .bad e _=>e=110∨e=111
 | .ok _ _=>True
theorem then_good{α:Type}{r:List K}{x:Option α}{f:α→Rs}(h:∀a,goodE (f a)):goodE (thenR r x f):=by
 cases x with
 | none=>exact .inl rfl
 | some a=>exact h a
theorem num_good(r:List K)(t:List Nd):goodE (numR r t):=then_good fun _=>then_good fun _=>then_good fun _=>then_good fun _=>then_good fun _=>trivial
theorem price_good(op:Int)(r:List K)(t:List Nd):goodE (priceR op r t):=then_good fun _=>then_good fun _=>then_good fun _=>then_good fun _=>by
 dsimp only;split
 ·exact then_good fun _=>trivial
 ·exact then_good fun _=>then_good fun _=>then_good fun _=>trivial
theorem leaf_good{r:List K}{t:List Nd}{a:Rs}(h:leafR r t=some a):goodE a:=by
 match r with
 | []=>cases h;exact .inl rfl
 | k::r =>
  rw[leafR_cons]at h;split at h
  ·cases h
   unfold numberR;split
   ·exact trivial
   ·exact .inl rfl
  ·split at h
   ·split at h
    ·split at h
     ·cases h;exact num_good r t
     ·split at h
      ·cases h;exact price_good _ r t
      ·cases h
    ·cases h;exact .inl rfl
   ·split at h
    ·cases h
    ·cases h;exact .inl rfl
theorem sign_good{s:List UInt8}{x:Rs}(h:goodE x):goodE (signR s x):=by
 cases x with
 | bad e n=>exact h
 | ok r t =>
  unfold signR;dsimp only;split
  ·exact trivial
  ·exact .inl rfl
theorem open_good{d:Nat}{x:Rs}(h:goodE x):goodE (openR d x):=by
 cases x with
 | bad e n=>exact h
 | ok r t =>
  unfold openR;dsimp only;split
  ·split
   ·exact .inr rfl
   ·exact trivial
  ·exact .inl rfl
theorem push_good{op:Int}{x:Rs}(h:goodE x):goodE (pushR op x):=by
 cases x with
 | bad e n=>exact h
 | ok r t=>exact trivial
theorem par_good:∀ {g:G} {d:Nat} {x y:Rs},Par g d x y→goodE x→goodE y:=by
 intro g d x y h
 induction h with
 | err=>exact id
 | bin l d r t a b h1 h2 i1 i2=>exact fun hx=>i2 (i1 hx)
 | lend=>exact id
 | lgo l d k r t o a b h0 h1 h2 i1 i2=>exact fun hx=>i2 (push_good (i1 trivial))
 | mgo d r t a h i=>exact fun hx=>push_good (i trivial)
 | mend d r t a h0 h i=>exact i
 | leaf d r t a h=>exact fun _=>leaf_good h
 | paren d r t a h i=>exact fun hx=>sign_good (i (open_good trivial))
 | call d k r t op m a h0 h1 h2 i=>exact fun hx=>push_good (sign_good (i (open_good trivial)))
 | one d r t a h i=>exact i
 | more n d r t a b h1 h2 i1 i2=>exact fun hx=>i2 (sign_good (i1 hx))
def placeT(l:List Tk)(i:Nat):Nat×Nat:=match l[i]? with
 | some k=>(k.line,k.col)
 | none=>match l.getLast? with
  | some k=>(k.line,k.col+k.text.length)
  | none=>(1,1)
def endR:Rs→Rs
 | .bad e n=>.bad e n
 | .ok r t=>if r=[] then .ok [] t else .bad 110 r.length
def outR(ts:List Tk):Rs→List Nd×Int×Nat×Nat
 | .bad e n=>([],e,(placeT ts (ts.length-n)).1,(placeT ts (ts.length-n)).2)
 | .ok _ t=>if checkT t=0 then (t,0,0,0) else ([],100,1,1)
def PsIs(s:List UInt8)(R:List Nd×Int×Nat×Nat):Prop :=
 ∃ts er a b,lexD s=(ts,er,a,b)∧(er≠0∧R=([],er,a,b)∨er=0∧∃x,Par (.bin true) 0 (.ok (ts.map ktT) []) x∧R=outR ts (endR x))
theorem ps_det{s:List UInt8}{R R':List Nd×Int×Nat×Nat}(h:PsIs s R)(h':PsIs s R'):R=R':=by
 obtain⟨ts,er,a,b,e,k⟩:=h;obtain⟨ts',er',a',b',e',k'⟩:=h';rw[e]at e';obtain⟨rfl,e1⟩:=Prod.mk.inj e';obtain⟨rfl,e2⟩:=Prod.mk.inj e1;obtain⟨rfl,rfl⟩:=Prod.mk.inj e2;rcases k with ⟨h0,rfl⟩|⟨h0,x,p,rfl⟩
 ·rcases k' with ⟨_,rfl⟩|⟨h1,_⟩
  ·rfl
  ·exact absurd h1 h0
 ·rcases k' with ⟨h1,_⟩|⟨_,y,q,rfl⟩
  ·exact absurd h0 h1
  ·rw[det p q]
theorem lexD_ok{s:List UInt8}(hl:s.length≤20000)(h:(lexAt s 1 1).2=none):lexD s=((lexAt s 1 1).1,0,0,0):=by
 unfold lexD;rw[if_neg (by omega)];generalize lexAt s 1 1=R at *;obtain⟨ts,p⟩:=R;dsimp only at h;subst h
 rfl
theorem lexD_no{s:List UInt8}{p:Nat×Nat}(hl:s.length≤20000)(h:(lexAt s 1 1).2=some p):lexD s=([],90,p.1,p.2):=by
 unfold lexD;rw[if_neg (by omega)];generalize lexAt s 1 1=R at *;obtain⟨ts,q⟩:=R;dsimp only at h;subst h
 rfl
theorem ps_of{s:List UInt8}{ks:List K}(hl:s.length≤20000)(h:Lx s ks []){x:Rs}(hp:Par (.bin true) 0 (.ok ks []) x):PsIs s (outR (lexAt s 1 1).1 (endR x)):=by
 obtain⟨l',c',h1,h2⟩:=h 1 1;rw[List.append_nil,Wd.lex_nil]at h1 h2;rw[show ks++List.map ktT (([]:List Tk),(none:Option (Nat×Nat))).1=ks from List.append_nil ks]at h1;refine⟨(lexAt s 1 1).1,0,0,0,lexD_ok hl h2,.inr ⟨rfl,x,?_,rfl⟩⟩;rw[h1];exact hp
theorem check_parts{t:List Nd}(h:checkT t=0):printT t≠[]∧(printT t).length≤20000∧depthT t≤150:=by
 unfold checkT at h;by_cases c:printT t=[]∨20000<(printT t).length∨150<depthT t
 ·rw[if_pos c]at h;cases h
 ·exact⟨fun e=>c (.inl e),by omega,by omega⟩
theorem ps_back{t:List Nd}(h:checkT t=0):PsIs (printT t) (t,0,0,0):=by
 obtain⟨h1,h2,h3⟩:=check_parts h;obtain⟨tr,et,hw,hf,ho,hp⟩:=Tm.print_ne h1;have hd:Tm.dp tr≤150:=by
  have hfm:Tm.formB t=true:=by
   cases e:Tm.formB t with
   | true=>rfl
   | false=>exact absurd (Tm.print_form e) h1
  rw[←Tm.depth_of hfm et];exact h3
 rw[hp]at h2 ⊢;have ha:=atom_of tr hw ho 0 [] [] (by omega);have hpar:=up (tok_minus hw []) ha rfl;rw[List.append_nil]at hpar;have k:=ps_of (s:=pr tr) (ks:=tokK tr) h2 (pr_lex hw ho rfl) hpar;have e:outR (lexAt (pr tr) 1 1).1 (endR (.ok [] ([]++tr.flat)))=(t,0,0,0):=by
  show (if checkT ([]++tr.flat)=0 then ([]++tr.flat,(0:Int),0,0) else ([],100,1,1))=_;rw[List.nil_append,hf,if_pos h]
 rw[e]at k;exact k
theorem end_good{x:Rs}(h:goodE x):goodE (endR x):=by
 cases x with
 | bad e n=>exact h
 | ok r t =>
  unfold endR;dsimp only;split
  ·exact trivial
  ·exact .inl rfl
theorem bad_ne{ks:List K}{x:Rs}{e:Int}{n:Nat}(p:Par (.bin true) 0 (.ok ks []) x)(h:endR x=.bad e n):e≠0:=by
 have k:=end_good (par_good p trivial);rw[h]at k;rcases k with rfl|rfl<;>decide
theorem ps_check{s:List UInt8}{t:List Nd}{a b:Nat}(h:PsIs s (t,0,a,b)):checkT t=0∧a=0∧b=0:=by
 obtain⟨ts,er,a',b',e,k⟩:=h;rcases k with ⟨h0,k⟩|⟨h0,x,p,k⟩
 ·exact absurd (Prod.mk.inj (Prod.mk.inj k).2).1.symm h0
 ·cases hx:endR x with
  | bad e n =>
   rw[hx]at k;have he:=(Prod.mk.inj (Prod.mk.inj k).2).1;exact absurd he.symm (bad_ne p hx)
  | ok r u =>
   rw[hx]at k;have k:(t,(0:Int),a,b)=if checkT u=0 then (u,(0:Int),0,0) else ([],100,1,1):=k
   by_cases hc:checkT u=0
   ·rw[if_pos hc]at k;obtain⟨rfl,k2⟩:=Prod.mk.inj k;obtain⟨_,k3⟩:=Prod.mk.inj k2;obtain⟨rfl,rfl⟩:=Prod.mk.inj k3;exact⟨hc,rfl,rfl⟩
   ·rw[if_neg hc]at k;have k2:(0:Int)=100:=(Prod.mk.inj (Prod.mk.inj k).2).1;exact absurd k2 (by decide)
end Pz
end Go.Proofs.YtmllklfjngapiaaGreatDoor
