/- Own work. -/
import Derived.Test.YtmllklfjngapiaaGreatDoorAllPaQM
import Derived.Test.YtmllklfjngapiaaGreatDoorParNumBM
set_option linter.unusedSimpArgs false
set_option linter.unusedVariables false
namespace Go.Proofs.YtmllklfjngapiaaGreatDoor
open Go.RowKit
open Wd (Tk okT ktT)
open Tm (Nd plainN checkT printT)
open Pz (PsIs Par Rs endR outR placeT ps_det G leafR numberR numR priceR opName signR openR pushR sg minusR)
def npK(k:Pz.K):Bool:=!(decide (k=(2,[40]))||decide (k=(2,[41])))
def wK(r:List Pz.K):Nat:=(r.filter npK).length
theorem wK_cons(k:Pz.K)(r:List Pz.K):wK (k::r)=(if npK k then 1 else 0)+wK r:=by
 unfold wK;rw[List.filter_cons];split
 ·rw[List.length_cons];omega
 ·omega
theorem wK_tail(k:Pz.K)(r:List Pz.K):wK r≤wK (k::r):=by rw[wK_cons];omega
theorem sg_w{s:List UInt8}{r r1:List Pz.K}(h:sg s r=some r1):wK r1≤wK r:=by
 cases r with
 | nil=>cases h
 | cons k r =>
  rw[Pz.sg_cons]at h;split at h
  ·cases h;exact wK_tail _ _
  ·cases h
theorem name_w{r r1:List Pz.K}{a:List UInt8}(h:Pz.nameR r=some (a,r1)):wK r1≤wK r:=by
 cases r with
 | nil=>cases h
 | cons k r =>
  have h:(if k.1=0 then some (k.2,r) else none)=some (a,r1):=h;split at h
  ·cases h;exact wK_tail _ _
  ·cases h
theorem day_w{lo hi x:Int}{r r1:List Pz.K}(h:Pz.dayR lo hi r=some (x,r1)):wK r1≤wK r:=by
 cases r with
 | nil=>cases h
 | cons k r =>
  rw[Pz.day_cons]at h;split at h
  ·cases h;exact wK_tail _ _
  ·cases h
theorem nat_w{z:Bool}{a:List UInt8}{r r1:List Pz.K}(h:Pz.natR z r=some (a,r1)):wK r1≤wK r:=by
 cases r with
 | nil=>cases h
 | cons k r =>
  rw[Pz.nat_cons]at h;split at h
  ·cases h;exact wK_tail _ _
  ·cases h
theorem minus_w(r:List Pz.K):wK (minusR r).2≤wK r:=by
 unfold minusR
 cases e:sg [45] r with
 | none=>exact Nat.le_refl _
 | some r1=>exact sg_w e
theorem num_w{r r':List Pz.K}{t t':List Nd}(h:numR r t=.ok r' t'):wK r'≤wK r∧t'.length=t.length+1:=by
 unfold numR at h;obtain⟨r1,e1,h⟩:=Pz.then_ok h;obtain⟨⟨a,r3⟩,e3,h⟩:=Pz.then_ok h;obtain⟨r4,e4,h⟩:=Pz.then_ok h;obtain⟨⟨b,r5⟩,e5,h⟩:=Pz.then_ok h;obtain⟨r6,e6,h⟩:=Pz.then_ok h;have l1:=sg_w e1;have l2:=minus_w r1;have l3:=nat_w e3;have l4:=sg_w e4;have l5:=nat_w e5;have l6:=sg_w e6
 cases h
 exact⟨by omega,by rw[List.length_append];rfl⟩
theorem price_w{op:Int}{r r':List Pz.K}{t t':List Nd}(h:priceR op r t=.ok r' t'):wK r'≤wK r∧t'.length=t.length+1:=by
 unfold priceR at h;obtain⟨r1,e1,h⟩:=Pz.then_ok h;obtain⟨⟨a,r2⟩,e2,h⟩:=Pz.then_ok h;obtain⟨r3,e3,h⟩:=Pz.then_ok h;obtain⟨⟨x,r4⟩,e4,h⟩:=Pz.then_ok h;have l1:=sg_w e1;have l2:=name_w e2;have l3:=sg_w e3;have l4:=day_w e4;dsimp only at h;split at h
 ·obtain⟨r5,e5,h⟩:=Pz.then_ok h;have l5:=sg_w e5
  cases h
  exact⟨by omega,by rw[List.length_append];rfl⟩
 ·obtain⟨r5,e5,h⟩:=Pz.then_ok h;obtain⟨⟨y,r6⟩,e6,h⟩:=Pz.then_ok h;dsimp only at h;obtain⟨r7,e7,h⟩:=Pz.then_ok h;have l5:=sg_w e5;have l6:=day_w e6;have l7:=sg_w e7
  cases h
  exact⟨by omega,by rw[List.length_append];rfl⟩
def ms:Rs→Nat
 | .bad _ _=>0
 | .ok r t=>wK r+t.length
theorem ms_push(o:Int)(x:Rs):ms (pushR o x)≤ms x+1:=by
 cases x with
 | bad e n=>exact Nat.zero_le _
 | ok r t=>show wK r+(t++[plainN o]).length≤_;rw[List.length_append];exact Nat.le_refl _
theorem ms_sign(s:List UInt8)(x:Rs):ms (signR s x)≤ms x:=by
 cases x with
 | bad e n=>exact Nat.le_refl _
 | ok r t =>
  unfold signR;dsimp only
  cases e:sg s r with
  | none=>exact Nat.zero_le _
  | some r1=>have:=sg_w e;show wK r1+t.length≤wK r+t.length;omega
theorem ms_open(d:Nat)(x:Rs):ms (openR d x)≤ms x:=by
 cases x with
 | bad e n=>exact Nat.le_refl _
 | ok r t =>
  unfold openR;dsimp only
  cases e:sg [40] r with
  | none=>exact Nat.zero_le _
  | some r1 =>
   dsimp only;split
   ·exact Nat.zero_le _
   ·have:=sg_w e;show wK r1+t.length≤wK r+t.length;omega
theorem np_0{k:Pz.K}{n:Nat}(h:k.1=n)(hn:n≠2):npK k=true:=by
 unfold npK;rw[decide_eq_false (fun e=>by rw[e]at h;exact hn h.symm),decide_eq_false (fun e=>by rw[e]at h;exact hn h.symm)]
 rfl
theorem ms_leaf{r:List Pz.K}{t:List Nd}{a:Rs}(h:leafR r t=some a):ms a≤ms (.ok r t):=by
 cases a with
 | bad e n=>exact Nat.zero_le _
 | ok r' t' =>
  cases r with
  | nil=>cases h
  | cons k r =>
   rw[Pz.leafR_cons]at h;show wK r'+t'.length≤wK (k::r)+t.length;rw[wK_cons];split at h
   ·rename_i h1
    rw[if_pos (np_0 h1 (by decide))];have h:=Option.some.inj h;unfold numberR at h;split at h
    ·cases h;rw[List.length_append,List.length_singleton];omega
    ·cases h
   ·split at h
    ·rename_i h1
     rw[if_pos (np_0 h1 (by decide))];split at h
     ·split at h
      ·obtain⟨h1,h2⟩:=num_w (Option.some.inj h);omega
      ·split at h
       ·obtain⟨h1,h2⟩:=price_w (Option.some.inj h);omega
       ·cases h
     ·cases h
    ·split at h
     ·cases h
     ·cases h
theorem np_op{l:Bool}{k:Pz.K}{r:List Pz.K}{o:Int}(h:Pz.opOf l (k::r)=some o):npK k=true:=by
 have h:(if l then (if k=(2,[43]) then some (6:Int) else if k=(2,[45]) then some 7 else none) else (if k=(2,[42]) then some 8 else if k=(2,[47]) then some 9 else none))=some o:=h
 repeat' split at h
 all_goals first|(cases h;done)|(rename_i e;rw[e];rfl)|(rename_i e _;rw[e];rfl)
theorem np_call{k:Pz.K}{op:Int}(h:Pz.callOp k=some op):npK k=true:=by
 unfold Pz.callOp at h;split at h
 ·rename_i h0;exact np_0 h0 (by decide)
 ·cases h
theorem par_ms:∀ {g:G} {d:Nat} {x y:Rs},Par g d x y→ms y≤ms x:=by
 intro g d x y h
 induction h with
 | err=>exact Nat.le_refl _
 | bin l d r t a b h1 h2 i1 i2=>exact Nat.le_trans i2 i1
 | lend=>exact Nat.le_refl _
 | lgo l d k r t o a b h0 h1 h2 i1 i2 =>
  have:=ms_push o a;have i1:ms a≤wK r+t.length:=i1;show ms b≤wK (k::r)+t.length;rw[wK_cons,if_pos (np_op h0)];omega
 | mgo d r t a h i =>
  have:=ms_push 5 a;have i:ms a≤wK r+t.length:=i;show _≤wK ((2,[45])::r)+t.length;rw[wK_cons,if_pos (by decide)];omega
 | mend d r t a h0 h i=>exact i
 | leaf d r t a h=>exact ms_leaf h
 | paren d r t a h i=>exact Nat.le_trans (ms_sign _ _) (Nat.le_trans i (ms_open _ _))
 | call d k r t op m a h0 h1 h2 i =>
  have e1:=ms_push op (signR [41] a);have e2:=ms_sign [41] a;have e3:=Nat.le_trans i (ms_open d (.ok r t));have e3:ms a≤wK r+t.length:=e3;show _≤wK (k::r)+t.length;rw[wK_cons,if_pos (np_call h0)];omega
 | one d r t a h i=>exact i
 | more n d r t a b h1 h2 i1 i2=>exact Nat.le_trans i2 (Nat.le_trans (ms_sign _ _) i1)
def npB(x:UInt8):Bool:=!(x==32||x==10||x==40||x==41)
def wB(s:List UInt8):Nat:=(s.filter npB).length
theorem wB_cons(x:UInt8)(r:List UInt8):wB (x::r)=(if npB x then 1 else 0)+wB r:=by
 unfold wB;rw[List.filter_cons];split
 ·rw[List.length_cons];omega
 ·omega
theorem wB_le(s:List UInt8):wB s≤s.length:=List.length_filter_le _ _
theorem wB_app(a b:List UInt8):wB (a++b)=wB a+wB b:=by
 unfold wB;rw[List.filter_append,List.length_append]
theorem wB_drop(n:Nat)(s:List UInt8):wB (s.drop n)≤wB s:=by
 have k:=wB_app (s.take n) (s.drop n);rw[List.take_append_drop]at k;omega
theorem lex_w:∀ (l:List UInt8) (ln c:Nat),wK ((Wd.lexAt l ln c).1.map ktT)≤wB l:=by
 refine Wd.lex_ind (fun ln c=>?_) (fun r ih ln c=>?_) (fun r ih ln c=>?_) (fun x r e1 e2 e ln c=>?_) (fun x r kd m e1 e2 e ih ln c=>?_)
 ·rw[Wd.lex_nil];exact Nat.le_refl _
 ·rw[Wd.lex_blank,wB_cons];have:=ih ln (c+1);omega
 ·rw[Wd.lex_line,wB_cons];have:=ih (ln+1) 1;omega
 ·rw[Wd.lex_bad ln c e1 e2 e];exact Nat.zero_le _
 ·have hm:=Wd.kl_len e;have hi:=ih ln (c+m);have hd:wB ((x::r).drop m)≤wB r:=by
   obtain⟨q,rfl⟩:∃q,m=q+1:=⟨m-1,by omega⟩;exact wB_drop q r
  rw[Wd.lex_tok ln c e1 e2 e];show wK ((kd,(x::r).take m)::_)≤_;rw[wK_cons,wB_cons];have hw:(if npK (kd,(x::r).take m) then 1 else 0)≤if npB x then 1 else 0:=by
   by_cases hp:x=40∨x=41
   ·have hk:Wd.kl (x::r)=some (2,1):=by
     rw[Wd.kl_cons];rcases hp with rfl|rfl<;>rfl
    rw[hk]at e;obtain⟨rfl,rfl⟩:=Prod.mk.inj (Option.some.inj e);have hn:npK (2,(x::r).take 1)=false:=by rcases hp with rfl|rfl<;>rfl
    rw[hn];exact Nat.zero_le _
   ·have hb:npB x=true:=by
     unfold npB;rw[beq_false_of_ne e1,beq_false_of_ne e2,beq_false_of_ne (fun h=>hp (.inl h)),beq_false_of_ne (fun h=>hp (.inr h))]
     rfl
    rw[hb];split<;>simp
  have hi:wK (List.map ktT (Wd.lexAt ((x::r).drop m) ln (c+m)).1)≤wB r:=Nat.le_trans hi hd;omega
theorem few_w{s:List UInt8}(h:wB s≤2000):FewN s:=fun ts a b hl t hp=>by
 have k:=par_ms hp;have hn:wK (ts.map ktT)≤2000:=by
  unfold Wd.lexD at hl;split at hl
  ·have:=(Prod.mk.inj (Prod.mk.inj hl).2).1
   cases this
  ·split at hl
   ·obtain rfl:=(Prod.mk.inj hl).1;exact Nat.le_trans (lex_w s 1 1) h
   ·have:=(Prod.mk.inj (Prod.mk.inj hl).2).1
    cases this
 have k:wK []+t.length≤wK (ts.map ktT)+([]:List Nd).length:=k;have k:0+t.length≤wK (ts.map ktT)+0:=k;omega
theorem few_short{s:List UInt8}(h:s.length≤2000):FewN s:=few_w (Nat.le_trans (wB_le s) h)
def GiveP(w:World)(R:List Nd×Int×Nat×Nat)(r:Ending)(w':World):Prop :=
 (∃ (q:Option Addr) (cq:Nat),r=.returned (.tuple #[.slice q R.1.length cq,.int .i64 R.2.1,.int .i64 (R.2.2.1:Int),.int .i64 (R.2.2.2:Int)])∧R.1.length≤cq∧Nds w' q R.1∧∀x∈R.1,SzN x)∧Below w.heap.size w w'
theorem parse_is{s:List UInt8}{R:List Nd×Int×Nat×Nat}(h:PsIs s R)(hs:s.length≤20000)(hf:FewN s)(w:World)(hg:GoodP w):Calls Tryz.prog 7 #[.string ⟨s.toArray⟩] w (GiveP w R) :=
 (pparse_any s w hs hg hf).mono fun r w' ⟨R',q,cq,hp,e,hc,hn,hz,hb⟩=>by
  obtain rfl:=ps_det h hp;exact⟨⟨q,cq,e,hc,hn,hz⟩,hb⟩
end Go.Proofs.YtmllklfjngapiaaGreatDoor
set_option maxHeartbeats 4000000
set_option maxRecDepth 100000
namespace Go.Proofs.YtmllklfjngapiaaGreatDoor
open Go.RowKit
open Tm (Nd plainN checkT printT)
open Pz (PsIs)
def GivePE(w:World)(e:Int)(a b:Nat)(r:Ending)(w':World):Prop:=(∃ (q:Option Addr) (cq:Nat),r=.returned (.tuple #[.slice q 0 cq,.int .i64 e,.int .i64 (a:Int),.int .i64 (b:Int)]))∧Below w.heap.size w w'
def GivePT(w:World)(t:List Nd)(r:Ending)(w':World):Prop:=(∃ (q:Option Addr) (cq:Nat),r=.returned (.tuple #[.slice q t.length cq,.int .i64 0,.int .i64 0,.int .i64 0])∧t.length≤cq∧Nds w' q t∧∀x∈t,SzN x)∧Below w.heap.size w w'
theorem give_e{s:List UInt8}{e:Int}{a b:Nat}(h:PsIs s ([],e,a,b))(hs:s.length≤20000)(hf:FewN s)(w:World)(hg:GoodP w):Calls Tryz.prog 7 #[.string ⟨s.toArray⟩] w (GivePE w e a b) :=
 (parse_is h hs hf w hg).mono fun r w' ⟨⟨q,c,e,_⟩,b⟩=>⟨⟨q,c,e⟩,b⟩
theorem give_t{s:List UInt8}{t:List Nd}(h:PsIs s (t,0,0,0))(hs:s.length≤20000)(hf:FewN s)(w:World)(hg:GoodP w):Calls Tryz.prog 7 #[.string ⟨s.toArray⟩] w (GivePT w t) :=
 (parse_is h hs hf w hg).mono fun r w' ⟨⟨q,c,e,h1,h2,h3⟩,b⟩=>⟨⟨q,c,e,h1,h2,h3⟩,b⟩
theorem fp1(w:World)(hg:GoodP w):Calls Tryz.prog 7 #[.string ⟨#[112,120,40,120,44,32,53,41,32,45,32,50,32,42,32,45,40,49,32,43,32,109,97,120,40,121,49,44,32,50,41,41]⟩] w (GivePE w 110 1 26):=give_e Pz.fx1_is (by decide) (few_short (by decide)) w hg
theorem fp3(w:World)(hg:GoodP w):Calls Tryz.prog 7 #[.string ⟨#[112,120,40,120,44,32,53,41,32,45,32,50,32,42,32,45,121]⟩] w (GivePE w 110 1 17):=give_e Pz.fx3_is (by decide) (few_short (by decide)) w hg
theorem fp4(w:World)(hg:GoodP w):Calls Tryz.prog 7 #[.string ⟨#[40,49,32,43,10]⟩] w (GivePE w 110 1 5):=give_e Pz.fx4_is (by decide) (few_short (by decide)) w hg
theorem fp5(w:World)(hg:GoodP w):Calls Tryz.prog 7 #[.string ⟨#[]⟩] w (GivePE w 110 1 1):=give_e Pz.fx5_is (by decide) (few_short (by decide)) w hg
theorem fp2(w:World)(hg:GoodP w):Calls Tryz.prog 7 #[.string ⟨#[112,120,40,120,44,32,53,41,32,45,32,50,32,42,32,45,49,46,53,48]⟩] w (GivePT w Pz.fx2T):=give_t Pz.fx2_is (by decide) (few_short (by decide)) w hg
theorem rt_big{t:List Nd}(h:∀x∈t,SzN x):Hid (∀x∈t,x.num.1.length≤100000∧x.num.2.length≤100000∧x.ast.length≤4611686018427387904):=zh fun x hx=>⟨by have:=(h x hx).1.1;omega,by have:=(h x hx).1.2.1;omega,by have:=(h x hx).1.2.2;omega⟩
theorem fixed11_any(w:World)(hg:GoodP w):Calls Tryz.prog 6 #[] w (GiveB w true):=by
 have HG:=zh hg;clear hg;go_enter Tryz.func6,Tryz.ntmps6;go_wp2_with fail;refine(fp1 _ HG.out).mono ?_;rintro r w1 ⟨⟨q1,c1,rfl⟩,b1⟩;have HG1:=zh (HG.out.below b1);have B1:=zh b1
 clear b1 HG;go_wp2_with fail;refine(fp2 _ HG1.out).mono ?_;rintro r w2 ⟨⟨q2,c2,rfl,hc2,hn2,hz2⟩,b2⟩;have HG2:=zh (HG1.out.below b2);have B2:=zh (Below.more B1.out b2)
 have HN2:=zh hn2;have HZ2:=zh hz2
 clear b2 HG1 B1 hn2 hz2 hc2;have hl2:Pz.fx2T.length=6:=rfl;rw[hl2];go_wp2_with fail;refine(fp3 _ HG2.out).mono ?_;rintro r w3 ⟨⟨q3,c3,rfl⟩,b3⟩;have HG3:=zh (HG2.out.below b3);have B3:=zh (Below.more B2.out b3);have HN3:=zh (HN2.out.below b3)
 clear b3 HG2 B2 HN2;go_wp2_with fail;refine(fp4 _ HG3.out).mono ?_;rintro r w4 ⟨⟨q4,c4,rfl⟩,b4⟩;have HG4:=zh (HG3.out.below b4);have B4:=zh (Below.more B3.out b4);have HN4:=zh (HN3.out.below b4)
 clear b4 HG3 B3 HN3;go_wp2_with fail;refine(fp5 _ HG4.out).mono ?_;rintro r w5 ⟨⟨q5,c5,rfl⟩,b5⟩;have B5:=zh (Below.more B4.out b5);have HN5:=zh (HN4.out.below b5)
 clear b5 HG4 B4 HN4;have cp:=rtprint_any q2 c2 Pz.fx2T w5 (rt_big HZ2.out) HN5.out;rw[hl2,Pz.fx2_pr]at cp;have CP:=zh cp;clear cp HN5 HZ2;go_wp2_with fail;refine CP.out.mono ?_;rintro r w6 ⟨rfl,b6⟩;have B6:=zh (Below.more B5.out b6);clear b6 B5 CP;go_wp2_with fail;go_ret;exact⟨rfl,B6.out⟩
theorem hid_g{w w':World}(h:Hid (GoodP w))(b:Below w.heap.size w w'):Hid (GoodP w'):=zh (h.out.below b)
end Go.Proofs.YtmllklfjngapiaaGreatDoor
set_option maxHeartbeats 4000000
set_option maxRecDepth 100000
namespace Go.Proofs.YtmllklfjngapiaaGreatDoor
open Go.RowKit
open Tm (Nd plainN checkT printT)
open Pz (PsIs)
def sS:List Int→List UInt8
 | []=>[]
 | n::r=>ofS n++Pz.sumX r
def sT:List Int→List Nd
 | []=>[]
 | n::r=>Pz.numN n::Pz.sumN r
theorem sS_snoc{l:List Int}(h:l≠[])(n:Int):sS (l++[n])=sS l++[32,45,32]++ofS n:=by
 cases l with
 | nil=>exact absurd rfl h
 | cons m r =>
  show ofS m++Pz.sumX (r++[n])=ofS m++Pz.sumX r++[32,45,32]++ofS n;rw[Pz.sumX_snoc];simp only[List.append_assoc]
theorem sT_snoc{l:List Int}(h:l≠[])(n:Int):sT (l++[n])=sT l++[Pz.numN n]++[plainN 7]:=by
 cases l with
 | nil=>exact absurd rfl h
 | cons m r =>
  show Pz.numN m::Pz.sumN (r++[n])=Pz.numN m::Pz.sumN r++[Pz.numN n]++[plainN 7];rw[Pz.sumN_snoc]
  rfl
theorem sT_len(l:List Int):(sT l).length≤2*l.length:=by
 cases l with
 | nil=>exact Nat.le_refl _
 | cons m r=>show (Pz.sumN r).length+1≤2*(r.length+1);rw[Pz.sumN_len];omega
theorem sS_len{l:List Int}(h:Pz.in1000 l):(sS l).length≤7*l.length:=by
 cases l with
 | nil=>exact Nat.le_refl _
 | cons m r =>
  have k:=(Pz.num_all (h m (List.mem_cons_self ..)).1 (h m (List.mem_cons_self ..)).2).2.2;have k2:=Pz.sumX_len (l:=r) (fun x hx=>h x (List.mem_cons_of_mem _ hx));show (ofS m++Pz.sumX r).length≤7*(r.length+1);rw[List.length_append];omega
theorem ps_sS{l:List Int}(h:Pz.in1000 l)(h1:1≤l.length)(h60:l.length≤60):PsIs (sS l) (sT l,0,0,0):=by
 cases l with
 | nil=>cases h1
 | cons m r=>exact Pz.ps_sum h (by have:(m::r).length=r.length+1:=rfl;omega)
theorem wd_ofS{n:Int}(h:0≤n):wd n=ofS n:=by
 rw[wd_pos h];unfold ofS;rw[if_neg (by omega)];congr 1;omega
theorem take_snoc{l:List Int}{k:Nat}{x:Int}(h:l[k]?=some x):l.take (k+1)=l.take k++[x]:=by
 rw[List.take_add_one,h];rfl
theorem in_snoc{l:List Int}{x:Int}(h:Pz.in1000 l)(h0:0≤x)(h1:x≤1000):Pz.in1000 (l++[x]):=fun n hn=>by
 rcases List.mem_append.1 hn with h2|h2
 ·exact h n h2
 ·rw[List.mem_singleton.1 h2];exact⟨h0,h1⟩
theorem sums11_none(q:Option Addr)(c:Nat)(l:List Int)(w:World)(hg:GoodP w)(hI:Its w q l)(hR:∀u∈l,-9223372036854775808≤u∧u≤9223372036854775807)(h:(l.length:Int)<1):Calls Tryz.prog 5 #[.slice q l.length c] w (GiveB w true):=by
 have HG:=zh hg;clear hg hI hR;go_enter Tryz.func5,Tryz.ntmps5;go_wp2_with fail;refine(fixed11_any _ HG.out).mono ?_;rintro r w1 ⟨rfl,b⟩;have B1:=zh b;replace HG:=hid_g HG b;clear b;go_wp2_with fail;refine(fixed11_any _ HG.out).mono ?_;rintro r w2 ⟨rfl,b⟩;have B2:=zh (Below.more B1.out b);replace HG:=hid_g HG b;clear b;go_wp2_with fail;go_ret;exact⟨ret_bool (by first|rfl|simp),B2.out⟩
theorem sums11_long(q:Option Addr)(c:Nat)(l:List Int)(w:World)(hg:GoodP w)(hI:Its w q l)(hR:∀u∈l,-9223372036854775808≤u∧u≤9223372036854775807)(h:¬(l.length:Int)<1)(h2:60<(l.length:Int)):Calls Tryz.prog 5 #[.slice q l.length c] w (GiveB w true):=by
 have HG:=zh hg;clear hg hI hR;go_enter Tryz.func5,Tryz.ntmps5;go_wp2_with fail;refine(fixed11_any _ HG.out).mono ?_;rintro r w1 ⟨rfl,b⟩;have B1:=zh b;replace HG:=hid_g HG b;clear b;go_wp2_with fail;refine(fixed11_any _ HG.out).mono ?_;rintro r w2 ⟨rfl,b⟩;have B2:=zh (Below.more B1.out b);replace HG:=hid_g HG b;clear b;go_wp2_with fail;go_ret;exact⟨ret_bool (by first|rfl|simp),B2.out⟩
theorem cat2(a b:List UInt8):(⟨a.toArray⟩:ByteArray)++⟨b.toArray⟩=⟨(a++b).toArray⟩:=bytes_eq (by simp)
theorem cat3(a b:List UInt8):(⟨a.toArray⟩:ByteArray)++⟨#[32,45,32]⟩++⟨b.toArray⟩=⟨(a++[32,45,32]++b).toArray⟩:=bytes_eq (by simp)
theorem sums11_main(q:Option Addr)(c:Nat)(l:List Int)(w:World)(hg:GoodP w)(hI:Its w q l)(hR:∀u∈l,-9223372036854775808≤u∧u≤9223372036854775807)(h:¬(l.length:Int)<1)(h2:¬60<(l.length:Int)):Calls Tryz.prog 5 #[.slice q l.length c] w (GiveB w true):=by
 have HG:=zh hg;have HI:=zh hI;have HR:=zh hR
 clear hg hI hR;go_enter Tryz.func5,Tryz.ntmps5;go_wp2_with fail;refine(fixed11_any _ HG.out).mono ?_;rintro r w1 ⟨rfl,b⟩;have B1:=zh b;replace HG:=hid_g HG b;clear b;have HO0:=zh (ownG_empty (enc:=encD) (k:=6) (e:=40) w1 (Nat.le_refl _));have HW0:Hid (Below w1.heap.size w1 (w1.alloc (.cells #[] 40))):=zh (Below.alloc (Below.refl _ _) (Nat.le_refl _) _);go_wp2_with fail
 go_loopw [3,4,5] (fun s v i wr=>∃k:Nat,k≤l.length∧i=.int .i64 k∧Hid (Pz.in1000 (l.take k))∧s=.string ⟨(sS (l.take k)).toArray⟩∧OwnD w1.heap.size wr v (sT (l.take k))∧Below w1.heap.size w1 wr) (fun _ _ i _=>l.length-(intOf i).toNat)
 case atStart=>exact⟨0,Nat.zero_le _,rfl,zh (fun n hn=>by cases hn),rfl,HO0.out,HW0.out⟩
 case round =>
  clear HO0 HW0;obtain⟨k,hk,rfl,HIn,rfl,hown,hw⟩:=hrel;by_cases hlt:k<l.length
  ·have hO:=zh hown;have hlt2:(k:Int)<(l.length:Int):=by omega
   clear hown;obtain⟨x,hx⟩:∃x,l[k]?=some x:=⟨_,List.getElem?_eq_getElem hlt⟩;obtain⟨b0,o,rfl,hbl,hc0⟩:=HI.out k x hx;have kc:=fun v (h:Below w1.heap.size w1 v)=>((Below.more B1.out h).cell (p:=⟨b0,o+k,none⟩) hbl).trans hc0;clear hbl hc0;by_cases hx0:x<0
   ·clear hx;go_wp2_with fail;go_ret;exact⟨ret_bool (by first|rfl|simp),Below.more B1.out hw⟩
   by_cases hx1:1000<x
   ·clear hx;go_wp2_with fail;go_ret;exact⟨ret_bool (by first|rfl|simp),Below.more B1.out hw⟩
   have ht:=take_snoc hx;have HI1:=zh (show Pz.in1000 (l.take (k+1)) by rw[ht];exact in_snoc HIn.out (by omega) (by omega));have hr:=HR.out x (List.mem_of_getElem? hx);have c1:=fun w=>rof_any x w hr.1 hr.2;have c3:=fun w=>rqof_any x w hr.1 hr.2;rw[wd_ofS (show 0≤x by omega)]at c3;have C1:=zh c1;have C3:=zh c3
   have lx:=(Pz.num_all (show 0≤x by omega) (show x≤1000 by omega)).2.2;have ls:=sS_len HIn.out;have lt:=sT_len (l.take k);rw[List.length_take]at ls lt;have lsk:(sS (l.take k)).length≤420:=by omega
   have HLT:Hid ((sT (l.take k)).length≤1000):=zh (by omega);clear ls lt c1 c3 hx;by_cases h0:(0:Int)<(k:Int)
   ·have hne:l.take k≠[]:=fun e=>by have:=congrArg List.length e;rw[List.length_take,List.length_nil]at this;omega
    have HS1:=zh (show sS (l.take (k+1))=sS (l.take k)++[32,45,32]++ofS x by rw[ht];exact sS_snoc hne x);have HT1:=zh (show sT (l.take (k+1))=sT (l.take k)++[Pz.numN x]++[plainN 7] by rw[ht];exact sT_snoc hne x);generalize sS (l.take k)=S at *;generalize sT (l.take k)=N at *;clear ht hne;go_wp2_with fail;refine(C1.out _).mono ?_;rintro e w' ⟨rfl,rfl⟩;go_wp2_with fail;refine(C3.out _).mono ?_;rintro e w2 ⟨rfl,b⟩;have b2:=hw.trans (b.mono (Below.size hw));have hO2:=zh (ownG_below hO.out b);clear b;go_wp2_with (at_builtin;refine haltG ?_);show wpList _ _ _ _ _ _;refine wpList_append_G rfl _ _ 24 40 rfl Tryz.underlying24 ndInfo rfl (by decide) (by decide) (fun _=>rfl) encD_one w1.heap.size _ (N) rfl (World.ownsRow.alloc (hO2.out) _) ⟨w2.heap.size,0,none⟩ (Pz.numN x) 1 rfl (rowsOne (enc:=encD) (k:=6) w2 (Pz.numN x) 40 _ rfl) (by have:=HLT.out;omega) (Below.size (Below.alloc (b2) (Below.size (b2)) _)) ?_;intro v3 w3 ho hgr hloc;have X3:Hid (OwnD w1.heap.size w3 v3 (N++[Pz.numN x])):=zh ho;have b3:Below w1.heap.size w1 w3:=Below.grown (Below.alloc (b2) (Below.size (b2)) _) hgr (Below.size (Below.alloc (b2) (Below.size (b2)) _)) fun j hj=>(World.ownsRow.lt (hO2.out) j hj).1;clear ho hgr hloc
    go_frame
    go_wp2_with (at_builtin;refine haltG ?_);show wpList _ _ _ _ _ _;refine wpList_append_G rfl _ _ 24 40 rfl Tryz.underlying24 ndInfo rfl (by decide) (by decide) (fun _=>rfl) encD_one w1.heap.size _ (N++[Pz.numN x]) rfl (World.ownsRow.alloc (X3.out) _) ⟨w3.heap.size,0,none⟩ (plainN 7) 1 rfl (rowsOne (enc:=encD) (k:=6) w3 (plainN 7) 40 _ rfl) (by rw[List.length_append];have:=HLT.out;simp only[List.length_singleton];omega) (Below.size (Below.alloc (b3) (Below.size (b3)) _)) ?_;intro v4 w4 ho hgr hloc;have X4:Hid (OwnD w1.heap.size w4 v4 (N++[Pz.numN x]++[plainN 7])):=zh ho;have b4:Below w1.heap.size w1 w4:=Below.grown (Below.alloc (b3) (Below.size (b3)) _) hgr (Below.size (Below.alloc (b3) (Below.size (b3)) _)) fun j hj=>(World.ownsRow.lt (X3.out) j hj).1;clear ho hgr hloc
    go_frame
    go_wp2_with fail;go_roundw
    case rel=>exact⟨k+1,hlt,by go_num,HI1.out,(by rw[HS1.out];exact congrArg Value.string (cat3 _ _)),(by rw[HT1.out];exact X4.out),b4⟩
    case measure=>simp[intOf];omega
   ·have hk0:k=0:=by omega
    have HS1:=zh (show sS (l.take (k+1))=sS (l.take k)++ofS x by rw[ht,hk0];show ofS x++[]=[]++ofS x;rw[List.append_nil];rfl);have HT1:=zh (show sT (l.take (k+1))=sT (l.take k)++[Pz.numN x] by rw[ht,hk0];rfl);generalize sS (l.take k)=S at *;generalize sT (l.take k)=N at *;clear ht hk0;go_wp2_with fail;refine(C1.out _).mono ?_;rintro e w' ⟨rfl,rfl⟩;go_wp2_with fail;refine(C3.out _).mono ?_;rintro e w2 ⟨rfl,b⟩;have b2:=hw.trans (b.mono (Below.size hw));have hO2:=zh (ownG_below hO.out b);clear b;go_wp2_with (at_builtin;refine haltG ?_);show wpList _ _ _ _ _ _;refine wpList_append_G rfl _ _ 24 40 rfl Tryz.underlying24 ndInfo rfl (by decide) (by decide) (fun _=>rfl) encD_one w1.heap.size _ (N) rfl (World.ownsRow.alloc (hO2.out) _) ⟨w2.heap.size,0,none⟩ (Pz.numN x) 1 rfl (rowsOne (enc:=encD) (k:=6) w2 (Pz.numN x) 40 _ rfl) (by have:=HLT.out;omega) (Below.size (Below.alloc (b2) (Below.size (b2)) _)) ?_;intro v3 w3 ho hgr hloc;have X3:Hid (OwnD w1.heap.size w3 v3 (N++[Pz.numN x])):=zh ho;have b3:Below w1.heap.size w1 w3:=Below.grown (Below.alloc (b2) (Below.size (b2)) _) hgr (Below.size (Below.alloc (b2) (Below.size (b2)) _)) fun j hj=>(World.ownsRow.lt (hO2.out) j hj).1;clear ho hgr hloc
    go_frame
    go_wp2_with fail;go_roundw
    case rel=>exact⟨k+1,hlt,by go_num,HI1.out,(by rw[HS1.out];exact congrArg Value.string (cat2 _ _)),(by rw[HT1.out];exact X3.out),b3⟩
    case measure=>simp[intOf];omega
  ·obtain rfl:k=l.length:=by omega
   rw[List.take_length]at hown HIn ⊢;obtain⟨qa,ca,rfl,hca,hna,_⟩:=ownG_rows (enc:=encD) (k:=6) (fun _=>rfl) hown;have HNa:=zh hna;have hG:=hid_g HG hw;have ls:=sS_len HIn.out;have lt:=sT_len l;have cp:=parse_is (ps_sS HIn.out (by omega) (by omega)) (show (sS l).length≤20000 by omega) (few_short (show (sS l).length≤2000 by omega)) wr hG.out;have CP:=zh cp;have HLS:Hid ((sT l).length≤4611686018427387904):=zh (by omega);generalize sS l=S at *;generalize sT l=N at *;clear hown hna ls lt cp hca;go_wp2_with fail;refine CP.out.mono ?_;rintro e w8 ⟨⟨qb,cb,rfl,hcb,hnb,_⟩,b⟩;have HNb:=zh hnb;have HNa2:=zh (HNa.out.below b);have b8:=Below.more hw b;have cs:=rtsame_any qb qa cb ca N N w8 HLS.out HLS.out HNb.out HNa2.out;have CS:=zh cs;clear b hnb CP cs hcb;go_wp2_with fail;refine CS.out.mono ?_;rintro e w9 ⟨rfl,b⟩;have b9:=Below.more b8 b;clear b;go_wp2_with fail;go_ret;exact⟨ret_bool (by first|rfl|simp),Below.more B1.out b9⟩
theorem sums11_any(q:Option Addr)(c:Nat)(l:List Int)(w:World)(hg:GoodP w)(hI:Its w q l)(hR:∀u∈l,-9223372036854775808≤u∧u≤9223372036854775807):Calls Tryz.prog 5 #[.slice q l.length c] w (GiveB w true):=by
 by_cases h:(l.length:Int)<1
 ·exact sums11_none q c l w hg hI hR h
 by_cases h2:60<(l.length:Int)
 ·exact sums11_long q c l w hg hI hR h h2
 exact sums11_main q c l w hg hI hR h h2
end Go.Proofs.YtmllklfjngapiaaGreatDoor
