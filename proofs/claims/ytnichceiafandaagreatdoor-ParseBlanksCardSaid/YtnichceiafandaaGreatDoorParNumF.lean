/- Own work. -/
import Derived.Test.YtnichceiafandaaGreatDoorParNumE
import Derived.Test.YtnichceiafandaaGreatDoorRowsMM
set_option linter.unusedSimpArgs false
set_option linter.unusedVariables false
namespace Go.Proofs.YtnichceiafandaaGreatDoor
namespace Pz
open Tm (Nd Tr plainN)
open Wd (okT kl)
theorem then_ok{α:Type}{r0:List Pz.K}{x:Option α}{f:α→Rs}{r:List Pz.K}{u:List Nd}(h:thenR r0 x f=.ok r u):∃a,x=some a∧f a=.ok r u:=by
 cases x with
 | none=>cases h
 | some a=>exact⟨a,rfl,h⟩
theorem sg_sub{s:List UInt8}{r r1:List Pz.K}(h:sg s r=some r1):∀k∈r1,k∈r:=by
 cases r with
 | nil=>cases h
 | cons k r =>
  rw[sg_cons]at h;split at h
  ·cases h;exact fun k hk=>List.mem_cons_of_mem _ hk
  ·cases h
theorem name_sub{r r1:List Pz.K}{a:List UInt8}(h:nameR r=some (a,r1)):(∃k∈r,k.2=a)∧∀k∈r1,k∈r:=by
 cases r with
 | nil=>cases h
 | cons k r =>
  have h:(if k.1=0 then some (k.2,r) else none)=some (a,r1):=h;split at h
  ·cases h;exact⟨⟨k,List.mem_cons_self,rfl⟩,fun k hk=>List.mem_cons_of_mem _ hk⟩
  ·cases h
theorem day_rng{lo hi x:Int}{r r1:List Pz.K}(h:dayR lo hi r=some (x,r1)):0≤x∧x≤9999:=by
 cases r with
 | nil=>cases h
 | cons k r =>
  rw[day_cons]at h;split at h
  ·rename_i c
   cases h
   exact⟨small_nn _,c.2.2.2.2⟩
  ·cases h
def LfN(x:Nd):Prop:=(0≤x.op∧x.op≤4)∧x.num.1.length≤61∧x.num.2.length≤60∧x.ast.length≤100∧(0≤x.a∧x.a≤9999)∧(0≤x.b∧x.b≤9999)
theorem price_sz{op:Int}{r r':List Pz.K}{t t':List Nd}(h:priceR op r t=.ok r' t')(ho:0≤op∧op≤4)(hr:∀k∈r,k.2.length≤100):∃x,t'=t++[x]∧LfN x:=by
 unfold priceR at h;obtain⟨r1,e1,h⟩:=then_ok h;obtain⟨⟨a,r2⟩,e2,h⟩:=then_ok h;obtain⟨r3,e3,h⟩:=then_ok h;obtain⟨⟨x,r4⟩,e4,h⟩:=then_ok h;obtain⟨⟨k,hk,ha⟩,_⟩:=name_sub e2;have hal:a.length≤100:=by rw[←ha];exact hr k (sg_sub e1 k hk)
 have hx:=day_rng e4;dsimp only at h;split at h
 ·obtain⟨r5,e5,h⟩:=then_ok h
  cases h
  exact⟨_,rfl,ho,Nat.zero_le _,Nat.zero_le _,hal,hx,(by decide:(0:Int)≤0∧(0:Int)≤9999)⟩
 ·obtain⟨r5,e5,h⟩:=then_ok h;obtain⟨⟨y,r6⟩,e6,h⟩:=then_ok h;obtain⟨r7,e7,h⟩:=then_ok h
  cases h
  exact⟨_,rfl,ho,Nat.zero_le _,Nat.zero_le _,hal,hx,day_rng e6⟩
theorem valS_below{a:List UInt8}(ha:isNat a=true)(hl:a.length≤60):valS a<10 ^ 60:=by
 have hd:a.all isDig=true:=by
  unfold isNat at ha;exact(Bool.and_eq_true_iff.1 ha).2
 exact Nat.lt_of_lt_of_le (valS_lt hd) (Nat.pow_le_pow_right (by decide) hl)
theorem mk_len{a b:List UInt8}(ha:isNat a=true)(hb:isNat b=true)(h0:b≠[48])(la:a.length≤60)(lb:b.length≤60):(makeR a b).1.1.length≤60∧(makeR a b).1.2.length≤60∧(negR (makeR a b).1).1.length≤61∧(negR (makeR a b).1).2.length≤60:=by
 have wa:=isW_nat ha;have wb:=isW_nat hb;have vb:=valW_ne hb h0;have ea:valW a=(valS a:Int):=by
  rcases isW_cases wa with ⟨_,e⟩|⟨r,e,_⟩
  ·exact e
  ·subst e;unfold isNat at ha;simp only[Bool.and_eq_true,List.all_cons]at ha;exact absurd ha.2.1 (by decide)
 have eb:valW b=(valS b:Int):=by
  rcases isW_cases wb with ⟨_,e⟩|⟨r,e,_⟩
  ·exact e
  ·subst e;unfold isNat at hb;simp only[Bool.and_eq_true,List.all_cons]at hb;exact absurd hb.2.1 (by decide)
 have hd:valS b≠0:=by rw[eb]at vb;omega
 have hA:=valS_below ha la;have hB:=valS_below hb lb;have e1:(makeR a b).1=(wd ((valS a / Nat.gcd (valS a) (valS b):Nat):Int),dig (valS b / Nat.gcd (valS a) (valS b))):=by
  rw[makeR_yes wa wb vb,ea,eb];show rd (Rat.divInt _ _)=_;rw[rd_divInt hd,Int.natAbs_natCast]
  rfl
 have hq1:valS a / Nat.gcd (valS a) (valS b)<10 ^ 60:=Nat.lt_of_le_of_lt (Nat.div_le_self _ _) hA;have hq2:valS b / Nat.gcd (valS a) (valS b)<10 ^ 60:=Nat.lt_of_le_of_lt (Nat.div_le_self _ _) hB;have d1:=dig_length (k:=60) (by decide) hq1;have d2:=dig_length (k:=60) (by decide) hq2;have hr:isR (makeR a b).1=true:=by rw[makeR_yes wa wb vb];exact isR_rd _
 have e2:negR (makeR a b).1=(negW (makeR a b).1.1,(makeR a b).1.2):=negR_yes hr;rw[e2,e1];refine⟨?_,d2,?_,d2⟩
 ·rw[wd_pos (Int.natCast_nonneg _)];exact d1
 ·dsimp only;unfold negW;rw[isW_wd,if_pos rfl,valW_wd];have k:=wd_length (-((valS a / Nat.gcd (valS a) (valS b):Nat):Int));rw[Int.natAbs_neg,Int.natAbs_natCast]at k;omega
theorem row_nu{s s':Nm}{r r':List Pz.K}(hr:∀k∈r,okT k)(h:rowF nuL s r=(true,s',r')):isNat s'.1=true∧s'.1.length≤60∧isNat s'.2=true∧s'.2.length≤60∧s'.2≠[48]:=by
 unfold nuL at h
 cases e3:natR true r with
 | none =>
  obtain⟨s1,hs⟩:=(na_take s r hr).2 e3;rw[row_cons_no (by rw[hs]),hs]at h
  cases h
 | some q =>
  obtain⟨a,r3⟩:=q;have hs:=(na_take s r hr).1 a r3 e3;have ha:=nat_inv e3;rw[row_cons_yes (by rw[hs]),hs]at h;have h3:=suf_ok hs hr;dsimp only at h;rcases rowSg (b:=44) rfl [abF,sgF 41] ((a,s.2):Nm) r3 h3 with ⟨r4,e4,k4,h4⟩|⟨e4,k4⟩
  ·rw[k4]at h
   cases e5:natR false r4 with
   | none =>
    obtain⟨s1,hs⟩:=(ab_take (a,s.2) r4 h4).2 e5;rw[row_cons_no (by rw[hs]),hs]at h
    cases h
   | some q =>
    obtain⟨b,r5⟩:=q;have hs:=(ab_take (a,s.2) r4 h4).1 b r5 e5;have hb:=nat_inv e5;rw[row_cons_yes (by rw[hs]),hs]at h;have h5:=suf_ok hs h4;dsimp only at h;rcases rowSg (b:=41) rfl [] ((a,b):Nm) r5 h5 with ⟨r6,e6,k6,h6⟩|⟨e6,k6⟩
    ·rw[k6]at h
     cases h
     exact⟨ha.1,ha.2.1,hb.1,hb.2.1,hb.2.2.resolve_left (by decide)⟩
    ·rw[k6]at h;cases h
  ·rw[k4]at h;cases h
theorem sg_len{s:List UInt8}{r r1:List Pz.K}(h:sg s r=some r1):r1.length≤r.length:=by
 cases r with
 | nil=>cases h
 | cons k r =>
  rw[sg_cons]at h;split at h
  ·cases h;exact Nat.le_succ _
  ·cases h
theorem name_len{r r1:List Pz.K}{a:List UInt8}(h:nameR r=some (a,r1)):r1.length≤r.length:=by
 cases r with
 | nil=>cases h
 | cons k r =>
  have h:(if k.1=0 then some (k.2,r) else none)=some (a,r1):=h;split at h
  ·cases h;exact Nat.le_succ _
  ·cases h
theorem day_len{lo hi x:Int}{r r1:List Pz.K}(h:dayR lo hi r=some (x,r1)):r1.length≤r.length:=by
 cases r with
 | nil=>cases h
 | cons k r =>
  rw[day_cons]at h;split at h
  ·cases h;exact Nat.le_succ _
  ·cases h
theorem nat_len{z:Bool}{a:List UInt8}{r r1:List Pz.K}(h:natR z r=some (a,r1)):r1.length≤r.length:=by
 cases r with
 | nil=>cases h
 | cons k r =>
  rw[nat_cons]at h;split at h
  ·cases h;exact Nat.le_succ _
  ·cases h
theorem minus_len(r:List Pz.K):(minusR r).2.length≤r.length:=by
 unfold minusR
 cases e:sg [45] r with
 | none=>exact Nat.le_refl _
 | some r1=>exact sg_len e
theorem price_len{op:Int}{r r':List Pz.K}{t t':List Nd}(h:priceR op r t=.ok r' t'):r'.length≤r.length:=by
 unfold priceR at h;obtain⟨r1,e1,h⟩:=then_ok h;obtain⟨⟨a,r2⟩,e2,h⟩:=then_ok h;obtain⟨r3,e3,h⟩:=then_ok h;obtain⟨⟨x,r4⟩,e4,h⟩:=then_ok h;have l1:=sg_len e1;have l2:=name_len e2;have l3:=sg_len e3;have l4:=day_len e4;dsimp only at h;split at h
 ·obtain⟨r5,e5,h⟩:=then_ok h;have l5:=sg_len e5
  cases h
  omega
 ·obtain⟨r5,e5,h⟩:=then_ok h;obtain⟨⟨y,r6⟩,e6,h⟩:=then_ok h;dsimp only at h;obtain⟨r7,e7,h⟩:=then_ok h;have l5:=sg_len e5;have l6:=day_len e6;have l7:=sg_len e7
  cases h
  omega
theorem num_sz{r r':List Pz.K}{t t':List Nd}(hr:∀k∈r,okT k)(h:numR r t=.ok r' t'):r'.length≤r.length∧∃x,t'=t++[x]∧LfN x:=by
 unfold numR at h;obtain⟨r1,e1,h⟩:=then_ok h;obtain⟨⟨a,r3⟩,e3,h⟩:=then_ok h;obtain⟨r4,e4,h⟩:=then_ok h;obtain⟨⟨b,r5⟩,e5,h⟩:=then_ok h;obtain⟨r6,e6,h⟩:=then_ok h;have l1:=sg_len e1;have l2:=minus_len r1;have l3:=nat_len e3;have l4:=sg_len e4;have l5:=nat_len e5;have l6:=sg_len e6;have ha:=nat_inv e3;have hb:=nat_inv e5;have hm:=mk_len ha.1 hb.1 (hb.2.2.resolve_left (by decide)) ha.2.1 hb.2.1;have hn:=neg_make ha.1 hb.1 (hb.2.2.resolve_left (by decide))
 cases h
 refine⟨by omega,_,rfl,(by decide:(0:Int)≤0∧(0:Int)≤4),?_,?_,Nat.zero_le _,(by decide:(0:Int)≤0∧(0:Int)≤9999),(by decide:(0:Int)≤0∧(0:Int)≤9999)⟩
 ·dsimp only;split
  ·rw[←hn];exact hm.2.2.1
  ·exact Nat.le_succ_of_le hm.1
 ·dsimp only;split
  ·rw[←hn];exact hm.2.2.2
  ·exact hm.2.1
def lfR(op:Int)(r:List Pz.K)(t:List Nd):Rs:=if op=0 then numR r t else priceR op r t
theorem lf_sz{op:Int}{r r':List Pz.K}{t t':List Nd}(ho:0≤op∧op≤4)(hr:∀k∈r,okT k∧k.2.length≤100)(h:lfR op r t=.ok r' t'):r'.length≤r.length∧∃x,t'=t++[x]∧LfN x:=by
 unfold lfR at h;split at h
 ·exact num_sz (fun k hk=>(hr k hk).1) h
 ·exact⟨price_len h,price_sz h ho (fun k hk=>(hr k hk).2)⟩
def cntO:List Wt→Nat
 | []=>0
 | (o,_)::K=>(if tgt o=0 then 1 else 0)+cntO K
theorem cnt_settle{n:Nat}(hn:1≤n):∀ (K:List Wt) (t:List Nd),cntO (settleF n K t).1=cntO K
 | [],t=>rfl
 | (o,c)::K,t=>by
  by_cases h:n≤tgt o
  ·rw[settle_yes h,cnt_settle hn K];show _=(if tgt o=0 then 1 else 0)+cntO K;rw[if_neg (by omega)];omega
  ·rw[settle_no h]
theorem cnt_loose{K:List Wt}(h:Loose 1 K)(h0:cntO K=0):K=[]:=by
 match K,h,h0 with
 | [],_,_=>rfl
 | (o,c)::K,h,h0 =>
  have:=h o c K rfl;have h0:(if tgt o=0 then 1 else 0)+cntO K=0:=h0;rw[if_pos (by omega)]at h0;omega
theorem settle_all{M:Wt→Prop}{n:Nat}:∀ (K:List Wt) (t:List Nd),(∀x∈K,M x)→∀x∈(settleF n K t).1,M x
 | [],t,h=>h
 | (o,c)::K,t,h=>by
  by_cases hn:n≤tgt o
  ·rw[settle_yes hn];exact settle_all K _ fun x hx=>h x (List.mem_cons_of_mem _ hx)
  ·rw[settle_no hn];exact h
theorem settle_nd{M:Nd→Prop}{n:Nat}:∀ (K:List Wt) (t:List Nd),(∀x∈t,M x)→(∀x∈K,M (plainN x.1))→∀x∈(settleF n K t).2,M x
 | [],t,h,_=>h
 | (o,c)::K,t,h,hk=>by
  by_cases hn:n≤tgt o
  ·rw[settle_yes hn];refine settle_nd K _ (fun x hx=>?_) fun x hx=>hk x (List.mem_cons_of_mem _ hx);rcases List.mem_append.1 hx with hx|hx
   ·exact h x hx
   ·rw[List.mem_singleton.1 hx];exact hk (o,c) List.mem_cons_self
  ·rw[settle_no hn];exact h
end Pz
end Go.Proofs.YtnichceiafandaaGreatDoor
