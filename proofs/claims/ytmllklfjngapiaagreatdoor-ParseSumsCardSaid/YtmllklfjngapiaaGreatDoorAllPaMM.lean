/- Own work. -/
import Derived.Test.YtmllklfjngapiaaGreatDoorAllPaL
set_option linter.unusedSimpArgs false
set_option linter.unusedVariables false
namespace Go.Proofs.YtmllklfjngapiaaGreatDoor
namespace Pz
open Tm (Nd Tr plainN)
open Wd (okT kl)
theorem then_ok{α:Type}{r0:List Pz.K}{x:Option α}{f:α→Rs}{r:List Pz.K}{u:List Nd}(h:thenR r0 x f=.ok r u):∃a,x=some a∧f a=.ok r u:=by
 cases x with
 | none=>cases h
 | some a=>exact⟨a,rfl,h⟩
theorem sg_sub{s:List UInt8}{r r1:List Pz.K}(h:sg s r=some r1):∀k∈r1,k∈r:=by
 cases r with
 | nil=>cases h
 | cons k r =>
  rw[sg_cons]at h;split at h
  ·cases h;exact fun k hk=>List.mem_cons_of_mem _ hk
  ·cases h
theorem name_sub{r r1:List Pz.K}{a:List UInt8}(h:nameR r=some (a,r1)):(∃k∈r,k.2=a)∧∀k∈r1,k∈r:=by
 cases r with
 | nil=>cases h
 | cons k r =>
  have h:(if k.1=0 then some (k.2,r) else none)=some (a,r1):=h;split at h
  ·cases h;exact⟨⟨k,List.mem_cons_self,rfl⟩,fun k hk=>List.mem_cons_of_mem _ hk⟩
  ·cases h
theorem day_rng{lo hi x:Int}{r r1:List Pz.K}(h:dayR lo hi r=some (x,r1)):0≤x∧x≤9999:=by
 cases r with
 | nil=>cases h
 | cons k r =>
  rw[day_cons]at h;split at h
  ·rename_i c
   cases h
   exact⟨small_nn _,c.2.2.2.2⟩
  ·cases h
def LfN(x:Nd):Prop:=(0≤x.op∧x.op≤4)∧x.num.1.length≤61∧x.num.2.length≤60∧x.ast.length≤100∧(0≤x.a∧x.a≤9999)∧(0≤x.b∧x.b≤9999)
theorem price_sz{op:Int}{r r':List Pz.K}{t t':List Nd}(h:priceR op r t=.ok r' t')(ho:0≤op∧op≤4)(hr:∀k∈r,k.2.length≤100):∃x,t'=t++[x]∧LfN x:=by
 unfold priceR at h;obtain⟨r1,e1,h⟩:=then_ok h;obtain⟨⟨a,r2⟩,e2,h⟩:=then_ok h;obtain⟨r3,e3,h⟩:=then_ok h;obtain⟨⟨x,r4⟩,e4,h⟩:=then_ok h;obtain⟨⟨k,hk,ha⟩,_⟩:=name_sub e2;have hal:a.length≤100:=by rw[←ha];exact hr k (sg_sub e1 k hk)
 have hx:=day_rng e4;dsimp only at h;split at h
 ·obtain⟨r5,e5,h⟩:=then_ok h
  cases h
  exact⟨_,rfl,ho,Nat.zero_le _,Nat.zero_le _,hal,hx,(by decide:(0:Int)≤0∧(0:Int)≤9999)⟩
 ·obtain⟨r5,e5,h⟩:=then_ok h;obtain⟨⟨y,r6⟩,e6,h⟩:=then_ok h;obtain⟨r7,e7,h⟩:=then_ok h
  cases h
  exact⟨_,rfl,ho,Nat.zero_le _,Nat.zero_le _,hal,hx,day_rng e6⟩
theorem valS_below{a:List UInt8}(ha:isNat a=true)(hl:a.length≤60):valS a<10 ^ 60:=by
 have hd:a.all isDig=true:=by
  unfold isNat at ha;exact(Bool.and_eq_true_iff.1 ha).2
 exact Nat.lt_of_lt_of_le (valS_lt hd) (Nat.pow_le_pow_right (by decide) hl)
theorem mk_len{a b:List UInt8}(ha:isNat a=true)(hb:isNat b=true)(h0:b≠[48])(la:a.length≤60)(lb:b.length≤60):(makeR a b).1.1.length≤60∧(makeR a b).1.2.length≤60∧(negR (makeR a b).1).1.length≤61∧(negR (makeR a b).1).2.length≤60:=by
 have wa:=isW_nat ha;have wb:=isW_nat hb;have vb:=valW_ne hb h0;have ea:valW a=(valS a:Int):=by
  rcases isW_cases wa with ⟨_,e⟩|⟨r,e,_⟩
  ·exact e
  ·subst e;unfold isNat at ha;simp only[Bool.and_eq_true,List.all_cons]at ha;exact absurd ha.2.1 (by decide)
 have eb:valW b=(valS b:Int):=by
  rcases isW_cases wb with ⟨_,e⟩|⟨r,e,_⟩
  ·exact e
  ·subst e;unfold isNat at hb;simp only[Bool.and_eq_true,List.all_cons]at hb;exact absurd hb.2.1 (by decide)
 have hd:valS b≠0:=by rw[eb]at vb;omega
 have hA:=valS_below ha la;have hB:=valS_below hb lb;have e1:(makeR a b).1=(wd ((valS a / Nat.gcd (valS a) (valS b):Nat):Int),dig (valS b / Nat.gcd (valS a) (valS b))):=by
  rw[makeR_yes wa wb vb,ea,eb];show rd (Rat.divInt _ _)=_;rw[rd_divInt hd,Int.natAbs_natCast]
  rfl
 have hq1:valS a / Nat.gcd (valS a) (valS b)<10 ^ 60:=Nat.lt_of_le_of_lt (Nat.div_le_self _ _) hA;have hq2:valS b / Nat.gcd (valS a) (valS b)<10 ^ 60:=Nat.lt_of_le_of_lt (Nat.div_le_self _ _) hB;have d1:=dig_length (k:=60) (by decide) hq1;have d2:=dig_length (k:=60) (by decide) hq2;have hr:isR (makeR a b).1=true:=by rw[makeR_yes wa wb vb];exact isR_rd _
 have e2:negR (makeR a b).1=(negW (makeR a b).1.1,(makeR a b).1.2):=negR_yes hr;rw[e2,e1];refine⟨?_,d2,?_,d2⟩
 ·rw[wd_pos (Int.natCast_nonneg _)];exact d1
 ·dsimp only;unfold negW;rw[isW_wd,if_pos rfl,valW_wd];have k:=wd_length (-((valS a / Nat.gcd (valS a) (valS b):Nat):Int));rw[Int.natAbs_neg,Int.natAbs_natCast]at k;omega
theorem row_nu{s s':Nm}{r r':List Pz.K}(hr:∀k∈r,okT k)(h:rowF nuL s r=(true,s',r')):isNat s'.1=true∧s'.1.length≤60∧isNat s'.2=true∧s'.2.length≤60∧s'.2≠[48]:=by
 unfold nuL at h
 cases e3:natR true r with
 | none =>
  obtain⟨s1,hs⟩:=(na_take s r hr).2 e3;rw[row_cons_no (by rw[hs]),hs]at h
  cases h
 | some q =>
  obtain⟨a,r3⟩:=q;have hs:=(na_take s r hr).1 a r3 e3;have ha:=nat_inv e3;rw[row_cons_yes (by rw[hs]),hs]at h;have h3:=suf_ok hs hr;dsimp only at h;rcases rowSg (b:=44) rfl [abF,sgF 41] ((a,s.2):Nm) r3 h3 with ⟨r4,e4,k4,h4⟩|⟨e4,k4⟩
  ·rw[k4]at h
   cases e5:natR false r4 with
   | none =>
    obtain⟨s1,hs⟩:=(ab_take (a,s.2) r4 h4).2 e5;rw[row_cons_no (by rw[hs]),hs]at h
    cases h
   | some q =>
    obtain⟨b,r5⟩:=q;have hs:=(ab_take (a,s.2) r4 h4).1 b r5 e5;have hb:=nat_inv e5;rw[row_cons_yes (by rw[hs]),hs]at h;have h5:=suf_ok hs h4;dsimp only at h;rcases rowSg (b:=41) rfl [] ((a,b):Nm) r5 h5 with ⟨r6,e6,k6,h6⟩|⟨e6,k6⟩
    ·rw[k6]at h
     cases h
     exact⟨ha.1,ha.2.1,hb.1,hb.2.1,hb.2.2.resolve_left (by decide)⟩
    ·rw[k6]at h;cases h
  ·rw[k4]at h;cases h
theorem sg_len{s:List UInt8}{r r1:List Pz.K}(h:sg s r=some r1):r1.length≤r.length:=by
 cases r with
 | nil=>cases h
 | cons k r =>
  rw[sg_cons]at h;split at h
  ·cases h;exact Nat.le_succ _
  ·cases h
theorem name_len{r r1:List Pz.K}{a:List UInt8}(h:nameR r=some (a,r1)):r1.length≤r.length:=by
 cases r with
 | nil=>cases h
 | cons k r =>
  have h:(if k.1=0 then some (k.2,r) else none)=some (a,r1):=h;split at h
  ·cases h;exact Nat.le_succ _
  ·cases h
theorem day_len{lo hi x:Int}{r r1:List Pz.K}(h:dayR lo hi r=some (x,r1)):r1.length≤r.length:=by
 cases r with
 | nil=>cases h
 | cons k r =>
  rw[day_cons]at h;split at h
  ·cases h;exact Nat.le_succ _
  ·cases h
theorem nat_len{z:Bool}{a:List UInt8}{r r1:List Pz.K}(h:natR z r=some (a,r1)):r1.length≤r.length:=by
 cases r with
 | nil=>cases h
 | cons k r =>
  rw[nat_cons]at h;split at h
  ·cases h;exact Nat.le_succ _
  ·cases h
theorem minus_len(r:List Pz.K):(minusR r).2.length≤r.length:=by
 unfold minusR
 cases e:sg [45] r with
 | none=>exact Nat.le_refl _
 | some r1=>exact sg_len e
theorem price_len{op:Int}{r r':List Pz.K}{t t':List Nd}(h:priceR op r t=.ok r' t'):r'.length≤r.length:=by
 unfold priceR at h;obtain⟨r1,e1,h⟩:=then_ok h;obtain⟨⟨a,r2⟩,e2,h⟩:=then_ok h;obtain⟨r3,e3,h⟩:=then_ok h;obtain⟨⟨x,r4⟩,e4,h⟩:=then_ok h;have l1:=sg_len e1;have l2:=name_len e2;have l3:=sg_len e3;have l4:=day_len e4;dsimp only at h;split at h
 ·obtain⟨r5,e5,h⟩:=then_ok h;have l5:=sg_len e5
  cases h
  omega
 ·obtain⟨r5,e5,h⟩:=then_ok h;obtain⟨⟨y,r6⟩,e6,h⟩:=then_ok h;dsimp only at h;obtain⟨r7,e7,h⟩:=then_ok h;have l5:=sg_len e5;have l6:=day_len e6;have l7:=sg_len e7
  cases h
  omega
theorem num_sz{r r':List Pz.K}{t t':List Nd}(hr:∀k∈r,okT k)(h:numR r t=.ok r' t'):r'.length≤r.length∧∃x,t'=t++[x]∧LfN x:=by
 unfold numR at h;obtain⟨r1,e1,h⟩:=then_ok h;obtain⟨⟨a,r3⟩,e3,h⟩:=then_ok h;obtain⟨r4,e4,h⟩:=then_ok h;obtain⟨⟨b,r5⟩,e5,h⟩:=then_ok h;obtain⟨r6,e6,h⟩:=then_ok h;have l1:=sg_len e1;have l2:=minus_len r1;have l3:=nat_len e3;have l4:=sg_len e4;have l5:=nat_len e5;have l6:=sg_len e6;have ha:=nat_inv e3;have hb:=nat_inv e5;have hm:=mk_len ha.1 hb.1 (hb.2.2.resolve_left (by decide)) ha.2.1 hb.2.1;have hn:=neg_make ha.1 hb.1 (hb.2.2.resolve_left (by decide))
 cases h
 refine⟨by omega,_,rfl,(by decide:(0:Int)≤0∧(0:Int)≤4),?_,?_,Nat.zero_le _,(by decide:(0:Int)≤0∧(0:Int)≤9999),(by decide:(0:Int)≤0∧(0:Int)≤9999)⟩
 ·dsimp only;split
  ·rw[←hn];exact hm.2.2.1
  ·exact Nat.le_succ_of_le hm.1
 ·dsimp only;split
  ·rw[←hn];exact hm.2.2.2
  ·exact hm.2.1
def lfR(op:Int)(r:List Pz.K)(t:List Nd):Rs:=if op=0 then numR r t else priceR op r t
theorem lf_sz{op:Int}{r r':List Pz.K}{t t':List Nd}(ho:0≤op∧op≤4)(hr:∀k∈r,okT k∧k.2.length≤100)(h:lfR op r t=.ok r' t'):r'.length≤r.length∧∃x,t'=t++[x]∧LfN x:=by
 unfold lfR at h;split at h
 ·exact num_sz (fun k hk=>(hr k hk).1) h
 ·exact⟨price_len h,price_sz h ho (fun k hk=>(hr k hk).2)⟩
def cntO:List Wt→Nat
 | []=>0
 | (o,_)::K=>(if tgt o=0 then 1 else 0)+cntO K
theorem cnt_settle{n:Nat}(hn:1≤n):∀ (K:List Wt) (t:List Nd),cntO (settleF n K t).1=cntO K
 | [],t=>rfl
 | (o,c)::K,t=>by
  by_cases h:n≤tgt o
  ·rw[settle_yes h,cnt_settle hn K];show _=(if tgt o=0 then 1 else 0)+cntO K;rw[if_neg (by omega)];omega
  ·rw[settle_no h]
theorem cnt_loose{K:List Wt}(h:Loose 1 K)(h0:cntO K=0):K=[]:=by
 match K,h,h0 with
 | [],_,_=>rfl
 | (o,c)::K,h,h0 =>
  have:=h o c K rfl;have h0:(if tgt o=0 then 1 else 0)+cntO K=0:=h0;rw[if_pos (by omega)]at h0;omega
theorem settle_all{M:Wt→Prop}{n:Nat}:∀ (K:List Wt) (t:List Nd),(∀x∈K,M x)→∀x∈(settleF n K t).1,M x
 | [],t,h=>h
 | (o,c)::K,t,h=>by
  by_cases hn:n≤tgt o
  ·rw[settle_yes hn];exact settle_all K _ fun x hx=>h x (List.mem_cons_of_mem _ hx)
  ·rw[settle_no hn];exact h
theorem settle_nd{M:Nd→Prop}{n:Nat}:∀ (K:List Wt) (t:List Nd),(∀x∈t,M x)→(∀x∈K,M (plainN x.1))→∀x∈(settleF n K t).2,M x
 | [],t,h,_=>h
 | (o,c)::K,t,h,hk=>by
  by_cases hn:n≤tgt o
  ·rw[settle_yes hn];refine settle_nd K _ (fun x hx=>?_) fun x hx=>hk x (List.mem_cons_of_mem _ hx);rcases List.mem_append.1 hx with hx|hx
   ·exact h x hx
   ·rw[List.mem_singleton.1 hx];exact hk (o,c) List.mem_cons_self
  ·rw[settle_no hn];exact h
end Pz
end Go.Proofs.YtmllklfjngapiaaGreatDoor
set_option maxHeartbeats 4000000
set_option maxRecDepth 100000
namespace Go.Proofs.YtmllklfjngapiaaGreatDoor
open Go.RowKit
open Wd (Tk okT ktT)
open Tm (Nd plainN arI arN)
open Pz (Wt tgt settleF)
open Pz (Ms Px Nm nmF dyF frF naF abF sgF rowF takeF nuL numR nuO Rs sg minusR)
variable {R : Nat} {Z : List Nat} {p : Option Addr} {c : Nat} {mv wv ov : Value} {l : List Tk} {k d : Nat} {K : List Wt} {t : List Nd} {w : World}
theorem Blk.keep{b:Nat}{cs:List Value}{w':World}(h:Blk b cs w)(hk:Kept R Z w w')(hb:b∈Z):Blk b cs w':=by
 have e:=hk.z b hb;exact⟨Nat.lt_of_lt_of_le h.lt hk.b.size,fun i x c=>(World.cell?_of_block (w:=w) (a:=⟨b,i,none⟩) e).trans (h.c i x c),fun i c=>(World.frozen?_of_block (w:=w) (a:=⟨b,i,none⟩) e).trans (h.f i c)⟩
theorem Kept.less{Z':List Nat}{w':World}(h:Kept R Z w w')(hs:∀z∈Z',z∈Z):Kept R Z' w w':=⟨h.b,fun z hz=>h.z z (hs z hz)⟩
theorem minus_rs(k:Nat):minusR (rsK l k)=((sg [45] (rsK l k)).isSome,rsK l (if (sg [45] (rsK l k)).isSome then k+1 else k)):=by
 unfold minusR
 cases hs:sg [45] (rsK l k) with
 | none=>rfl
 | some r1 =>
  cases hr:rsK l k with
  | nil=>rw[hr]at hs;cases hs
  | cons x r =>
   rw[hr,Pz.sg_cons]at hs;split at hs
   ·have e1:=Option.some.inj hs;have e2:=(rsK_lt hr).2;exact congrArg (Prod.mk true) (e1.symm.trans e2)
   ·cases hs
theorem sg_rs{b:UInt8}(h:(sg [b] (rsK l k)).isSome=true):sg [b] (rsK l k)=some (rsK l (k+1))∧rsK l k=(2,[b])::rsK l (k+1)∧k<l.length:=by
 cases hr:rsK l k with
 | nil=>rw[hr]at h;cases h
 | cons x r =>
  rw[hr,Pz.sg_cons]at h;split at h
  ·rename_i e
   obtain⟨h1,h2⟩:=rsK_lt hr;subst e;rw[h2];exact⟨Pz.sg_yes _ _,rfl,h1⟩
  ·cases h
theorem pfrac_any(h:RdS R Z p c mv l k d K t wv ov w)(E:PEn R p l w)(hk:k≤l.length)(ht:t.length≤2000000) :
  Calls Tryz.prog 76 #[.pointer (some ⟨R,0,none⟩)] w (LeafG R Z p c mv l d K t w (numR (rsK l k) t)):=by
 have h1:=h.alloc (.cells #[.string ⟨#[]⟩] 9);have b1:Below w.heap.size w (w.alloc (.cells #[.string ⟨#[]⟩] 9)):=Below.alloc (Below.refl _ _) (Nat.le_refl _) _;have s1:(w.alloc (.cells #[.string ⟨#[]⟩] 9)).heap.size=w.heap.size+1:=by simp
 have h2:=h1.alloc (.cells #[.string ⟨#[]⟩] 9);rw[s1]at h2;have b2:Below (w.alloc (.cells #[.string ⟨#[]⟩] 9)).heap.size (w.alloc (.cells #[.string ⟨#[]⟩] 9)) ((w.alloc (.cells #[.string ⟨#[]⟩] 9)).alloc (.cells #[.string ⟨#[]⟩] 9)):=Below.alloc (Below.refl _ _) (Nat.le_refl _) _;have n1:=(blk_new w #[.string ⟨#[]⟩] 9).below b2;have n2:=blk_new (w.alloc (.cells #[.string ⟨#[]⟩] 9)) #[.string ⟨#[]⟩] 9;rw[s1]at n2;have s2:((w.alloc (.cells #[.string ⟨#[]⟩] 9)).alloc (.cells #[.string ⟨#[]⟩] 9)).heap.size=w.heap.size+1+1:=by simp
 obtain⟨U,hU⟩:∃U,(w.alloc (.cells #[.string ⟨#[]⟩] 9)).alloc (.cells #[.string ⟨#[]⟩] 9)=U:=⟨_,rfl⟩;rw[hU]at h2 b2 n1 n2 s2;have HU:=zh (Below.more b1 b2);have HN0:Hid (nuI w.heap.size (w.heap.size+1) ([],[]) U):=zh ⟨n1,n2⟩;have HH:=zh h2;have HsU:=zh s2;have HE:=zh E;have HZ:=zh h.zlt;have HRw:=zh h.blk.lt;have HK:=zh hk;have HTl:=zh ht;have HKU:=zh (Kept.of_below (R:=R) (Z:=Z) (Below.more b1 b2) h.zlt (Nat.le_of_lt h.blk.lt));have hEU:=E.below ((Below.more b1 b2).mono (Nat.le_of_lt h.blk.lt));have CT1:=zh (ptake_sign h2 hEU hk 40 rfl)
 cases hs1:(sg [40] (rsK l k)).isSome with
 | false =>
  rw[hs1]at CT1;have hnone:sg [40] (rsK l k)=none:=by cases e:sg [40] (rsK l k) with
   | none=>rfl
   | some x=>rw[e]at hs1;cases hs1
  have HPR:Hid (numR (rsK l k) t=.bad 110 (rsK l k).length):=zh (by rw[Pz.num_row _ t (rsK_ok (fun t ht=>(E.ok.2 t ht).1) k),hnone]);clear h E h1 h2 b1 b2 s1 s2 n1 n2 hEU hs1 hnone hk ht;go_enter Tryz.func76,Tryz.ntmps76;go_wp2_with fail;refine(ksign_any ⟨#[40]⟩ _).mono ?_;rintro r w1 ⟨rfl,rfl⟩;go_wp2_with fail;refine CT1.out.mono ?_;rintro r w3 ⟨rfl,h3,k3,_⟩;have HR:=zh h3;have HKp:=zh (HKU.out.trans (k3.less (fun z hz=>by simp[hz])));clear h3 k3 CT1;go_wp2_with fail;go_ret;exact .inr ⟨k,wv,ov,HPR.out,HK.out,rfl,HR.out.less (fun z hz=>by simp[hz]),HKp.out⟩
 | true =>
  rw[hs1]at CT1;have HS1:=zh (sg_rs hs1);clear h h1 h2 b1 b2 s1 s2 n1 n2 hEU hs1 hk ht E
  cases hs2:(sg [45] (rsK l (k+1))).isSome with
  | false =>
   have HS2:=zh hs2;clear hs2;go_enter Tryz.func76,Tryz.ntmps76;go_wp2_with fail;refine(ksign_any ⟨#[40]⟩ _).mono ?_;rintro r w1 ⟨rfl,rfl⟩;go_wp2_with fail;refine CT1.out.mono ?_;rintro r w3 ⟨rfl,h3,k3,hk3⟩;have h3:RdS R ((w.heap.size+1)::w.heap.size::Z) p c mv l (k+1) d K t wv ov w3:=h3;have hkU:=HKU.out.trans (k3.less (Z':=Z) (fun z hz=>by simp[hz]));have hE3:=HE.out.below hkU.b;have CT2:=zh (ptake_sign h3 hE3 hk3 45 rfl);rw[HS2.out]at CT2;have hN3:nuI w.heap.size (w.heap.size+1) ([],[]) w3:=⟨HN0.out.1.keep k3 (by simp),HN0.out.2.keep k3 (by simp)⟩;have HN3:=zh hN3;have HKU3:=zh hkU;have HSZ3:Hid (w.heap.size+1<w3.heap.size):=zh (h3.zlt _ (by simp));clear h3 k3 hkU hE3 hN3 CT1 hk3;go_wp2_with fail;refine(ksign_any ⟨#[45]⟩ _).mono ?_;rintro r w1 ⟨rfl,rfl⟩;go_wp2_with fail;refine CT2.out.mono ?_;rintro r V0 ⟨rfl,h4,k4,hk4⟩;obtain⟨k2,hk2⟩:∃k2,k2=k+1:=⟨_,rfl⟩;have h4:RdS R ((w.heap.size+1)::w.heap.size::Z) p c mv l k2 d K t wv ov V0:=by rw[hk2];exact h4
   have HK2:Hid (k2≤l.length):=zh (by rw[hk2];exact hk4);have H0:=zh h4;have HKp:=zh (HKU3.out.trans (k4.less (Z':=Z) (fun z hz=>by simp[hz])));have HN:Hid (nuI w.heap.size (w.heap.size+1) ([],[]) V0):=zh ⟨HN3.out.1.keep k4 (by simp),HN3.out.2.keep k4 (by simp)⟩;have HsV:Hid (w.heap.size+1<V0.heap.size):=zh (h4.zlt _ (by simp));have HS2':Hid ((sg [45] (rsK l (k+1))).isSome=false∧k2=k+1):=zh ⟨HS2.out,hk2⟩;clear h4 k4 hk4 CT2 HS2 hk2;go_wp2_with fail;refine(knatural_any _ _).mono ?_;rintro r u1 ⟨rfl,hw⟩;have I1:=zh (natur_is w.heap.size (w.heap.size+1) V0 (by have:=HsV.out;omega) (by omega));rw[←hw]at I1;have bb:Below V0.heap.size V0 u1:=by rw[hw];exact Below.alloc (Below.refl _ _) (Nat.le_refl _) _
   have Bu1:=zh bb;clear hw bb;go_wp2_with fail;refine(ksign_any ⟨#[44]⟩ _).mono ?_;rintro r u2 ⟨rfl,hw⟩;have I2:=zh (sign_is (nuTg w.heap.size (w.heap.size+1)) 44 u1);rw[←hw]at I2;have bb:Below u1.heap.size u1 u2:=by rw[hw];exact Below.alloc (Below.refl _ _) (Nat.le_refl _) _
   have Bu2:=zh bb;clear hw bb;go_wp2_with fail;refine(kabove_any _ _).mono ?_;rintro r u3 ⟨rfl,bb,s0,c1,c2,c3⟩;have I3:=zh (above_is w.heap.size (w.heap.size+1) (w:=u2) (w':=u3) (by have:=HsV.out;have:=Bu1.out.size;have:=Bu2.out.size;omega) (by omega) s0 c1 c2 c3);have Bu3:=zh bb;clear bb s0 c1 c2 c3;go_wp2_with fail;refine(ksign_any ⟨#[41]⟩ _).mono ?_;rintro r u4 ⟨rfl,hw⟩;have I4:=zh (sign_is (nuTg w.heap.size (w.heap.size+1)) 41 u3);rw[←hw]at I4;have bb:Below u3.heap.size u3 u4:=by rw[hw];exact Below.alloc (Below.refl _ _) (Nat.le_refl _) _
   have Bu4:=zh bb;clear hw bb;obtain⟨V,hV⟩:∃V,u4.alloc (.cells #[fvV (145,#[.pointer (some ⟨V0.heap.size,0,none⟩)]),fvV (72,#[.pointer (some ⟨u1.heap.size,0,none⟩)]),fvV (147,#[.pointer (some ⟨u2.heap.size+1+1,0,none⟩),.pointer (some ⟨u2.heap.size,0,none⟩)]),fvV (72,#[.pointer (some ⟨u3.heap.size,0,none⟩)])] 79)=V:=⟨_,rfl⟩;have hR:=rowsLit (enc:=encG) (k:=1) (fun _=>rfl) u4 [(145,#[.pointer (some ⟨V0.heap.size,0,none⟩)]),(72,#[.pointer (some ⟨u1.heap.size,0,none⟩)]),(147,#[.pointer (some ⟨u2.heap.size+1+1,0,none⟩),.pointer (some ⟨u2.heap.size,0,none⟩)]),(72,#[.pointer (some ⟨u3.heap.size,0,none⟩)])] #[fvV (145,#[.pointer (some ⟨V0.heap.size,0,none⟩)]),fvV (72,#[.pointer (some ⟨u1.heap.size,0,none⟩)]),fvV (147,#[.pointer (some ⟨u2.heap.size+1+1,0,none⟩),.pointer (some ⟨u2.heap.size,0,none⟩)]),fvV (72,#[.pointer (some ⟨u3.heap.size,0,none⟩)])] 79 rfl;rw[hV]at hR;have bb:Below u4.heap.size u4 V:=by rw[←hV];exact Below.alloc (Below.refl _ _) (Nat.le_refl _) _
   have BV:=zh bb;have BR:=zh (Below.more (Below.more (Below.more (Below.more Bu1.out Bu2.out) Bu3.out) Bu4.out) bb);obtain⟨Lf,hLf⟩:∃Lf:List Fv,Lf=[(145,#[.pointer (some ⟨V0.heap.size,0,none⟩)]),(72,#[.pointer (some ⟨u1.heap.size,0,none⟩)]),(147,#[.pointer (some ⟨u2.heap.size+1+1,0,none⟩),.pointer (some ⟨u2.heap.size,0,none⟩)]),(72,#[.pointer (some ⟨u3.heap.size,0,none⟩)])]:=⟨_,rfl⟩;rw[←hLf]at hR;have hlf:Lf.length=4:=by rw[hLf];rfl
   have J1:=zh (I1.out.stay (lo':=V0.heap.size) (Nat.le_refl _) (WrB.of_below (Below.more (Below.more (Below.more Bu2.out Bu3.out) Bu4.out) bb) []) (fun x c=>by cases c));have J2:=zh (I2.out.stay (lo':=V0.heap.size) (by have:=Bu1.out.size;omega) (WrB.of_below (Below.more (Below.more Bu3.out Bu4.out) bb) []) (fun x c=>by cases c));have J3:=zh (I3.out.stay (lo':=V0.heap.size) (by have:=Bu1.out.size;have:=Bu2.out.size;omega) (WrB.of_below (Below.more Bu4.out bb) []) (fun x c=>by cases c));have J4:=zh (I4.out.stay (lo':=V0.heap.size) (by have:=Bu1.out.size;have:=Bu2.out.size;have:=Bu3.out.size;omega) (WrB.of_below bb []) (fun x c=>by cases c));have hM:∀ (i:Nat) (M:Value) (f:Ms Nm),(Lf.map fvV)[i]?=some M→nuL[i]?=some f→IsM (nuI w.heap.size (w.heap.size+1)) [w.heap.size,w.heap.size+1] f M V0.heap.size V:=by
    intro i M f hM hf;rw[hLf]at hM
    match i,hM,hf with
    | 0,hM,hf =>
     obtain rfl:=Option.some.inj hM;obtain rfl:=Option.some.inj hf;exact J1.out
    | 1,hM,hf =>
     obtain rfl:=Option.some.inj hM;obtain rfl:=Option.some.inj hf;exact J2.out
    | 2,hM,hf =>
     obtain rfl:=Option.some.inj hM;obtain rfl:=Option.some.inj hf;exact J3.out
    | 3,hM,hf =>
     obtain rfl:=Option.some.inj hM;obtain rfl:=Option.some.inj hf;exact J4.out
    | n+4,hM,_=>exact absurd hM (by simp)
   have hRX:=H0.out.below BR.out;have hEX:=HE.out.below (HKp.out.b.trans (BR.out.mono (Nat.le_of_lt H0.out.blk.lt)));have hT2:∀T∈[w.heap.size,w.heap.size+1],T=w.heap.size∨T=w.heap.size+1:=fun T c=>by simpa using c
   have CR:=zh (prow_any nuL (Lf.map fvV) V (nuTg w.heap.size (w.heap.size+1)) (by rw[List.length_map,hlf];rfl) hM (some ⟨u4.heap.size,0,none⟩) 4 (rows_map hR) (fun a e=>by obtain rfl:=Option.some.inj e;show V0.heap.size≤u4.heap.size;have:=Bu1.out.size;have:=Bu2.out.size;have:=Bu3.out.size;have:=Bu4.out.size;omega) (fun T c=>by have:=hT2 T c;have:=HsV.out;omega) H0.out.blk.lt (by rw[List.length_map,hlf];decide) ([],[]) k2 l hEX.good (fun X hX=>hEX.gr X (hX.below (fun x c=>by
     rcases List.mem_cons.1 c with c|c
     ·omega
     ·have:=hT2 x c;have:=HRw.out;omega) (Nat.le_of_lt hRX.blk.lt))) ⟨HN.out.1.below BR.out,HN.out.2.below BR.out⟩ hEX.tk (fun a e c=>by
     have:=hEX.low a e;rcases List.mem_cons.1 c with c|c
     ·omega
     ·have:=hT2 _ c;have:=HRw.out;omega) (fun c=>by have:=hT2 _ c;have:=HRw.out;omega) hRX.blk hEX.ok HK2.out)
   rw[List.length_map,hlf]at CR;have HRX:=zh hRX;simp only[fvV]at hV;clear hR bb hM hRX hEX hLf hlf;go_wp2_with fail;refine CR.out.mono ?_;rintro r wz ⟨b,s',k',hF,rfl,hk',hI',hbk,hwz⟩;have h9:=HRX.out.cellT hbk hwz (fun x c=>by rcases hT2 x c with rfl|rfl<;>simp);have hkp:Kept R Z w wz:=by
    have q1:Kept R Z w V:=HKp.out.trans (Kept.of_below BR.out (fun z hz=>by have:=HZ.out z hz;have:=HsV.out;omega) (Nat.le_of_lt H0.out.blk.lt));exact q1.trans (Kept.wr hwz (fun x c=>by
     rcases List.mem_cons.1 c with c|c
     ·subst c;exact⟨Nat.le_refl _,fun hz=>HRX.out.rz (by simp[hz])⟩
     ·have e:=hT2 x c;exact⟨by have:=HRw.out;omega,fun hz=>by have:=HZ.out x hz;omega⟩) (fun z hz=>by have:=HZ.out z hz;have:=HsV.out;have:=BR.out.size;omega) (Nat.le_of_lt HRX.out.blk.lt))
   have hpr:numR (rsK l k) t=nuO false t (b,s',rsK l k'):=by
    rw[Pz.num_row _ t (rsK_ok (fun t ht=>(HE.out.ok.2 t ht).1) k),HS1.out.1];dsimp only;rw[minus_rs,HS2'.out.1];rw[←hF,HS2'.out.2]
    rfl
   have hsz:=fun (e:b=true)=>Pz.row_nu (s:=([],[])) (r':=rsK l k') (rsK_ok (fun t ht=>(HE.out.ok.2 t ht).1) k2) (by rw[hF,e]);have H9:=zh h9;have HKp9:=zh hkp;have HPR:=zh hpr;have HK9:=zh hk'
   have HBT:=zh hI';have HSZ:=zh hsz;have HEZ:=zh (HE.out.below hkp.b);clear h9 hkp hpr hF hbk hwz CR HRX hk' hsz hT2 hI'
   cases b with
   | false =>
    go_wp2_with fail;go_ret;exact .inr ⟨k',wv,ov,HPR.out,HK9.out,rfl,H9.out.less (fun z hz=>by simp[hz]),HKp9.out⟩
   | true =>
    obtain⟨na,nl,nb,bl,n0⟩:=HSZ.out rfl;obtain⟨m1,m2,m3,m4⟩:=Pz.mk_len na nb n0 nl bl;obtain⟨a1,a2⟩:=s';dsimp only at HBT HPR m1 m2 m3 m4 nl bl;have cm:=fun V=>qmake_any ⟨a1.toArray⟩ ⟨a2.toArray⟩ V (by show a1.toArray.size≤90000;rw[List.size_toArray];omega) (by show a2.toArray.size≤90000;rw[List.size_toArray];omega);rw[show (⟨a1.toArray⟩:ByteArray).data.toList=a1 from rfl,show (⟨a2.toArray⟩:ByteArray).data.toList=a2 from rfl]at cm;have HPR2:Hid (numR (rsK l k) t=.ok (rsK l k') (t++[Nd.mk 0 ((makeR a1 a2).1) [] 0 0])):=zh HPR.out;generalize makeR a1 a2=MR at *;obtain⟨⟨mn,md⟩,mb⟩:=MR;dsimp only at m1 m2 m3 m4 HPR2 cm;have CM:=zh cm;have c0:=HBT.out.1.c 0 _ rfl;have c1:=HBT.out.2.c 0 _ rfl;have HM3:=zh (And.intro m1 m2);clear cm HPR HSZ na nb n0 nl bl;go_wp2_with fail;refine(CM.out _).mono ?_;rintro r wm ⟨rfl,bm⟩;have H10:=zh (H9.out.below bm);have HKm:=zh (HKp9.out.trans (Kept.of_below bm (fun z hz=>H9.out.zlt z (by simp[hz])) (Nat.le_of_lt H9.out.blk.lt)));clear bm c0 c1 CM;have H11:=zh (H10.out.alloc (.cells #[.string ⟨mn.toArray⟩,.string ⟨md.toArray⟩] 37));have bX:Below wm.heap.size wm (wm.alloc (.cells #[.string ⟨mn.toArray⟩,.string ⟨md.toArray⟩] 37)):=Below.alloc (Below.refl _ _) (Nat.le_refl _) _;have kX:=blk_new wm #[.string ⟨mn.toArray⟩,.string ⟨md.toArray⟩] 37;have HKX:=zh (HKm.out.trans (Kept.of_below bX (fun z hz=>H10.out.zlt z (by simp[hz])) (Nat.le_of_lt H10.out.blk.lt)));obtain⟨WX,hWX⟩:∃WX,wm.alloc (.cells #[.string ⟨mn.toArray⟩,.string ⟨md.toArray⟩] 37)=WX:=⟨_,rfl⟩
    rw[hWX]at H11 bX kX HKX;have HhX:=zh hWX;have HKk:=zh kX;clear bX kX H10 HKm hWX
    go_upto_region 8 with fail
    rw[HhX.out];have H12:=H11;have HK12:=HKX
    have c0:=HKk.out.c 0 _ rfl;have c1:=HKk.out.c 1 _ rfl;have CL:=zh (play_any (Nd.mk 0 ((mn,md)) [] 0 0) H12.out HTl.out);go_wp2_with fail;refine CL.out.mono ?_;rintro r wf ⟨ov2,rfl,hf1,hf2⟩;have HF1:=zh hf1;have HF2:=zh hf2
    clear hf1 hf2 CL c0 c1;go_wp2_with fail;go_ret;exact .inl ⟨k',_,wv,ov2,HPR2.out,HK9.out,rfl,HF1.out.less (fun z hz=>by simp[hz]),HK12.out.trans (HF2.out.less (fun z hz=>by simp[hz]))⟩
  | true =>
   have HS2:=zh hs2;clear hs2;go_enter Tryz.func76,Tryz.ntmps76;go_wp2_with fail;refine(ksign_any ⟨#[40]⟩ _).mono ?_;rintro r w1 ⟨rfl,rfl⟩;go_wp2_with fail;refine CT1.out.mono ?_;rintro r w3 ⟨rfl,h3,k3,hk3⟩;have h3:RdS R ((w.heap.size+1)::w.heap.size::Z) p c mv l (k+1) d K t wv ov w3:=h3;have hkU:=HKU.out.trans (k3.less (Z':=Z) (fun z hz=>by simp[hz]));have hE3:=HE.out.below hkU.b;have CT2:=zh (ptake_sign h3 hE3 hk3 45 rfl);rw[HS2.out]at CT2;have hN3:nuI w.heap.size (w.heap.size+1) ([],[]) w3:=⟨HN0.out.1.keep k3 (by simp),HN0.out.2.keep k3 (by simp)⟩;have HN3:=zh hN3;have HKU3:=zh hkU;have HSZ3:Hid (w.heap.size+1<w3.heap.size):=zh (h3.zlt _ (by simp));clear h3 k3 hkU hE3 hN3 CT1 hk3;go_wp2_with fail;refine(ksign_any ⟨#[45]⟩ _).mono ?_;rintro r w1 ⟨rfl,rfl⟩;go_wp2_with fail;refine CT2.out.mono ?_;rintro r V0 ⟨rfl,h4,k4,hk4⟩;obtain⟨k2,hk2⟩:∃k2,k2=k+1+1:=⟨_,rfl⟩;have h4:RdS R ((w.heap.size+1)::w.heap.size::Z) p c mv l k2 d K t wv ov V0:=by rw[hk2];exact h4
   have HK2:Hid (k2≤l.length):=zh (by rw[hk2];exact hk4);have H0:=zh h4;have HKp:=zh (HKU3.out.trans (k4.less (Z':=Z) (fun z hz=>by simp[hz])));have HN:Hid (nuI w.heap.size (w.heap.size+1) ([],[]) V0):=zh ⟨HN3.out.1.keep k4 (by simp),HN3.out.2.keep k4 (by simp)⟩;have HsV:Hid (w.heap.size+1<V0.heap.size):=zh (h4.zlt _ (by simp));have HS2':Hid ((sg [45] (rsK l (k+1))).isSome=true∧k2=k+1+1):=zh ⟨HS2.out,hk2⟩;clear h4 k4 hk4 CT2 HS2 hk2;go_wp2_with fail;refine(knatural_any _ _).mono ?_;rintro r u1 ⟨rfl,hw⟩;have I1:=zh (natur_is w.heap.size (w.heap.size+1) V0 (by have:=HsV.out;omega) (by omega));rw[←hw]at I1;have bb:Below V0.heap.size V0 u1:=by rw[hw];exact Below.alloc (Below.refl _ _) (Nat.le_refl _) _
   have Bu1:=zh bb;clear hw bb;go_wp2_with fail;refine(ksign_any ⟨#[44]⟩ _).mono ?_;rintro r u2 ⟨rfl,hw⟩;have I2:=zh (sign_is (nuTg w.heap.size (w.heap.size+1)) 44 u1);rw[←hw]at I2;have bb:Below u1.heap.size u1 u2:=by rw[hw];exact Below.alloc (Below.refl _ _) (Nat.le_refl _) _
   have Bu2:=zh bb;clear hw bb;go_wp2_with fail;refine(kabove_any _ _).mono ?_;rintro r u3 ⟨rfl,bb,s0,c1,c2,c3⟩;have I3:=zh (above_is w.heap.size (w.heap.size+1) (w:=u2) (w':=u3) (by have:=HsV.out;have:=Bu1.out.size;have:=Bu2.out.size;omega) (by omega) s0 c1 c2 c3);have Bu3:=zh bb;clear bb s0 c1 c2 c3;go_wp2_with fail;refine(ksign_any ⟨#[41]⟩ _).mono ?_;rintro r u4 ⟨rfl,hw⟩;have I4:=zh (sign_is (nuTg w.heap.size (w.heap.size+1)) 41 u3);rw[←hw]at I4;have bb:Below u3.heap.size u3 u4:=by rw[hw];exact Below.alloc (Below.refl _ _) (Nat.le_refl _) _
   have Bu4:=zh bb;clear hw bb;obtain⟨V,hV⟩:∃V,u4.alloc (.cells #[fvV (145,#[.pointer (some ⟨V0.heap.size,0,none⟩)]),fvV (72,#[.pointer (some ⟨u1.heap.size,0,none⟩)]),fvV (147,#[.pointer (some ⟨u2.heap.size+1+1,0,none⟩),.pointer (some ⟨u2.heap.size,0,none⟩)]),fvV (72,#[.pointer (some ⟨u3.heap.size,0,none⟩)])] 79)=V:=⟨_,rfl⟩;have hR:=rowsLit (enc:=encG) (k:=1) (fun _=>rfl) u4 [(145,#[.pointer (some ⟨V0.heap.size,0,none⟩)]),(72,#[.pointer (some ⟨u1.heap.size,0,none⟩)]),(147,#[.pointer (some ⟨u2.heap.size+1+1,0,none⟩),.pointer (some ⟨u2.heap.size,0,none⟩)]),(72,#[.pointer (some ⟨u3.heap.size,0,none⟩)])] #[fvV (145,#[.pointer (some ⟨V0.heap.size,0,none⟩)]),fvV (72,#[.pointer (some ⟨u1.heap.size,0,none⟩)]),fvV (147,#[.pointer (some ⟨u2.heap.size+1+1,0,none⟩),.pointer (some ⟨u2.heap.size,0,none⟩)]),fvV (72,#[.pointer (some ⟨u3.heap.size,0,none⟩)])] 79 rfl;rw[hV]at hR;have bb:Below u4.heap.size u4 V:=by rw[←hV];exact Below.alloc (Below.refl _ _) (Nat.le_refl _) _
   have BV:=zh bb;have BR:=zh (Below.more (Below.more (Below.more (Below.more Bu1.out Bu2.out) Bu3.out) Bu4.out) bb);obtain⟨Lf,hLf⟩:∃Lf:List Fv,Lf=[(145,#[.pointer (some ⟨V0.heap.size,0,none⟩)]),(72,#[.pointer (some ⟨u1.heap.size,0,none⟩)]),(147,#[.pointer (some ⟨u2.heap.size+1+1,0,none⟩),.pointer (some ⟨u2.heap.size,0,none⟩)]),(72,#[.pointer (some ⟨u3.heap.size,0,none⟩)])]:=⟨_,rfl⟩;rw[←hLf]at hR;have hlf:Lf.length=4:=by rw[hLf];rfl
   have J1:=zh (I1.out.stay (lo':=V0.heap.size) (Nat.le_refl _) (WrB.of_below (Below.more (Below.more (Below.more Bu2.out Bu3.out) Bu4.out) bb) []) (fun x c=>by cases c));have J2:=zh (I2.out.stay (lo':=V0.heap.size) (by have:=Bu1.out.size;omega) (WrB.of_below (Below.more (Below.more Bu3.out Bu4.out) bb) []) (fun x c=>by cases c));have J3:=zh (I3.out.stay (lo':=V0.heap.size) (by have:=Bu1.out.size;have:=Bu2.out.size;omega) (WrB.of_below (Below.more Bu4.out bb) []) (fun x c=>by cases c));have J4:=zh (I4.out.stay (lo':=V0.heap.size) (by have:=Bu1.out.size;have:=Bu2.out.size;have:=Bu3.out.size;omega) (WrB.of_below bb []) (fun x c=>by cases c));have hM:∀ (i:Nat) (M:Value) (f:Ms Nm),(Lf.map fvV)[i]?=some M→nuL[i]?=some f→IsM (nuI w.heap.size (w.heap.size+1)) [w.heap.size,w.heap.size+1] f M V0.heap.size V:=by
    intro i M f hM hf;rw[hLf]at hM
    match i,hM,hf with
    | 0,hM,hf =>
     obtain rfl:=Option.some.inj hM;obtain rfl:=Option.some.inj hf;exact J1.out
    | 1,hM,hf =>
     obtain rfl:=Option.some.inj hM;obtain rfl:=Option.some.inj hf;exact J2.out
    | 2,hM,hf =>
     obtain rfl:=Option.some.inj hM;obtain rfl:=Option.some.inj hf;exact J3.out
    | 3,hM,hf =>
     obtain rfl:=Option.some.inj hM;obtain rfl:=Option.some.inj hf;exact J4.out
    | n+4,hM,_=>exact absurd hM (by simp)
   have hRX:=H0.out.below BR.out;have hEX:=HE.out.below (HKp.out.b.trans (BR.out.mono (Nat.le_of_lt H0.out.blk.lt)));have hT2:∀T∈[w.heap.size,w.heap.size+1],T=w.heap.size∨T=w.heap.size+1:=fun T c=>by simpa using c
   have CR:=zh (prow_any nuL (Lf.map fvV) V (nuTg w.heap.size (w.heap.size+1)) (by rw[List.length_map,hlf];rfl) hM (some ⟨u4.heap.size,0,none⟩) 4 (rows_map hR) (fun a e=>by obtain rfl:=Option.some.inj e;show V0.heap.size≤u4.heap.size;have:=Bu1.out.size;have:=Bu2.out.size;have:=Bu3.out.size;have:=Bu4.out.size;omega) (fun T c=>by have:=hT2 T c;have:=HsV.out;omega) H0.out.blk.lt (by rw[List.length_map,hlf];decide) ([],[]) k2 l hEX.good (fun X hX=>hEX.gr X (hX.below (fun x c=>by
     rcases List.mem_cons.1 c with c|c
     ·omega
     ·have:=hT2 x c;have:=HRw.out;omega) (Nat.le_of_lt hRX.blk.lt))) ⟨HN.out.1.below BR.out,HN.out.2.below BR.out⟩ hEX.tk (fun a e c=>by
     have:=hEX.low a e;rcases List.mem_cons.1 c with c|c
     ·omega
     ·have:=hT2 _ c;have:=HRw.out;omega) (fun c=>by have:=hT2 _ c;have:=HRw.out;omega) hRX.blk hEX.ok HK2.out)
   rw[List.length_map,hlf]at CR;have HRX:=zh hRX;simp only[fvV]at hV;clear hR bb hM hRX hEX hLf hlf;go_wp2_with fail;refine CR.out.mono ?_;rintro r wz ⟨b,s',k',hF,rfl,hk',hI',hbk,hwz⟩;have h9:=HRX.out.cellT hbk hwz (fun x c=>by rcases hT2 x c with rfl|rfl<;>simp);have hkp:Kept R Z w wz:=by
    have q1:Kept R Z w V:=HKp.out.trans (Kept.of_below BR.out (fun z hz=>by have:=HZ.out z hz;have:=HsV.out;omega) (Nat.le_of_lt H0.out.blk.lt));exact q1.trans (Kept.wr hwz (fun x c=>by
     rcases List.mem_cons.1 c with c|c
     ·subst c;exact⟨Nat.le_refl _,fun hz=>HRX.out.rz (by simp[hz])⟩
     ·have e:=hT2 x c;exact⟨by have:=HRw.out;omega,fun hz=>by have:=HZ.out x hz;omega⟩) (fun z hz=>by have:=HZ.out z hz;have:=HsV.out;have:=BR.out.size;omega) (Nat.le_of_lt HRX.out.blk.lt))
   have hpr:numR (rsK l k) t=nuO true t (b,s',rsK l k'):=by
    rw[Pz.num_row _ t (rsK_ok (fun t ht=>(HE.out.ok.2 t ht).1) k),HS1.out.1];dsimp only;rw[minus_rs,HS2'.out.1];rw[←hF,HS2'.out.2]
    rfl
   have hsz:=fun (e:b=true)=>Pz.row_nu (s:=([],[])) (r':=rsK l k') (rsK_ok (fun t ht=>(HE.out.ok.2 t ht).1) k2) (by rw[hF,e]);have H9:=zh h9;have HKp9:=zh hkp;have HPR:=zh hpr;have HK9:=zh hk'
   have HBT:=zh hI';have HSZ:=zh hsz;have HEZ:=zh (HE.out.below hkp.b);clear h9 hkp hpr hF hbk hwz CR HRX hk' hsz hT2 hI'
   cases b with
   | false =>
    go_wp2_with fail;go_ret;exact .inr ⟨k',wv,ov,HPR.out,HK9.out,rfl,H9.out.less (fun z hz=>by simp[hz]),HKp9.out⟩
   | true =>
    obtain⟨na,nl,nb,bl,n0⟩:=HSZ.out rfl;obtain⟨m1,m2,m3,m4⟩:=Pz.mk_len na nb n0 nl bl;obtain⟨a1,a2⟩:=s';dsimp only at HBT HPR m1 m2 m3 m4 nl bl;have cm:=fun V=>qmake_any ⟨a1.toArray⟩ ⟨a2.toArray⟩ V (by show a1.toArray.size≤90000;rw[List.size_toArray];omega) (by show a2.toArray.size≤90000;rw[List.size_toArray];omega);rw[show (⟨a1.toArray⟩:ByteArray).data.toList=a1 from rfl,show (⟨a2.toArray⟩:ByteArray).data.toList=a2 from rfl]at cm;have HPR2:Hid (numR (rsK l k) t=.ok (rsK l k') (t++[Nd.mk 0 (negR (makeR a1 a2).1) [] 0 0])):=zh HPR.out;generalize makeR a1 a2=MR at *;obtain⟨⟨mn,md⟩,mb⟩:=MR;dsimp only at m1 m2 m3 m4 HPR2 cm;have CM:=zh cm;have c0:=HBT.out.1.c 0 _ rfl;have c1:=HBT.out.2.c 0 _ rfl;have HM3:=zh (And.intro m1 m2);clear cm HPR HSZ na nb n0 nl bl;go_wp2_with fail;refine(CM.out _).mono ?_;rintro r wm ⟨rfl,bm⟩;have H10:=zh (H9.out.below bm);have HKm:=zh (HKp9.out.trans (Kept.of_below bm (fun z hz=>H9.out.zlt z (by simp[hz])) (Nat.le_of_lt H9.out.blk.lt)));clear bm c0 c1 CM;have HWM:Hid (w.heap.size+1<wm.heap.size):=zh (H10.out.zlt _ (by simp));have H11:=zh (H10.out.alloc (.cells #[.string ⟨mn.toArray⟩,.string ⟨md.toArray⟩] 37));have bX:Below wm.heap.size wm (wm.alloc (.cells #[.string ⟨mn.toArray⟩,.string ⟨md.toArray⟩] 37)):=Below.alloc (Below.refl _ _) (Nat.le_refl _) _;have kX:=blk_new wm #[.string ⟨mn.toArray⟩,.string ⟨md.toArray⟩] 37;have HKX:=zh (HKm.out.trans (Kept.of_below bX (fun z hz=>H10.out.zlt z (by simp[hz])) (Nat.le_of_lt H10.out.blk.lt)));obtain⟨WX,hWX⟩:∃WX,wm.alloc (.cells #[.string ⟨mn.toArray⟩,.string ⟨md.toArray⟩] 37)=WX:=⟨_,rfl⟩
    rw[hWX]at H11 bX kX HKX;have HhX:=zh hWX;have HKk:=zh kX;clear bX kX H10 HKm hWX
    go_upto_region 8 with fail
    rw[HhX.out];have c0:=HKk.out.c 0 _ rfl;have c1:=HKk.out.c 1 _ rfl;have cn:=qneg_any ⟨mn.toArray⟩ ⟨md.toArray⟩ WX (by show mn.toArray.size≤100000;rw[List.size_toArray];have:=HM3.out.1;omega) (by show md.toArray.size≤100000;rw[List.size_toArray];have:=HM3.out.2;omega);rw[show (⟨mn.toArray⟩:ByteArray).data.toList=mn from rfl,show (⟨md.toArray⟩:ByteArray).data.toList=md from rfl]at cn;generalize negR (mn,md)=NR at *;obtain⟨nn,nd⟩:=NR;have CN:=zh cn;clear cn;go_wp2_with fail;refine CN.out.mono ?_;rintro r wn ⟨rfl,bn⟩;have kn:=HKk.out.below bn;have e0:=kn.c 0 _ rfl;have e1:=kn.c 1 _ rfl;have g0:=kn.f 0 (by simp);have g1:=kn.f 1 (by simp);have k1:=kn.set 0 (by simp) (.string ⟨nn.toArray⟩);have e2:=k1.c 1 _ rfl;have g2:=k1.f 1 (by simp);have k2':=k1.set 1 (by simp) (.string ⟨nd.toArray⟩);have hst:WrB [wm.heap.size] wn ((wn.setCell ⟨wm.heap.size,0,none⟩ (.string ⟨nn.toArray⟩)).setCell ⟨wm.heap.size,1,none⟩ (.string ⟨nd.toArray⟩)):=(WrB.of_set _ wm.heap.size 0 _ List.mem_cons_self).trans (WrB.of_set _ wm.heap.size 1 _ List.mem_cons_self);have hn:=H11.out.below bn;have H12:=zh (hn.wr hst (fun x c=>by have:=List.mem_singleton.1 c;subst this;exact List.mem_cons_self));have HK12:=zh ((HKX.out.trans (Kept.of_below bn (fun z hz=>H11.out.zlt z (by simp[hz])) (Nat.le_of_lt H11.out.blk.lt))).trans (Kept.wr hst (fun x c=>by
      have e:=List.mem_singleton.1 c;exact⟨by have:=HKX.out.b.size;have:=HRw.out;have:=HWM.out;omega,fun hz=>by have:=HZ.out x hz;have:=HWM.out;omega⟩) (fun z hz=>hn.zlt z (by simp[hz])) (Nat.le_of_lt hn.blk.lt)))
    have HKk2:=zh k2';clear kn k1 k2' hst hn bn c0 c1 CN
    go_upto_region 10 with fail
    generalize (wn.setCell ⟨wm.heap.size,0,none⟩ (.string ⟨nn.toArray⟩)).setCell ⟨wm.heap.size,1,none⟩ (.string ⟨nd.toArray⟩)=wq at H12 HK12 HKk2 ⊢;clear e0 e1 e2 g0 g1 g2;have c0:=HKk2.out.c 0 _ rfl;have c1:=HKk2.out.c 1 _ rfl;have CL:=zh (play_any (Nd.mk 0 ((nn,nd)) [] 0 0) H12.out HTl.out);go_wp2_with fail;refine CL.out.mono ?_;rintro r wf ⟨ov2,rfl,hf1,hf2⟩;have HF1:=zh hf1;have HF2:=zh hf2
    clear hf1 hf2 CL c0 c1;go_wp2_with fail;go_ret;exact .inl ⟨k',_,wv,ov2,HPR2.out,HK9.out,rfl,HF1.out.less (fun z hz=>by simp[hz]),HK12.out.trans (HF2.out.less (fun z hz=>by simp[hz]))⟩
end Go.Proofs.YtmllklfjngapiaaGreatDoor
