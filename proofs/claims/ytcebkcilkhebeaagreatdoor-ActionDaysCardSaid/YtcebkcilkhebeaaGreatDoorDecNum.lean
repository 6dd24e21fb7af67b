/- Own work. -/
import Derived.Test.YtcebkcilkhebeaaGreatDoorRatNum2
namespace Go.Proofs.YtcebkcilkhebeaaGreatDoor
def strip(p d:Nat):Nat×Nat:=if _h:1<p∧0<d∧d % p=0 then ((strip p (d / p)).1+1,(strip p (d / p)).2) else (0,d)
termination_by d
decreasing_by all_goals exact Nat.div_lt_self _h.2.1 _h.1
theorem strip_yes{p d:Nat}(h1:1<p)(h2:0<d)(h3:d % p=0):strip p d=((strip p (d / p)).1+1,(strip p (d / p)).2):=by
 rw[strip,dif_pos ⟨h1,h2,h3⟩]
theorem strip_no{p d:Nat}(h3:d % p≠0):strip p d=(0,d):=by
 rw[strip,dif_neg (fun h=>h3 h.2.2)]
theorem strip_spec{p:Nat}(h1:1<p):∀d:Nat,0<d→d=p ^ (strip p d).1*(strip p d).2∧(strip p d).2 % p≠0∧0<(strip p d).2:=by
 intro d
 induction d using Nat.strongRecOn with
 | ind d ih =>
  intro h2;by_cases h3:d % p=0
  ·rw[strip_yes h1 h2 h3];have hd:p*(d / p)=d:=by have:=Nat.div_add_mod d p;omega
   have hpos:0<d / p:=by
    rcases Nat.eq_zero_or_pos (d / p) with h|h
    ·rw[h,Nat.mul_zero]at hd;omega
    ·exact h
   obtain⟨e1,e2,e3⟩:=ih (d / p) (Nat.div_lt_self h2 h1) hpos;refine⟨?_,e2,e3⟩;show d=p ^ ((strip p (d / p)).1+1)*(strip p (d / p)).2;rw[Nat.pow_succ,Nat.mul_comm (p ^ _) p,Nat.mul_assoc,← e1,hd]
  ·rw[strip_no h3];refine⟨?_,h3,h2⟩;rw[Nat.pow_zero,Nat.one_mul]
def plc(d:Nat):Option Nat:=if (strip 5 (strip 2 d).2).2=1 then some (max (strip 2 d).1 (strip 5 (strip 2 d).2).1) else none
theorem cop2{r:Nat}(h:r % 2≠0):Nat.Coprime r 2:=by
 have h1:Nat.gcd r 2∣2:=Nat.gcd_dvd_right _ _;have h2:Nat.gcd r 2∣r:=Nat.gcd_dvd_left _ _;have h3:=Nat.le_of_dvd (by decide) h1;have h4:Nat.gcd r 2=0∨Nat.gcd r 2=1∨Nat.gcd r 2=2:=by omega
 rcases h4 with h4|h4|h4
 ·rw[h4]at h1;omega
 ·exact h4
 ·rw[h4]at h2;omega
theorem cop5{r:Nat}(h:r % 5≠0):Nat.Coprime r 5:=by
 have h1:Nat.gcd r 5∣5:=Nat.gcd_dvd_right _ _;have h2:Nat.gcd r 5∣r:=Nat.gcd_dvd_left _ _;have h3:=Nat.le_of_dvd (by decide) h1;have h4:Nat.gcd r 5=0∨Nat.gcd r 5=1∨Nat.gcd r 5=2∨Nat.gcd r 5=3∨Nat.gcd r 5=4∨Nat.gcd r 5=5:=by omega
 rcases h4 with h4|h4|h4|h4|h4|h4
 ·rw[h4]at h1;omega
 ·exact h4
 ·rw[h4]at h1;omega
 ·rw[h4]at h1;omega
 ·rw[h4]at h1;omega
 ·rw[h4]at h2;omega
theorem ten_pow(k:Nat):10 ^ k=2 ^ k*5 ^ k:=by rw[←Nat.mul_pow]
theorem plc_parts(d:Nat)(hd:0<d):∃a b r,d=2 ^ a*(5 ^ b*r)∧r % 2≠0∧r % 5≠0∧0<r∧plc d=if r=1 then some (max a b) else none:=by
 obtain⟨e1,e2,e3⟩:=strip_spec (p:=2) (by decide) d hd;obtain⟨f1,f2,f3⟩:=strip_spec (p:=5) (by decide) (strip 2 d).2 e3;refine⟨(strip 2 d).1,(strip 5 (strip 2 d).2).1,(strip 5 (strip 2 d).2).2,?_,?_,f2,f3,rfl⟩
 ·rw[←f1];exact e1
 ·intro h;apply e2;rw[f1,Nat.mul_mod,h,Nat.mul_zero]
theorem plc_dvd{d k:Nat}(hd:0<d):d∣10 ^ k↔∃n,plc d=some n∧n≤k:=by
 obtain⟨a,b,r,e,h2,h5,hr,hp⟩:=plc_parts d hd;rw[hp,ten_pow];constructor
 ·intro h;have hr1:r=1:=by
   have:r∣2 ^ k*5 ^ k:=Nat.dvd_trans ⟨2 ^ a*5 ^ b,by rw[e];rw[Nat.mul_comm r,Nat.mul_assoc]⟩ h;have c1:Nat.Coprime r (2 ^ k):=Nat.Coprime.pow_right k (cop2 h2);have c2:Nat.Coprime r (5 ^ k):=Nat.Coprime.pow_right k (cop5 h5);have:=Nat.Coprime.dvd_of_dvd_mul_left c1 this;exact Nat.Coprime.eq_one_of_dvd c2 this
  rw[if_pos hr1];refine⟨max a b,rfl,?_⟩;have ha:2 ^ a∣2 ^ k:=by
   have:2 ^ a∣2 ^ k*5 ^ k:=Nat.dvd_trans ⟨5 ^ b*r,e⟩ h;exact Nat.Coprime.dvd_of_dvd_mul_right (Nat.Coprime.pow a k (by decide)) this
  have hb:5 ^ b∣5 ^ k:=by
   have:5 ^ b∣2 ^ k*5 ^ k:=Nat.dvd_trans ⟨2 ^ a*r,by rw[e,Nat.mul_left_comm]⟩ h;exact Nat.Coprime.dvd_of_dvd_mul_left (Nat.Coprime.pow b k (by decide)) this
  have ha':=(Nat.pow_dvd_pow_iff_le_right (by decide)).1 ha;have hb':=(Nat.pow_dvd_pow_iff_le_right (by decide)).1 hb;omega
 ·rintro⟨n,h,hn⟩;by_cases hr1:r=1
  ·rw[if_pos hr1]at h
   cases h
   rw[e,hr1,Nat.mul_one];exact Nat.mul_dvd_mul (Nat.pow_dvd_pow 2 (by omega)) (Nat.pow_dvd_pow 5 (by omega))
  ·rw[if_neg hr1]at h;cases h
def digs(l:List UInt8):Bool:=!l.isEmpty&&l.all isDig
def padD(n:Nat)(l:List UInt8):List UInt8:=List.replicate (n-l.length) 48++l
def ptD(k:Nat)(s:List UInt8):List UInt8:=s.take (s.length-k)++46::s.drop (s.length-k)
def sgnD(b:Bool)(l:List UInt8):List UInt8:=if b then 45::l else l
def prD(x:Rat):List UInt8 :=
 match plc x.den with
 | none=>sgnD (decide (x.num<0)) (dig x.num.natAbs++47::dig x.den)
 | some k=>sgnD (decide (x.num<0)) (if k=0 then dig x.num.natAbs else ptD k (padD (k+1) (dig (x.num.natAbs*(10 ^ k / x.den)))))
def unD(l:List UInt8):Bool×List UInt8:=if l.head?=some 45 then (true,l.tail) else (false,l)
def sq(b:Bool)(q:Rat):Rat:=if b then -q else q
def partsD(t:List UInt8):Option (Nat×Nat) :=
 if t.idxOf 47<t.length then
  (if digs (t.take (t.idxOf 47))&&(digs (t.drop (t.idxOf 47+1))&&!(valS (t.drop (t.idxOf 47+1))==0)) then some (valS (t.take (t.idxOf 47)),valS (t.drop (t.idxOf 47+1))) else none)
 else if t.idxOf 46<t.length then
  (if digs (t.take (t.idxOf 46))&&digs (t.drop (t.idxOf 46+1)) then some (valS (t.take (t.idxOf 46)++t.drop (t.idxOf 46+1)),10 ^ (t.length-t.idxOf 46-1)) else none)
 else if digs t then some (valS t,1) else none
def parU(l:List UInt8):Option Rat:=(partsD (unD l).2).map fun p=>sq (unD l).1 (mkRat (p.1:Int) p.2)
theorem not_mem_digs{l:List UInt8}(h:l.all isDig=true){c:UInt8}(hc:isDig c=false):c∉l:=fun hm=>by
 have:=List.all_eq_true.1 h c hm;rw[hc]at this;cases this
theorem idx_at{a b:List UInt8}{c:UInt8}(h:c∉a):(a++c::b).idxOf c=a.length:=by
 induction a with
 | nil=>simp
 | cons x a ih =>
  have hx:x≠c:=fun e=>h (by rw[e];exact List.mem_cons_self);have ha:c∉a:=fun e=>h (List.mem_cons_of_mem _ e);rw[List.cons_append,List.idxOf_cons,beq_false_of_ne hx,ih ha];rfl
theorem idx_none{l:List UInt8}{c:UInt8}(h:c∉l):¬l.idxOf c<l.length:=by
 rw[List.idxOf_lt_length_iff];exact h
theorem digs_of{l:List UInt8}(h:l.all isDig=true)(h0:l≠[]):digs l=true:=by
 unfold digs;rw[h,List.isEmpty_eq_false_iff.2 h0];rfl
theorem digs_dig(n:Nat):digs (dig n)=true:=digs_of (dig_all n) (dig_ne n)
theorem head_digs{l:List UInt8}(h:l.all isDig=true):l.head?≠some 45:=by
 cases l with
 | nil=>simp
 | cons c r =>
  intro e;have e':c=45:=by simpa using e
  subst e';rw[List.all_cons,Bool.and_eq_true]at h;exact absurd h.1 (by decide)
theorem un_sgn{b:Bool}{l:List UInt8}(h:l.head?≠some 45):unD (sgnD b l)=(b,l):=by
 unfold unD sgnD
 cases b with
 | false=>rw[if_neg Bool.false_ne_true,if_neg h]
 | true=>rfl
theorem parts_frac{a b:List UInt8}(ha:digs a=true)(hb:digs b=true)(h0:valS b≠0):partsD (a++47::b)=some (valS a,valS b):=by
 have h1:a.all isDig=true:=by unfold digs at ha;rw[Bool.and_eq_true]at ha;exact ha.2
 have hi:=idx_at (b:=b) (not_mem_digs h1 (c:=47) (by decide));unfold partsD;rw[hi,if_pos (by rw[List.length_append,List.length_cons];omega),List.take_left' rfl];have hd:(a++47::b).drop (a.length+1)=b:=by
  rw[←List.drop_drop,List.drop_left' rfl];rfl
 rw[hd,ha,hb,beq_false_of_ne h0];rfl
theorem parts_whole{a:List UInt8}(ha:digs a=true):partsD a=some (valS a,1):=by
 have h1:a.all isDig=true:=by unfold digs at ha;rw[Bool.and_eq_true]at ha;exact ha.2
 unfold partsD;rw[if_neg (idx_none (not_mem_digs h1 (by decide))),if_neg (idx_none (not_mem_digs h1 (by decide))),ha];rfl
theorem parts_point{a b:List UInt8}(ha:digs a=true)(hb:digs b=true):partsD (a++46::b)=some (valS (a++b),10 ^ b.length):=by
 have h1:a.all isDig=true:=by unfold digs at ha;rw[Bool.and_eq_true]at ha;exact ha.2
 have h2:b.all isDig=true:=by unfold digs at hb;rw[Bool.and_eq_true]at hb;exact hb.2
 have hn:(47:UInt8)∉a++46::b:=by
  rw[List.mem_append,List.mem_cons];rintro(h|h|h)
  ·exact not_mem_digs h1 (by decide) h
  ·exact absurd h (by decide)
  ·exact not_mem_digs h2 (by decide) h
 have hi:=idx_at (b:=b) (not_mem_digs h1 (c:=46) (by decide));unfold partsD;rw[if_neg (idx_none hn),hi,if_pos (by rw[List.length_append,List.length_cons];omega),List.take_left' rfl];have hd:(a++46::b).drop (a.length+1)=b:=by
  rw[←List.drop_drop,List.drop_left' rfl];rfl
 rw[hd,ha,hb,List.length_append,List.length_cons];have e:a.length+(b.length+1)-a.length-1=b.length:=by omega
 rw[e];rfl
theorem sq_num(x:Rat):sq (decide (x.num<0)) (mkRat ((x.num.natAbs:Nat):Int) x.den)=x:=by
 unfold sq;by_cases h:x.num<0
 ·rw[decide_eq_true h,if_pos rfl];have e:((x.num.natAbs:Nat):Int)=-x.num:=by omega
  rw[e,Rat.neg_mkRat,Int.neg_neg,Rat.mkRat_self]
 ·rw[decide_eq_false h,if_neg Bool.false_ne_true];have e:((x.num.natAbs:Nat):Int)=x.num:=by omega
  rw[e,Rat.mkRat_self]
theorem pad_all{n:Nat}{l:List UInt8}(h:l.all isDig=true):(padD n l).all isDig=true:=by
 unfold padD;rw[List.all_append,h,Bool.and_true];rw[List.all_eq_true];intro c hc;rw[(List.mem_replicate.1 hc).2];decide
theorem valS_zeros(n:Nat):valS (List.replicate n 48)=0:=by
 induction n with
 | zero=>rfl
 | succ n ih=>rw[List.replicate_succ,valS_cons,ih,show (48:UInt8).toNat-48=0 from rfl,Nat.zero_mul]
theorem valS_pad(n:Nat)(l:List UInt8):valS (padD n l)=valS l:=by
 unfold padD;rw[valS_append,valS_zeros,Nat.zero_mul,Nat.zero_add]
theorem pad_len(n:Nat)(l:List UInt8):n≤(padD n l).length:=by
 unfold padD;rw[List.length_append,List.length_replicate];omega
theorem parts_pt{k:Nat}{s:List UInt8}(hs:s.all isDig=true)(hk:0<k)(hl:k+1≤s.length):partsD (ptD k s)=some (valS s,10 ^ k):=by
 unfold ptD;have h1:(s.take (s.length-k)).all isDig=true:=List.all_eq_true.2 fun c hc=>List.all_eq_true.1 hs c (List.mem_of_mem_take hc);have h2:(s.drop (s.length-k)).all isDig=true:=List.all_eq_true.2 fun c hc=>List.all_eq_true.1 hs c (List.mem_of_mem_drop hc);have l1:(s.take (s.length-k)).length=s.length-k:=by rw[List.length_take];omega
 have l2:(s.drop (s.length-k)).length=k:=by rw[List.length_drop];omega
 have n1:s.take (s.length-k)≠[]:=fun e=>by rw[e]at l1;have:([]:List UInt8).length=0:=rfl;omega
 have n2:s.drop (s.length-k)≠[]:=fun e=>by rw[e]at l2;have:([]:List UInt8).length=0:=rfl;omega
 rw[parts_point (digs_of h1 n1) (digs_of h2 n2),List.take_append_drop,l2]
theorem back_u(x:Rat):parU (prD x)=some x:=by
 have hd:=x.den_nz;unfold prD
 cases hp:plc x.den with
 | none =>
  show parU (sgnD _ _)=_;have hh:(dig x.num.natAbs++47::dig x.den).head?≠some 45:=by
   obtain⟨c,r,e,hc⟩:=dig_cons x.num.natAbs;rw[e];intro h;exact hc (by simpa using h)
  unfold parU;rw[un_sgn hh,parts_frac (digs_dig _) (digs_dig _) (by rw[valS_dig];exact hd),valS_dig,valS_dig];show some (sq _ _)=_;rw[sq_num]
 | some k =>
  show parU (sgnD _ _)=_;by_cases h0:k=0
  ·rw[if_pos h0];have h1:x.den=1:=by
    have:=(plc_dvd (d:=x.den) (k:=0) (by omega)).2 ⟨k,hp,by omega⟩;rw[Nat.pow_zero]at this;exact Nat.dvd_one.1 this
   unfold parU;rw[un_sgn (head_digs (dig_all _)),parts_whole (digs_dig _),valS_dig];show some (sq _ _)=_;rw[←h1,sq_num]
  ·rw[if_neg h0];have hdv:x.den∣10 ^ k:=(plc_dvd (by omega)).2 ⟨k,hp,Nat.le_refl _⟩;obtain⟨q,hq⟩:=hdv;have hdq:10 ^ k / x.den=q:=by rw[hq,Nat.mul_div_cancel_left _ (by omega)]
   have ha:=pad_all (n:=k+1) (dig_all (x.num.natAbs*(10 ^ k / x.den)));have hl:=pad_len (k+1) (dig (x.num.natAbs*(10 ^ k / x.den)));have hv:=valS_pad (k+1) (dig (x.num.natAbs*(10 ^ k / x.den)));rw[valS_dig]at hv;generalize padD (k+1) (dig (x.num.natAbs*(10 ^ k / x.den)))=s at *;have hh:(ptD k s).head?≠some 45:=by
    unfold ptD;have h1:(s.take (s.length-k)).all isDig=true:=List.all_eq_true.2 fun c hc=>List.all_eq_true.1 ha c (List.mem_of_mem_take hc);have l1:(s.take (s.length-k)).length=s.length-k:=by rw[List.length_take];omega
    cases e:s.take (s.length-k) with
    | nil=>rw[e]at l1;have:([]:List UInt8).length=0:=rfl;omega
    | cons c r =>
     rw[e]at h1;have:=head_digs h1;intro h;exact this (by simpa using h)
   unfold parU;rw[un_sgn hh,parts_pt ha (by omega) hl,hv,hdq,hq];show some (sq _ _)=_;have hq0:q≠0:=fun e=>by
    rw[e,Nat.mul_zero]at hq;have:=Nat.pow_pos (n:=k) (show 0<10 by decide);omega
   have e:mkRat ((x.num.natAbs*q:Nat):Int) (x.den*q)=mkRat ((x.num.natAbs:Nat):Int) x.den:=by
    rw[Int.natCast_mul];exact Rat.mkRat_mul_right hq0
   rw[e,sq_num]
theorem dig_ten(n:Nat):dig (10 ^ n)=49::List.replicate n 48:=by
 have hv:valS (49::List.replicate n 48)=10 ^ n:=by
  rw[valS_cons,valS_zeros,List.length_replicate,show (49:UInt8).toNat-48=1 from rfl,Nat.one_mul,Nat.add_zero]
 have hn:isNat (49::List.replicate n 48)=true:=by
  unfold isNat;rw[List.all_cons];have ha:(List.replicate n (48:UInt8)).all isDig=true:=by
   rw[List.all_eq_true];intro c hc;rw[(List.mem_replicate.1 hc).2];decide
  rw[ha];rfl
 rw[←hv];exact dig_valS hn
theorem sgn_wd(z:Int):sgnD (decide (z<0)) (dig z.natAbs)=wd z:=by
 unfold sgnD wd;by_cases h:z<0
 ·rw[decide_eq_true h,if_pos rfl,if_pos h]
 ·rw[decide_eq_false h,if_neg Bool.false_ne_true,if_neg h]
theorem prD_none{x:Rat}(h:plc x.den=none):prD x=wd x.num++47::dig x.den:=by
 unfold prD;rw[h];show sgnD _ _=_;rw[←sgn_wd];unfold sgnD
 cases decide (x.num<0)<;>rfl
theorem prD_zero{x:Rat}(h:plc x.den=some 0):prD x=wd x.num:=by
 unfold prD;rw[h];show sgnD _ (if 0=0 then _ else _)=_;rw[if_pos rfl,sgn_wd]
theorem prD_some{x:Rat}{k:Nat}(h:plc x.den=some k)(hk:k≠0):prD x=sgnD (decide (x.num<0)) (ptD k (padD (k+1) (dig (x.num.natAbs*(10 ^ k / x.den))))):=by
 unfold prD;rw[h];show sgnD _ (if k=0 then _ else _)=_;rw[if_neg hk]
theorem digs_parts{l:List UInt8}(h:digs l=true):l.all isDig=true∧l≠[]:=by
 unfold digs at h;rw[Bool.and_eq_true]at h;exact⟨h.2,fun e=>by rw[e]at h;exact absurd h.1 (by decide)⟩
theorem un_digs{l:List UInt8}(h:l.all isDig=true):unD l=(false,l):=by
 unfold unD;rw[if_neg (head_digs h)]
theorem ten_ne(k:Nat):10 ^ k≠0:=by have:=Nat.pow_pos (n:=k) (show 0<10 by decide);omega
end Go.Proofs.YtcebkcilkhebeaaGreatDoor
