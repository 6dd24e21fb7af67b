/- Own work. -/
import Derived.Test.YtcebkcilkhebeaaGreatDoorAllRefQ4M
namespace Go.Proofs.YtcebkcilkhebeaaGreatDoor
def strip(p d:Nat):Nat×Nat:=if _h:1<p∧0<d∧d % p=0 then ((strip p (d / p)).1+1,(strip p (d / p)).2) else (0,d)
termination_by d
decreasing_by all_goals exact Nat.div_lt_self _h.2.1 _h.1
theorem strip_yes{p d:Nat}(h1:1<p)(h2:0<d)(h3:d % p=0):strip p d=((strip p (d / p)).1+1,(strip p (d / p)).2):=by
 rw[strip,dif_pos ⟨h1,h2,h3⟩]
theorem strip_no{p d:Nat}(h3:d % p≠0):strip p d=(0,d):=by
 rw[strip,dif_neg (fun h=>h3 h.2.2)]
theorem strip_spec{p:Nat}(h1:1<p):∀d:Nat,0<d→d=p ^ (strip p d).1*(strip p d).2∧(strip p d).2 % p≠0∧0<(strip p d).2:=by
 intro d
 induction d using Nat.strongRecOn with
 | ind d ih =>
  intro h2;by_cases h3:d % p=0
  ·rw[strip_yes h1 h2 h3];have hd:p*(d / p)=d:=by have:=Nat.div_add_mod d p;omega
   have hpos:0<d / p:=by
    rcases Nat.eq_zero_or_pos (d / p) with h|h
    ·rw[h,Nat.mul_zero]at hd;omega
    ·exact h
   obtain⟨e1,e2,e3⟩:=ih (d / p) (Nat.div_lt_self h2 h1) hpos;refine⟨?_,e2,e3⟩;show d=p ^ ((strip p (d / p)).1+1)*(strip p (d / p)).2;rw[Nat.pow_succ,Nat.mul_comm (p ^ _) p,Nat.mul_assoc,← e1,hd]
  ·rw[strip_no h3];refine⟨?_,h3,h2⟩;rw[Nat.pow_zero,Nat.one_mul]
def plc(d:Nat):Option Nat:=if (strip 5 (strip 2 d).2).2=1 then some (max (strip 2 d).1 (strip 5 (strip 2 d).2).1) else none
theorem cop2{r:Nat}(h:r % 2≠0):Nat.Coprime r 2:=by
 have h1:Nat.gcd r 2∣2:=Nat.gcd_dvd_right _ _;have h2:Nat.gcd r 2∣r:=Nat.gcd_dvd_left _ _;have h3:=Nat.le_of_dvd (by decide) h1;have h4:Nat.gcd r 2=0∨Nat.gcd r 2=1∨Nat.gcd r 2=2:=by omega
 rcases h4 with h4|h4|h4
 ·rw[h4]at h1;omega
 ·exact h4
 ·rw[h4]at h2;omega
theorem cop5{r:Nat}(h:r % 5≠0):Nat.Coprime r 5:=by
 have h1:Nat.gcd r 5∣5:=Nat.gcd_dvd_right _ _;have h2:Nat.gcd r 5∣r:=Nat.gcd_dvd_left _ _;have h3:=Nat.le_of_dvd (by decide) h1;have h4:Nat.gcd r 5=0∨Nat.gcd r 5=1∨Nat.gcd r 5=2∨Nat.gcd r 5=3∨Nat.gcd r 5=4∨Nat.gcd r 5=5:=by omega
 rcases h4 with h4|h4|h4|h4|h4|h4
 ·rw[h4]at h1;omega
 ·exact h4
 ·rw[h4]at h1;omega
 ·rw[h4]at h1;omega
 ·rw[h4]at h1;omega
 ·rw[h4]at h2;omega
theorem ten_pow(k:Nat):10 ^ k=2 ^ k*5 ^ k:=by rw[←Nat.mul_pow]
theorem plc_parts(d:Nat)(hd:0<d):∃a b r,d=2 ^ a*(5 ^ b*r)∧r % 2≠0∧r % 5≠0∧0<r∧plc d=if r=1 then some (max a b) else none:=by
 obtain⟨e1,e2,e3⟩:=strip_spec (p:=2) (by decide) d hd;obtain⟨f1,f2,f3⟩:=strip_spec (p:=5) (by decide) (strip 2 d).2 e3;refine⟨(strip 2 d).1,(strip 5 (strip 2 d).2).1,(strip 5 (strip 2 d).2).2,?_,?_,f2,f3,rfl⟩
 ·rw[←f1];exact e1
 ·intro h;apply e2;rw[f1,Nat.mul_mod,h,Nat.mul_zero]
theorem plc_dvd{d k:Nat}(hd:0<d):d∣10 ^ k↔∃n,plc d=some n∧n≤k:=by
 obtain⟨a,b,r,e,h2,h5,hr,hp⟩:=plc_parts d hd;rw[hp,ten_pow];constructor
 ·intro h;have hr1:r=1:=by
   have:r∣2 ^ k*5 ^ k:=Nat.dvd_trans ⟨2 ^ a*5 ^ b,by rw[e];rw[Nat.mul_comm r,Nat.mul_assoc]⟩ h;have c1:Nat.Coprime r (2 ^ k):=Nat.Coprime.pow_right k (cop2 h2);have c2:Nat.Coprime r (5 ^ k):=Nat.Coprime.pow_right k (cop5 h5);have:=Nat.Coprime.dvd_of_dvd_mul_left c1 this;exact Nat.Coprime.eq_one_of_dvd c2 this
  rw[if_pos hr1];refine⟨max a b,rfl,?_⟩;have ha:2 ^ a∣2 ^ k:=by
   have:2 ^ a∣2 ^ k*5 ^ k:=Nat.dvd_trans ⟨5 ^ b*r,e⟩ h;exact Nat.Coprime.dvd_of_dvd_mul_right (Nat.Coprime.pow a k (by decide)) this
  have hb:5 ^ b∣5 ^ k:=by
   have:5 ^ b∣2 ^ k*5 ^ k:=Nat.dvd_trans ⟨2 ^ a*r,by rw[e,Nat.mul_left_comm]⟩ h;exact Nat.Coprime.dvd_of_dvd_mul_left (Nat.Coprime.pow b k (by decide)) this
  have ha':=(Nat.pow_dvd_pow_iff_le_right (by decide)).1 ha;have hb':=(Nat.pow_dvd_pow_iff_le_right (by decide)).1 hb;omega
 ·rintro⟨n,h,hn⟩;by_cases hr1:r=1
  ·rw[if_pos hr1]at h
   cases h
   rw[e,hr1,Nat.mul_one];exact Nat.mul_dvd_mul (Nat.pow_dvd_pow 2 (by omega)) (Nat.pow_dvd_pow 5 (by omega))
  ·rw[if_neg hr1]at h;cases h
def digs(l:List UInt8):Bool:=!l.isEmpty&&l.all isDig
def padD(n:Nat)(l:List UInt8):List UInt8:=List.replicate (n-l.length) 48++l
def ptD(k:Nat)(s:List UInt8):List UInt8:=s.take (s.length-k)++46::s.drop (s.length-k)
def sgnD(b:Bool)(l:List UInt8):List UInt8:=if b then 45::l else l
def prD(x:Rat):List UInt8 :=
 match plc x.den with
 | none=>sgnD (decide (x.num<0)) (dig x.num.natAbs++47::dig x.den)
 | some k=>sgnD (decide (x.num<0)) (if k=0 then dig x.num.natAbs else ptD k (padD (k+1) (dig (x.num.natAbs*(10 ^ k / x.den)))))
def unD(l:List UInt8):Bool×List UInt8:=if l.head?=some 45 then (true,l.tail) else (false,l)
def sq(b:Bool)(q:Rat):Rat:=if b then -q else q
def partsD(t:List UInt8):Option (Nat×Nat) :=
 if t.idxOf 47<t.length then
  (if digs (t.take (t.idxOf 47))&&(digs (t.drop (t.idxOf 47+1))&&!(valS (t.drop (t.idxOf 47+1))==0)) then some (valS (t.take (t.idxOf 47)),valS (t.drop (t.idxOf 47+1))) else none)
 else if t.idxOf 46<t.length then
  (if digs (t.take (t.idxOf 46))&&digs (t.drop (t.idxOf 46+1)) then some (valS (t.take (t.idxOf 46)++t.drop (t.idxOf 46+1)),10 ^ (t.length-t.idxOf 46-1)) else none)
 else if digs t then some (valS t,1) else none
def parU(l:List UInt8):Option Rat:=(partsD (unD l).2).map fun p=>sq (unD l).1 (mkRat (p.1:Int) p.2)
theorem idx_at{a b:List UInt8}{c:UInt8}(h:c∉a):(a++c::b).idxOf c=a.length:=by
 induction a with
 | nil=>simp
 | cons x a ih =>
  have hx:x≠c:=fun e=>h (by rw[e];exact List.mem_cons_self);have ha:c∉a:=fun e=>h (List.mem_cons_of_mem _ e);rw[List.cons_append,List.idxOf_cons,beq_false_of_ne hx,ih ha];rfl
theorem idx_none{l:List UInt8}{c:UInt8}(h:c∉l):¬l.idxOf c<l.length:=by
 rw[List.idxOf_lt_length_iff];exact h
theorem digs_of{l:List UInt8}(h:l.all isDig=true)(h0:l≠[]):digs l=true:=by
 unfold digs;rw[h,List.isEmpty_eq_false_iff.2 h0];rfl
theorem digs_dig(n:Nat):digs (dig n)=true:=digs_of (dig_all n) (dig_ne n)
theorem head_digs{l:List UInt8}(h:l.all isDig=true):l.head?≠some 45:=by
 cases l with
 | nil=>simp
 | cons c r =>
  intro e;have e':c=45:=by simpa using e
  subst e';rw[List.all_cons,Bool.and_eq_true]at h;exact absurd h.1 (by decide)
theorem valS_zeros(n:Nat):valS (List.replicate n 48)=0:=by
 induction n with
 | zero=>rfl
 | succ n ih=>rw[List.replicate_succ,valS_cons,ih,show (48:UInt8).toNat-48=0 from rfl,Nat.zero_mul]
def plcS(d t f:Nat):Option Nat:=if (strip 5 (strip 2 d).2).2=1 then some (max (t+(strip 2 d).1) (f+(strip 5 (strip 2 d).2).1)) else none
theorem plcS_start(d:Nat):plcS d 0 0=plc d:=by unfold plcS plc;rw[Nat.zero_add,Nat.zero_add]
theorem plcS_two{d t f:Nat}(h0:0<d)(h:d % 2=0):plcS (d / 2) (t+1) f=plcS d t f:=by
 unfold plcS;rw[strip_yes (p:=2) (d:=d) (by decide) h0 h];show (if _=1 then some (max (t+1+_) _) else none)=(if _=1 then some (max (t+(_+1)) _) else none);rw[Nat.add_assoc,Nat.add_comm 1]
theorem plcS_five{d t f:Nat}(h0:0<d)(h2:d % 2≠0)(h:d % 5=0):plcS (d / 5) t (f+1)=plcS d t f:=by
 have h3:d / 5 % 2≠0:=by omega
 unfold plcS;rw[strip_no (p:=2) (d:=d) h2,strip_no (p:=2) (d:=d / 5) h3];show (if (strip 5 (d / 5)).2=1 then some (max (t+0) (f+1+(strip 5 (d / 5)).1)) else none)=(if (strip 5 d).2=1 then some (max (t+0) (f+(strip 5 d).1)) else none);rw[strip_yes (p:=5) (d:=d) (by decide) h0 h];show _=(if (strip 5 (d / 5)).2=1 then some (max (t+0) (f+((strip 5 (d / 5)).1+1))) else none);rw[Nat.add_assoc f,Nat.add_comm 1]
theorem plcS_one(t f:Nat):plcS 1 t f=some (max t f):=by
 unfold plcS;rw[strip_no (p:=2) (d:=1) (by decide)];show (if (strip 5 1).2=1 then some (max (t+0) (f+(strip 5 1).1)) else none)=_;rw[strip_no (p:=5) (d:=1) (by decide)];rfl
theorem plcS_none{d t f:Nat}(h1:d≠1)(h2:d % 2≠0)(h5:d % 5≠0):plcS d t f=none:=by
 unfold plcS;rw[strip_no (p:=2) (d:=d) h2];show (if (strip 5 d).2=1 then _ else none)=_;rw[strip_no (p:=5) (d:=d) h5];exact if_neg h1
theorem dig_ten(n:Nat):dig (10 ^ n)=49::List.replicate n 48:=by
 have hv:valS (49::List.replicate n 48)=10 ^ n:=by
  rw[valS_cons,valS_zeros,List.length_replicate,show (49:UInt8).toNat-48=1 from rfl,Nat.one_mul,Nat.add_zero]
 have hn:isNat (49::List.replicate n 48)=true:=by
  unfold isNat;rw[List.all_cons];have ha:(List.replicate n (48:UInt8)).all isDig=true:=by
   rw[List.all_eq_true];intro c hc;rw[(List.mem_replicate.1 hc).2];decide
  rw[ha];rfl
 rw[←hv];exact dig_valS hn
theorem sgn_wd(z:Int):sgnD (decide (z<0)) (dig z.natAbs)=wd z:=by
 unfold sgnD wd;by_cases h:z<0
 ·rw[decide_eq_true h,if_pos rfl,if_pos h]
 ·rw[decide_eq_false h,if_neg Bool.false_ne_true,if_neg h]
theorem prD_none{x:Rat}(h:plc x.den=none):prD x=wd x.num++47::dig x.den:=by
 unfold prD;rw[h];show sgnD _ _=_;rw[←sgn_wd];unfold sgnD
 cases decide (x.num<0)<;>rfl
theorem prD_zero{x:Rat}(h:plc x.den=some 0):prD x=wd x.num:=by
 unfold prD;rw[h];show sgnD _ (if 0=0 then _ else _)=_;rw[if_pos rfl,sgn_wd]
theorem prD_some{x:Rat}{k:Nat}(h:plc x.den=some k)(hk:k≠0):prD x=sgnD (decide (x.num<0)) (ptD k (padD (k+1) (dig (x.num.natAbs*(10 ^ k / x.den))))):=by
 unfold prD;rw[h];show sgnD _ (if k=0 then _ else _)=_;rw[if_neg hk]
theorem mul_ten{x:Rat}{k:Nat}(h:x.den∣10 ^ k):x*(((10 ^ k:Nat):Int):Rat)=((x.num*((10 ^ k / x.den:Nat):Int):Int):Rat):=by
 obtain⟨q,hq⟩:=h;have hd:=x.den_nz;have e:10 ^ k / x.den=q:=by rw[hq,Nat.mul_div_cancel_left _ (by omega)]
 rw[e,hq,Int.natCast_mul,Rat.intCast_mul,Rat.intCast_mul];have h1:x*((x.den:Int):Rat)=(x.num:Rat):=by
  conv=>lhs;lhs;rw[←Rat.num_divInt_den x]
  rw[ofInt_eq,Rat.divInt_mul_divInt,Int.mul_one,ofInt_eq];have h2:=Rat.divInt_mul_right (n:=x.num) (d:=1) (a:=(x.den:Int)) (by omega);rw[Int.one_mul]at h2;exact h2
 rw[←Rat.mul_assoc,h1]
theorem digs_parts{l:List UInt8}(h:digs l=true):l.all isDig=true∧l≠[]:=by
 unfold digs at h;rw[Bool.and_eq_true]at h;exact⟨h.2,fun e=>by rw[e]at h;exact absurd h.1 (by decide)⟩
theorem un_digs{l:List UInt8}(h:l.all isDig=true):unD l=(false,l):=by
 unfold unD;rw[if_neg (head_digs h)]
theorem ten_ne(k:Nat):10 ^ k≠0:=by have:=Nat.pow_pos (n:=k) (show 0<10 by decide);omega
end Go.Proofs.YtcebkcilkhebeaaGreatDoor
set_option maxHeartbeats 400000
namespace Go.Proofs.YtcebkcilkhebeaaGreatDoor
open Go.RowKit
def zerS(n:Int):List UInt8:=List.replicate n.toNat 48
theorem rdzeros_any(n:Int)(w:World)(h0:-1000000≤n)(h1:n≤1000000) :
  Calls Tryz.prog 51 #[.int .i64 n] w fun e w'=>e=.returned (.string ⟨(zerS n).toArray⟩)∧w=w':=by
 go_enter Tryz.func51,Tryz.ntmps51
 go_wp2
 go_loop [3,4] (fun s i=>∃ (k:Nat) (t:ByteArray),k≤n.toNat∧i=.int .i64 k∧s=.string t∧Hid (t.data.toList=List.replicate k 48)) (fun _ i=>n.toNat-(intOf i).toNat)
 case atStart=>exact⟨0,⟨#[]⟩,Nat.zero_le _,rfl,rfl,rfl⟩
 case round =>
  obtain⟨k,t,hk,rfl,rfl,HT⟩:=hrel;have hts:t.size≤1000000:=by
   have:=congrArg List.length HT.out;rw[size_toList,List.length_replicate]at this;omega
  by_cases hlt:(k:Int)<n
  ·have hr:(t++(⟨#[48]⟩:ByteArray)).data.toList=List.replicate (k+1) 48:=by
    rw[ba_append,HT.out,List.replicate_succ']
   have HR:=zh hr;clear hr
   go_wp2
   go_round
   case rel=>exact⟨k+1,_,by omega,by go_num,rfl,HR.out⟩
   case measure=>simp[intOf];omega
  ·have hr:t=⟨(zerS n).toArray⟩:=bytes_eq (by
    rw[HT.out];show _=zerS n;unfold zerS;rw[show k=n.toNat from by omega])
   have HR:=zh hr;clear hr
   go_wp2
   go_ret;exact⟨ret_str HR.out,rfl⟩
theorem rdplain_any(s:ByteArray)(w:World)(hs:s.size≤4611686018427387904)(h0:0<s.size)(hd:s.data.toList.all isDig=true) :
  Calls Tryz.prog 52 #[.string s] w fun e w'=>e=.returned (.string ⟨(dig (valS s.data.toList)).toArray⟩)∧w=w':=by
 have HD:=zh hd;clear hd;go_enter Tryz.func52,Tryz.ntmps52
 go_wp2
 go_loop [3] (fun i=>∃k:Nat,k<s.size∧i=.int .i64 k∧Hid (∀j,j<k→gb s.data.toList j=48)) (fun i=>s.size-(intOf i).toNat)
 case atStart=>exact⟨0,h0,rfl,fun j h=>absurd h (Nat.not_lt_zero j)⟩
 case round =>
  obtain⟨k,hk,rfl,HJ⟩:=hrel;by_cases hlt:k+1<s.size
  ·by_cases hz:s[k].toNat=48
   ·have hz':(s[k].toNat:Int)=48:=by omega
    have HZ:=zh hz;clear hz
    go_wp2
    go_round
    case rel=>exact⟨k+1,hlt,by go_num,fun j h=>by
     by_cases e:j=k
     ·subst e;rw[gb_idx s hk];exact UInt8.toNat_inj.1 HZ.out
     ·exact HJ.out j (by omega)⟩
    case measure=>simp[intOf];omega
   ·have hz':¬(s[k].toNat:Int)=48:=by omega
    have hr:=str_drop (drop_zeros HD.out (i:=k) (by rw[size_toList];exact hk) HJ.out (.inr (by rw[gb_idx s hk];intro e;exact hz (by rw[e];rfl))));have HR:=zh hr;clear hr hz HJ
    go_wp2
    go_ret;exact⟨ret_str (by rw[HR.out]),rfl⟩
  ·have hr:=str_drop (drop_zeros HD.out (i:=k) (by rw[size_toList];exact hk) HJ.out (.inl (by rw[size_toList];omega)));have HR:=zh hr;clear hr HJ
   go_wp2
   go_ret;exact⟨ret_str (by rw[HR.out]),rfl⟩
theorem digs_bad{s:ByteArray}{k:Nat}(hk:k<s.size)(hb:s[k].toNat<48∨57<s[k].toNat):digs s.data.toList=false:=by
 cases h:digs s.data.toList with
 | false=>rfl
 | true =>
  have ha:=(digs_parts h).1;have:=gb_dig ha (j:=k) (by rw[size_toList];exact hk);rw[gb_idx s hk]at this;omega
theorem digs_good{s:ByteArray}(h0:0<s.size)(h:∀j (hj:j<s.size),48≤s[j].toNat∧s[j].toNat≤57):digs s.data.toList=true:=by
 refine digs_of ?_ (fun e=>?_)
 ·rw[List.all_eq_true];intro c hc;obtain⟨j,hj,e⟩:=List.getElem_of_mem hc;have hj':j<s.size:=by rw[←size_toList];exact hj
  have h2:=h j hj';have h3:gb s.data.toList j=c:=by unfold gb;rw[List.getElem?_eq_getElem hj,e];rfl
  rw[gb_idx s hj']at h3;rw[←h3];unfold isDig;rw[decide_eq_true h2.1,decide_eq_true h2.2];rfl
 ·have:=size_toList s;rw[e]at this;have h4:([]:List UInt8).length=0:=rfl;omega
theorem rddigits_any(s:ByteArray)(w:World)(hs:s.size≤4611686018427387904) :
  Calls Tryz.prog 50 #[.string s] w fun e w'=>e=.returned (.bool (digs s.data.toList))∧w=w':=by
 go_enter Tryz.func50,Tryz.ntmps50
 go_wp2
 go_loop [3] (fun i=>∃k:Nat,k≤s.size∧i=.int .i64 k∧Hid (∀j (hj:j<s.size),j<k→48≤s[j].toNat∧s[j].toNat≤57)) (fun i=>s.size-(intOf i).toNat)
 case atStart=>exact⟨0,Nat.zero_le _,rfl,fun j _ h=>absurd h (Nat.not_lt_zero j)⟩
 case round =>
  obtain⟨k,hk,rfl,HJ⟩:=hrel;by_cases hlt:k<s.size
  ·by_cases hb:s[k].toNat<48∨57<s[k].toNat
   ·have hr:=digs_bad hlt hb;have HR:=zh hr;clear hr;have hb':(s[k].toNat:Int)<48∨(¬(s[k].toNat:Int)<48∧(57:Int)<(s[k].toNat:Int)):=by omega
    clear hb;rcases hb' with hb|⟨hb,hb2⟩
    all_goals
     go_wp2
     go_ret;exact⟨ret_bool (by rw[HR.out]),rfl⟩
   ·have hb1:¬(s[k].toNat:Int)<48:=by omega
    have hb2:¬(57:Int)<(s[k].toNat:Int):=by omega
    have HB:=zh hb;clear hb
    go_wp2
    go_round
    case rel=>exact⟨k+1,by omega,by go_num,fun j hj h=>by
     by_cases e:j=k
     ·subst e;have:=HB.out;omega
     ·exact HJ.out j hj (by omega)⟩
    case measure=>simp[intOf];omega
  ·obtain rfl:k=s.size:=by omega
   rcases Nat.eq_zero_or_pos s.size with h0|h0
   ·have hr:digs s.data.toList=false:=by
     have:s.data.toList=[]:=List.length_eq_zero_iff.1 (by rw[size_toList];exact h0);rw[this];rfl
    have HR:=zh hr;clear hr HJ
    go_wp2
    go_ret;exact⟨ret_bool (by rw[HR.out]),rfl⟩
   ·have hr:=digs_good h0 (fun j hj=>HJ.out j hj hj);have HR:=zh hr;clear hr HJ
    go_wp2
    go_ret;exact⟨ret_bool (by rw[HR.out]),rfl⟩
def fndS(l:List UInt8)(c:UInt8):Int:=if l.idxOf c<l.length then (l.idxOf c:Int) else -1
theorem fnd_at{s:ByteArray}{k:Nat}{c:UInt8}(hk:k<s.size)(hc:s[k]=c)(hj:∀j (hj:j<s.size),j<k→s[j]≠c):fndS s.data.toList c=(k:Int):=by
 have hk':k<s.data.toList.length:=by rw[size_toList];exact hk
 have e:s.data.toList=s.data.toList.take k++c::s.data.toList.drop (k+1):=by
  have h1:s.data.toList[k]=c:=by
   have h2:=gb_idx s hk;unfold gb at h2;rw[List.getElem?_eq_getElem hk']at h2;exact h2.trans hc
  rw[←h1,← List.drop_eq_getElem_cons hk',List.take_append_drop]
 have hn:c∉s.data.toList.take k:=fun h=>by
  obtain⟨j,hj1,e1⟩:=List.getElem_of_mem h;have hj2:j<k:=by rw[List.length_take]at hj1;omega
  have hj3:j<s.size:=by omega
  rw[List.getElem_take]at e1;have h2:=gb_idx s hj3;unfold gb at h2;rw[List.getElem?_eq_getElem (by rw[size_toList];exact hj3)]at h2;exact hj j hj3 hj2 (h2.symm.trans e1)
 have hi:s.data.toList.idxOf c=k:=by
  rw[e,idx_at hn,List.length_take];omega
 unfold fndS;rw[hi,if_pos hk']
theorem fnd_no{s:ByteArray}{c:UInt8}(hj:∀j (hj:j<s.size),s[j]≠c):fndS s.data.toList c=-1:=by
 unfold fndS;rw[if_neg (idx_none fun h=>?_)];obtain⟨j,hj1,e1⟩:=List.getElem_of_mem h;have hj3:j<s.size:=by rw[←size_toList];exact hj1
 have h2:=gb_idx s hj3;unfold gb at h2;rw[List.getElem?_eq_getElem hj1]at h2;exact hj j hj3 (h2.symm.trans e1)
theorem ret_i{a b:Int}(h:a=b):Ending.returned (.int .i64 a)=.returned (.int .i64 b):=by rw[h]
theorem rdfind_any(s:ByteArray)(c:UInt8)(w:World)(hs:s.size≤4611686018427387904) :
  Calls Tryz.prog 49 #[.string s,.int .u8 (c.toNat:Int)] w fun e w'=>e=.returned (.int .i64 (fndS s.data.toList c))∧w=w':=by
 go_enter Tryz.func49,Tryz.ntmps49
 go_wp2
 go_loop [5] (fun i=>∃k:Nat,k≤s.size∧i=.int .i64 k∧Hid (∀j (hj:j<s.size),j<k→s[j]≠c)) (fun i=>s.size-(intOf i).toNat)
 case atStart=>exact⟨0,Nat.zero_le _,rfl,fun j _ h=>absurd h (Nat.not_lt_zero j)⟩
 case round =>
  obtain⟨k,hk,rfl,HJ⟩:=hrel;by_cases hlt:k<s.size
  ·by_cases hb:s[k]=c
   ·have hb':(s[k].toNat:Int)=(c.toNat:Int):=by rw[hb]
    have hr:=fnd_at hlt hb HJ.out;have HR:=zh hr;clear hr hb HJ
    go_wp2
    go_ret;exact⟨ret_i HR.out.symm,rfl⟩
   ·have hb':¬(s[k].toNat:Int)=(c.toNat:Int):=fun e=>hb (UInt8.toNat_inj.1 (by omega));have HB:=zh hb;clear hb
    go_wp2
    go_round
    case rel=>exact⟨k+1,by omega,by go_num,fun j hj h=>by
     by_cases e:j=k
     ·subst e;exact HB.out
     ·exact HJ.out j hj (by omega)⟩
    case measure=>simp[intOf];omega
  ·obtain rfl:k=s.size:=by omega
   have hr:=fnd_no (fun j hj=>HJ.out j hj hj);have HR:=zh hr;clear hr HJ
   go_wp2
   go_ret;exact⟨ret_i HR.out.symm,rfl⟩
end Go.Proofs.YtcebkcilkhebeaaGreatDoor
