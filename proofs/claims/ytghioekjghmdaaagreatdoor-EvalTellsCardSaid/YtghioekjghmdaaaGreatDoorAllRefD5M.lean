/- Own work. -/
import Derived.Test.YtghioekjghmdaaaGreatDoorAllRefQ2
namespace Go.Proofs.YtghioekjghmdaaaGreatDoor
open Go.RowKit
end Go.Proofs.YtghioekjghmdaaaGreatDoor
namespace Go.Proofs.YtghioekjghmdaaaGreatDoor
open Go.RowKit
def p2(a b:ByteArray×ByteArray)(j:Nat):ByteArray×ByteArray:=if j=0 then a else b
def p3(a b c:ByteArray×ByteArray)(j:Nat):ByteArray×ByteArray:=if j=0 then a else if j=1 then b else c
def strip(p d:Nat):Nat×Nat:=if _h:1<p∧0<d∧d % p=0 then ((strip p (d / p)).1+1,(strip p (d / p)).2) else (0,d)
termination_by d
decreasing_by all_goals exact Nat.div_lt_self _h.2.1 _h.1
theorem strip_yes{p d:Nat}(h1:1<p)(h2:0<d)(h3:d % p=0):strip p d=((strip p (d / p)).1+1,(strip p (d / p)).2):=by
 rw[strip,dif_pos ⟨h1,h2,h3⟩]
theorem strip_no{p d:Nat}(h3:d % p≠0):strip p d=(0,d):=by
 rw[strip,dif_neg (fun h=>h3 h.2.2)]
theorem strip_spec{p:Nat}(h1:1<p):∀d:Nat,0<d→d=p ^ (strip p d).1*(strip p d).2∧(strip p d).2 % p≠0∧0<(strip p d).2:=by
 intro d
 induction d using Nat.strongRecOn with
 | ind d ih =>
  intro h2;by_cases h3:d % p=0
  ·rw[strip_yes h1 h2 h3];have hd:p*(d / p)=d:=by have:=Nat.div_add_mod d p;omega
   have hpos:0<d / p:=by
    rcases Nat.eq_zero_or_pos (d / p) with h|h
    ·rw[h,Nat.mul_zero]at hd;omega
    ·exact h
   obtain⟨e1,e2,e3⟩:=ih (d / p) (Nat.div_lt_self h2 h1) hpos;refine⟨?_,e2,e3⟩;show d=p ^ ((strip p (d / p)).1+1)*(strip p (d / p)).2;rw[Nat.pow_succ,Nat.mul_comm (p ^ _) p,Nat.mul_assoc,← e1,hd]
  ·rw[strip_no h3];refine⟨?_,h3,h2⟩;rw[Nat.pow_zero,Nat.one_mul]
def plc(d:Nat):Option Nat:=if (strip 5 (strip 2 d).2).2=1 then some (max (strip 2 d).1 (strip 5 (strip 2 d).2).1) else none
theorem cop2{r:Nat}(h:r % 2≠0):Nat.Coprime r 2:=by
 have h1:Nat.gcd r 2∣2:=Nat.gcd_dvd_right _ _;have h2:Nat.gcd r 2∣r:=Nat.gcd_dvd_left _ _;have h3:=Nat.le_of_dvd (by decide) h1;have h4:Nat.gcd r 2=0∨Nat.gcd r 2=1∨Nat.gcd r 2=2:=by omega
 rcases h4 with h4|h4|h4
 ·rw[h4]at h1;omega
 ·exact h4
 ·rw[h4]at h2;omega
theorem cop5{r:Nat}(h:r % 5≠0):Nat.Coprime r 5:=by
 have h1:Nat.gcd r 5∣5:=Nat.gcd_dvd_right _ _;have h2:Nat.gcd r 5∣r:=Nat.gcd_dvd_left _ _;have h3:=Nat.le_of_dvd (by decide) h1;have h4:Nat.gcd r 5=0∨Nat.gcd r 5=1∨Nat.gcd r 5=2∨Nat.gcd r 5=3∨Nat.gcd r 5=4∨Nat.gcd r 5=5:=by omega
 rcases h4 with h4|h4|h4|h4|h4|h4
 ·rw[h4]at h1;omega
 ·exact h4
 ·rw[h4]at h1;omega
 ·rw[h4]at h1;omega
 ·rw[h4]at h1;omega
 ·rw[h4]at h2;omega
theorem ten_pow(k:Nat):10 ^ k=2 ^ k*5 ^ k:=by rw[←Nat.mul_pow]
theorem plc_parts(d:Nat)(hd:0<d):∃a b r,d=2 ^ a*(5 ^ b*r)∧r % 2≠0∧r % 5≠0∧0<r∧plc d=if r=1 then some (max a b) else none:=by
 obtain⟨e1,e2,e3⟩:=strip_spec (p:=2) (by decide) d hd;obtain⟨f1,f2,f3⟩:=strip_spec (p:=5) (by decide) (strip 2 d).2 e3;refine⟨(strip 2 d).1,(strip 5 (strip 2 d).2).1,(strip 5 (strip 2 d).2).2,?_,?_,f2,f3,rfl⟩
 ·rw[←f1];exact e1
 ·intro h;apply e2;rw[f1,Nat.mul_mod,h,Nat.mul_zero]
theorem plc_dvd{d k:Nat}(hd:0<d):d∣10 ^ k↔∃n,plc d=some n∧n≤k:=by
 obtain⟨a,b,r,e,h2,h5,hr,hp⟩:=plc_parts d hd;rw[hp,ten_pow];constructor
 ·intro h;have hr1:r=1:=by
   have:r∣2 ^ k*5 ^ k:=Nat.dvd_trans ⟨2 ^ a*5 ^ b,by rw[e];rw[Nat.mul_comm r,Nat.mul_assoc]⟩ h;have c1:Nat.Coprime r (2 ^ k):=Nat.Coprime.pow_right k (cop2 h2);have c2:Nat.Coprime r (5 ^ k):=Nat.Coprime.pow_right k (cop5 h5);have:=Nat.Coprime.dvd_of_dvd_mul_left c1 this;exact Nat.Coprime.eq_one_of_dvd c2 this
  rw[if_pos hr1];refine⟨max a b,rfl,?_⟩;have ha:2 ^ a∣2 ^ k:=by
   have:2 ^ a∣2 ^ k*5 ^ k:=Nat.dvd_trans ⟨5 ^ b*r,e⟩ h;exact Nat.Coprime.dvd_of_dvd_mul_right (Nat.Coprime.pow a k (by decide)) this
  have hb:5 ^ b∣5 ^ k:=by
   have:5 ^ b∣2 ^ k*5 ^ k:=Nat.dvd_trans ⟨2 ^ a*r,by rw[e,Nat.mul_left_comm]⟩ h;exact Nat.Coprime.dvd_of_dvd_mul_left (Nat.Coprime.pow b k (by decide)) this
  have ha':=(Nat.pow_dvd_pow_iff_le_right (by decide)).1 ha;have hb':=(Nat.pow_dvd_pow_iff_le_right (by decide)).1 hb;omega
 ·rintro⟨n,h,hn⟩;by_cases hr1:r=1
  ·rw[if_pos hr1]at h
   cases h
   rw[e,hr1,Nat.mul_one];exact Nat.mul_dvd_mul (Nat.pow_dvd_pow 2 (by omega)) (Nat.pow_dvd_pow 5 (by omega))
  ·rw[if_neg hr1]at h;cases h
def padD(n:Nat)(l:List UInt8):List UInt8:=List.replicate (n-l.length) 48++l
def ptD(k:Nat)(s:List UInt8):List UInt8:=s.take (s.length-k)++46::s.drop (s.length-k)
def sgnD(b:Bool)(l:List UInt8):List UInt8:=if b then 45::l else l
def prD(x:Rat):List UInt8 :=
 match plc x.den with
 | none=>sgnD (decide (x.num<0)) (dig x.num.natAbs++47::dig x.den)
 | some k=>sgnD (decide (x.num<0)) (if k=0 then dig x.num.natAbs else ptD k (padD (k+1) (dig (x.num.natAbs*(10 ^ k / x.den)))))
def unD(l:List UInt8):Bool×List UInt8:=if l.head?=some 45 then (true,l.tail) else (false,l)
theorem head_digs{l:List UInt8}(h:l.all isDig=true):l.head?≠some 45:=by
 cases l with
 | nil=>simp
 | cons c r =>
  intro e;have e':c=45:=by simpa using e
  subst e';rw[List.all_cons,Bool.and_eq_true]at h;exact absurd h.1 (by decide)
theorem valS_zeros(n:Nat):valS (List.replicate n 48)=0:=by
 induction n with
 | zero=>rfl
 | succ n ih=>rw[List.replicate_succ,valS_cons,ih,show (48:UInt8).toNat-48=0 from rfl,Nat.zero_mul]
def plcS(d t f:Nat):Option Nat:=if (strip 5 (strip 2 d).2).2=1 then some (max (t+(strip 2 d).1) (f+(strip 5 (strip 2 d).2).1)) else none
theorem plcS_start(d:Nat):plcS d 0 0=plc d:=by unfold plcS plc;rw[Nat.zero_add,Nat.zero_add]
theorem plcS_two{d t f:Nat}(h0:0<d)(h:d % 2=0):plcS (d / 2) (t+1) f=plcS d t f:=by
 unfold plcS;rw[strip_yes (p:=2) (d:=d) (by decide) h0 h];show (if _=1 then some (max (t+1+_) _) else none)=(if _=1 then some (max (t+(_+1)) _) else none);rw[Nat.add_assoc,Nat.add_comm 1]
theorem plcS_five{d t f:Nat}(h0:0<d)(h2:d % 2≠0)(h:d % 5=0):plcS (d / 5) t (f+1)=plcS d t f:=by
 have h3:d / 5 % 2≠0:=by omega
 unfold plcS;rw[strip_no (p:=2) (d:=d) h2,strip_no (p:=2) (d:=d / 5) h3];show (if (strip 5 (d / 5)).2=1 then some (max (t+0) (f+1+(strip 5 (d / 5)).1)) else none)=(if (strip 5 d).2=1 then some (max (t+0) (f+(strip 5 d).1)) else none);rw[strip_yes (p:=5) (d:=d) (by decide) h0 h];show _=(if (strip 5 (d / 5)).2=1 then some (max (t+0) (f+((strip 5 (d / 5)).1+1))) else none);rw[Nat.add_assoc f,Nat.add_comm 1]
theorem plcS_one(t f:Nat):plcS 1 t f=some (max t f):=by
 unfold plcS;rw[strip_no (p:=2) (d:=1) (by decide)];show (if (strip 5 1).2=1 then some (max (t+0) (f+(strip 5 1).1)) else none)=_;rw[strip_no (p:=5) (d:=1) (by decide)];rfl
theorem plcS_none{d t f:Nat}(h1:d≠1)(h2:d % 2≠0)(h5:d % 5≠0):plcS d t f=none:=by
 unfold plcS;rw[strip_no (p:=2) (d:=d) h2];show (if (strip 5 d).2=1 then _ else none)=_;rw[strip_no (p:=5) (d:=d) h5];exact if_neg h1
theorem dig_ten(n:Nat):dig (10 ^ n)=49::List.replicate n 48:=by
 have hv:valS (49::List.replicate n 48)=10 ^ n:=by
  rw[valS_cons,valS_zeros,List.length_replicate,show (49:UInt8).toNat-48=1 from rfl,Nat.one_mul,Nat.add_zero]
 have hn:isNat (49::List.replicate n 48)=true:=by
  unfold isNat;rw[List.all_cons];have ha:(List.replicate n (48:UInt8)).all isDig=true:=by
   rw[List.all_eq_true];intro c hc;rw[(List.mem_replicate.1 hc).2];decide
  rw[ha];rfl
 rw[←hv];exact dig_valS hn
theorem sgn_wd(z:Int):sgnD (decide (z<0)) (dig z.natAbs)=wd z:=by
 unfold sgnD wd;by_cases h:z<0
 ·rw[decide_eq_true h,if_pos rfl,if_pos h]
 ·rw[decide_eq_false h,if_neg Bool.false_ne_true,if_neg h]
theorem prD_none{x:Rat}(h:plc x.den=none):prD x=wd x.num++47::dig x.den:=by
 unfold prD;rw[h];show sgnD _ _=_;rw[←sgn_wd];unfold sgnD
 cases decide (x.num<0)<;>rfl
theorem prD_zero{x:Rat}(h:plc x.den=some 0):prD x=wd x.num:=by
 unfold prD;rw[h];show sgnD _ (if 0=0 then _ else _)=_;rw[if_pos rfl,sgn_wd]
theorem prD_some{x:Rat}{k:Nat}(h:plc x.den=some k)(hk:k≠0):prD x=sgnD (decide (x.num<0)) (ptD k (padD (k+1) (dig (x.num.natAbs*(10 ^ k / x.den))))):=by
 unfold prD;rw[h];show sgnD _ (if k=0 then _ else _)=_;rw[if_neg hk]
theorem mul_ten{x:Rat}{k:Nat}(h:x.den∣10 ^ k):x*(((10 ^ k:Nat):Int):Rat)=((x.num*((10 ^ k / x.den:Nat):Int):Int):Rat):=by
 obtain⟨q,hq⟩:=h;have hd:=x.den_nz;have e:10 ^ k / x.den=q:=by rw[hq,Nat.mul_div_cancel_left _ (by omega)]
 rw[e,hq,Int.natCast_mul,Rat.intCast_mul,Rat.intCast_mul];have h1:x*((x.den:Int):Rat)=(x.num:Rat):=by
  conv=>lhs;lhs;rw[←Rat.num_divInt_den x]
  rw[ofInt_eq,Rat.divInt_mul_divInt,Int.mul_one,ofInt_eq];have h2:=Rat.divInt_mul_right (n:=x.num) (d:=1) (a:=(x.den:Int)) (by omega);rw[Int.one_mul]at h2;exact h2
 rw[←Rat.mul_assoc,h1]
theorem un_digs{l:List UInt8}(h:l.all isDig=true):unD l=(false,l):=by
 unfold unD;rw[if_neg (head_digs h)]
end Go.Proofs.YtghioekjghmdaaaGreatDoor
set_option maxHeartbeats 400000
namespace Go.Proofs.YtghioekjghmdaaaGreatDoor
open Go.RowKit
def zerS(n:Int):List UInt8:=List.replicate n.toNat 48
theorem rdzeros_any(n:Int)(w:World)(h0:-1000000≤n)(h1:n≤1000000) :
  Calls Tryz.prog 173 #[.int .i64 n] w fun e w'=>e=.returned (.string ⟨(zerS n).toArray⟩)∧w=w':=by
 go_enter Tryz.func173,Tryz.ntmps173
 go_wp2
 go_loop [3,4] (fun s i=>∃ (k:Nat) (t:ByteArray),k≤n.toNat∧i=.int .i64 k∧s=.string t∧Hid (t.data.toList=List.replicate k 48)) (fun _ i=>n.toNat-(intOf i).toNat)
 case atStart=>exact⟨0,⟨#[]⟩,Nat.zero_le _,rfl,rfl,rfl⟩
 case round =>
  obtain⟨k,t,hk,rfl,rfl,HT⟩:=hrel;have hts:t.size≤1000000:=by
   have:=congrArg List.length HT.out;rw[size_toList,List.length_replicate]at this;omega
  by_cases hlt:(k:Int)<n
  ·have hr:(t++(⟨#[48]⟩:ByteArray)).data.toList=List.replicate (k+1) 48:=by
    rw[ba_append,HT.out,List.replicate_succ']
   have HR:=zh hr;clear hr
   go_wp2
   go_round
   case rel=>exact⟨k+1,_,by omega,by go_num,rfl,HR.out⟩
   case measure=>simp[intOf];omega
  ·have hr:t=⟨(zerS n).toArray⟩:=bytes_eq (by
    rw[HT.out];show _=zerS n;unfold zerS;rw[show k=n.toNat from by omega])
   have HR:=zh hr;clear hr
   go_wp2
   go_ret;exact⟨ret_str HR.out,rfl⟩
theorem ret_i{a b:Int}(h:a=b):Ending.returned (.int .i64 a)=.returned (.int .i64 b):=by rw[h]
end Go.Proofs.YtghioekjghmdaaaGreatDoor
set_option maxHeartbeats 2000000
set_option maxRecDepth 100000
namespace Go.Proofs.YtghioekjghmdaaaGreatDoor
open Go.RowKit
def plR:Option Nat→Int×Bool
 | some k=>((k:Int),true)
 | none=>(0,false)
def plS(p:List UInt8×List UInt8):Int×Bool:=if isR p then plR (plc (valS p.2)) else (0,false)
theorem plS_no{p:List UInt8×List UInt8}(h:isR p=false):plS p=(0,false):=by unfold plS;rw[h];rfl
theorem plS_yes{p:List UInt8×List UInt8}(h:isR p=true):plS p=plR (plc (valS p.2)):=by unfold plS;rw[h];rfl
theorem two_bound{d t D L:Nat}(h0:0<d)(h:d*2 ^ t≤D)(hD:D<10 ^ L):t<4*L:=by
 have h1:2 ^ t≤d*2 ^ t:=Nat.le_mul_of_pos_left _ h0;have h2:(10:Nat) ^ L≤16 ^ L:=Nat.pow_le_pow_left (by decide) L;have h3:(16:Nat) ^ L=2 ^ (4*L):=by rw[Nat.pow_mul]
 rw[h3]at h2;exact(Nat.pow_lt_pow_iff_right (a:=2) (by decide)).1 (by omega)
theorem half_step{d t D:Nat}(h:d*2 ^ t≤D):d / 2*2 ^ (t+1)≤D:=by
 refine Nat.le_trans ?_ h;rw[Nat.pow_succ,Nat.mul_comm (2 ^ t),← Nat.mul_assoc];exact Nat.mul_le_mul_right _ (by omega)
theorem fifth_step{d t D:Nat}(h:d*2 ^ t≤D):d / 5*2 ^ (t+1)≤D:=by
 refine Nat.le_trans ?_ h;rw[Nat.pow_succ,Nat.mul_comm (2 ^ t),← Nat.mul_assoc];exact Nat.mul_le_mul_right _ (by omega)
theorem dig_one:dig 1=[49]:=by rw[dig_small (by decide)];rfl
theorem dig_nil:dig 0=[48]:=by rw[dig_small (by decide)];rfl
theorem dig_two:(⟨#[50]⟩:ByteArray).data.toList=dig 2:=by rw[dig_small (by decide)];rfl
theorem dig_five:(⟨#[53]⟩:ByteArray).data.toList=dig 5:=by rw[dig_small (by decide)];rfl
theorem dig_ne49{n:Nat}(h:n≠1):dig n≠[49]:=fun e=>h (by
 have:=congrArg valS e;rw[valS_dig]at this;exact this)
theorem rd_div{d r k:Nat}{b:ByteArray}(hl:(dig d).length≤100000)(hb:b.data.toList=dig k)(h0:0<k)(hr:d % k=r)(hs:b.size≤10)(w:World) :
  Calls Tryz.prog 112 #[.string ⟨(dig d).toArray⟩,.string b] w (GiveSSB w (dig (d / k),dig r,true)):=by
 have c:=rdiv_any ⟨(dig d).toArray⟩ b w (by rw[size_dig];omega) (by omega);have e:divS (⟨(dig d).toArray⟩:ByteArray).data.toList b.data.toList=(dig (d / k),dig r,true):=by
  show divS (dig d) _=_;rw[hb];unfold divS;rw[isNat_dig,isNat_dig,valS_dig,valS_dig,decide_eq_true h0,hr];rfl
 rw[e]at c;exact c
theorem rdplaces_any(n d:ByteArray)(w:World)(hn:n.size≤100000)(hd:d.size≤100000) :
  Calls Tryz.prog 148 #[.agg #[.string n,.string d]] w (GiveIB w (plS (n.data.toList,d.data.toList))):=by
 have cm:=fun w=>rqmay_any n d w hn hd
 cases h:isR (n.data.toList,d.data.toList) with
 | false =>
  rw[h]at cm;rw[plS_no h];clear h hn hd;have CM:=zh cm;clear cm;go_enter Tryz.func148,Tryz.ntmps148;go_wp2_with fail;obtain⟨W,hW,BW,sW,k0,k1⟩:=box1 w (.string n) (.string d) 28;have hB:=zh (Nat.le_refl W.heap.size);rw[hW];clear hW;have b0:=Below.refl W.heap.size W;refine(CM.out _).mono ?_;rintro e w1 ⟨rfl,b⟩;have b1:=Below.more b0 b;clear b;go_wp2_with fail;refine bodyPost_ret (v:=.tuple #[.int .i64 0,.bool false]) (by simp[results,Tryz.results148,go_sem, *]) rfl ?_;exact⟨rfl,Below.more BW b1⟩
 | true =>
  rw[h]at cm;rw[plS_yes h];obtain⟨_,hN,hz,_⟩:=isR_parts h;have hN:isNat d.data.toList=true:=hN;have hz:valS d.data.toList≠0:=hz;show Calls _ _ _ _ (GiveIB w (plR (plc (valS d.data.toList))));have hl:=dig_len hN;have hsd:=str_dig hN;generalize valS d.data.toList=D at *;have HN:=zh (show 0<D∧(dig D).length≤100000 from ⟨by omega,by rw[hl];exact hd⟩);clear hl h hN hz hn hd;subst hsd;have CM:=zh cm;clear cm;go_enter Tryz.func148,Tryz.ntmps148;go_wp2_with fail;obtain⟨W,hW,BW,sW,k0,k1⟩:=box1 w (.string n) (.string ⟨(dig D).toArray⟩) 28;have hB:=zh (Nat.le_refl W.heap.size);rw[hW];clear hW;have b0:=Below.refl W.heap.size W;refine(CM.out _).mono ?_;rintro e w1 ⟨rfl,b⟩;have b1:=Below.more b0 b;clear b;go_wp2_with fail;have B1:=Below.more BW b1;clear k0 k1 sW hB b0 b1 CM BW;have hbd:∀d t f:Nat,0<d→d*2 ^ (t+f)≤D→t+f<400000:=fun d t f h0 h=>by
   have h1:=two_bound h0 h (by have:=valS_lt (dig_all D);rw[valS_dig]at this;exact this);have:=HN.out.2;omega
  have HBD:=zh hbd;clear hbd
  go_loopw [4,5,6] (fun a b c V=>∃d t f:Nat,a=.string ⟨(dig d).toArray⟩∧b=.int .i64 t∧c=.int .i64 f∧Hid (0<d∧(dig d).length≤100000∧d*2 ^ (t+f)≤D∧plcS d t f=plc D)∧Below w.heap.size w V) (fun a _ _ _=>numOf a)
  case atStart=>exact⟨D,0,0,rfl,rfl,rfl,⟨HN.out.1,HN.out.2,by omega,plcS_start D⟩,B1⟩
  case round =>
   obtain⟨d,t,f,rfl,rfl,rfl,HG,hbw⟩:=hrel;have hB:=HBD.out d t f HG.out.1 HG.out.2.2.1;by_cases h1:d=1
   ·subst h1;have hp:plR (plc D)=(max (t:Int) f,true):=by
     rw[←HG.out.2.2.2,plcS_one];show (((max t f:Nat):Int),true)=_;rw[show ((max t f:Nat):Int)=max (t:Int) f from by omega]
    by_cases hm:t<f
    ·have hx:max (t:Int) f=f:=by omega
     have hm':(t:Int)<(f:Int):=by omega
     rw[hx]at hp;have HP:=zh hp;clear hp;have e2:=dig_one
     go_wp2
     refine bodyPost_ret (v:=.tuple #[.int .i64 f,.bool true]) (by simp[results,Tryz.results148,go_sem, *]) rfl ?_;exact⟨by rw[HP.out],hbw⟩
    ·have hx:max (t:Int) f=t:=by omega
     have hm':¬(t:Int)<(f:Int):=by omega
     rw[hx]at hp;have HP:=zh hp;clear hp;have e2:=dig_one
     go_wp2
     refine bodyPost_ret (v:=.tuple #[.int .i64 t,.bool true]) (by simp[results,Tryz.results148,go_sem, *]) rfl ?_;exact⟨by rw[HP.out],hbw⟩
   ·have e2:=dig_ne49 h1;have e1:(dig d == [49])=false:=beq_false_of_ne e2;have e0:=dig_nil;have H1:=zh h1;by_cases r2:d % 2=0
    ·have c2:=fun w=>rd_div (k:=2) (b:=⟨#[50]⟩) HG.out.2.1 dig_two (by decide) r2 (by decide) w;have c5:=fun w=>rd_div (k:=5) (b:=⟨#[53]⟩) HG.out.2.1 dig_five (by decide) rfl (by decide) w;have HR2:=zh r2;clear r2;have C2:=zh c2;have C5:=zh c5
     clear c2 c5 h1;go_wp2_with fail;refine(C2.out _).mono ?_;rintro e w2 ⟨rfl,hb2⟩;go_wp2_with fail;refine(C5.out _).mono ?_;rintro e w3 ⟨rfl,hb3⟩;go_wp2_with fail;go_roundw
     case rel =>
      have g0:0<d / 2:=by have:=HG.out.1;have:=HR2.out;omega
      exact⟨d / 2,t+1,f,rfl,by go_num,rfl,⟨g0,Nat.le_trans (dig_len_le (Nat.div_le_self d 2)) HG.out.2.1,by rw[Nat.add_right_comm];exact half_step HG.out.2.2.1,by rw[plcS_two HG.out.1 HR2.out];exact HG.out.2.2.2⟩,(hbw.trans (hb2.mono hbw.size)).trans (hb3.mono (hbw.trans (hb2.mono hbw.size)).size)⟩
     case measure=>show numOf (.string ⟨(dig (d / 2)).toArray⟩)<numOf (.string ⟨(dig d).toArray⟩);rw[numOf_dig,numOf_dig];exact Nat.div_lt_self HG.out.1 (by decide)
    ·by_cases r5:d % 5=0
     ·have c2:=fun w=>rd_div (k:=2) (b:=⟨#[50]⟩) HG.out.2.1 dig_two (by decide) (show d % 2=1 by omega) (by decide) w;have c5:=fun w=>rd_div (k:=5) (b:=⟨#[53]⟩) HG.out.2.1 dig_five (by decide) r5 (by decide) w;have HR2:=zh r2;have HR5:=zh r5
      clear r2 r5;have C2:=zh c2;have C5:=zh c5
      have eo:=dig_one;clear c2 c5 h1;go_wp2_with fail;refine(C2.out _).mono ?_;rintro e w2 ⟨rfl,hb2⟩;go_wp2_with fail;refine(C5.out _).mono ?_;rintro e w3 ⟨rfl,hb3⟩;go_wp2_with fail;go_roundw
      case rel =>
       have g0:0<d / 5:=by have:=HG.out.1;have:=HR5.out;omega
       exact⟨d / 5,t,f+1,rfl,rfl,by go_num,⟨g0,Nat.le_trans (dig_len_le (Nat.div_le_self d 5)) HG.out.2.1,fifth_step HG.out.2.2.1,by rw[plcS_five HG.out.1 HR2.out HR5.out];exact HG.out.2.2.2⟩,(hbw.trans (hb2.mono hbw.size)).trans (hb3.mono (hbw.trans (hb2.mono hbw.size)).size)⟩
      case measure=>show numOf (.string ⟨(dig (d / 5)).toArray⟩)<numOf (.string ⟨(dig d).toArray⟩);rw[numOf_dig,numOf_dig];exact Nat.div_lt_self HG.out.1 (by decide)
     ·have hp:plR (plc D)=(0,false):=by rw[←HG.out.2.2.2,plcS_none h1 r2 r5];rfl
      have HP:=zh hp;clear hp;have c2:=fun w=>rd_div (k:=2) (b:=⟨#[50]⟩) HG.out.2.1 dig_two (by decide) (show d % 2=1 by omega) (by decide) w;have c5:=fun w=>rd_div (k:=5) (b:=⟨#[53]⟩) HG.out.2.1 dig_five (by decide) rfl (by decide) w;have e5:=dig_ne48 r5;have e6:=dig_neB r5;clear r2 r5;have C2:=zh c2;have C5:=zh c5
      have eo:=dig_one;clear c2 c5 h1;go_wp2_with fail;refine(C2.out _).mono ?_;rintro e w2 ⟨rfl,hb2⟩;go_wp2_with fail;refine(C5.out _).mono ?_;rintro e w3 ⟨rfl,hb3⟩;go_wp2_with fail;refine bodyPost_ret (v:=.tuple #[.int .i64 0,.bool false]) (by simp[results,Tryz.results148,go_sem, *]) rfl ?_;exact⟨by rw[HP.out],(hbw.trans (hb2.mono hbw.size)).trans (hb3.mono (hbw.trans (hb2.mono hbw.size)).size)⟩
end Go.Proofs.YtghioekjghmdaaaGreatDoor
set_option maxHeartbeats 2000000
set_option maxRecDepth 100000
namespace Go.Proofs.YtghioekjghmdaaaGreatDoor
open Go.RowKit
def prS(p:List UInt8×List UInt8):List UInt8:=if isR p then prD (valR p) else []
theorem prS_no{p:List UInt8×List UInt8}(h:isR p=false):prS p=[]:=by unfold prS;rw[h];rfl
theorem prS_yes{p:List UInt8×List UInt8}(h:isR p=true):prS p=prD (valR p):=by unfold prS;rw[h];rfl
theorem pl_den{p:List UInt8×List UInt8}(h:isR p=true):plS p=plR (plc (valR p).den):=by rw[plS_yes h,valR_den h]
theorem rdprint_no(n d:ByteArray)(w:World)(hn:n.size≤4000)(hd:d.size≤4000)(h:isR (n.data.toList,d.data.toList)=false) :
  Calls Tryz.prog 149 #[.agg #[.string n,.string d]] w (GiveS w (prS (n.data.toList,d.data.toList))):=by
 have cm:=fun w=>rqmay_any n d w (by omega) (by omega);rw[h]at cm;rw[prS_no h];clear h hn hd;have CM:=zh cm;clear cm;go_enter Tryz.func149,Tryz.ntmps149;go_wp2_with fail;obtain⟨W,hW,BW,sW,k0,k1⟩:=box1 w (.string n) (.string d) 28;have hB:=zh (Nat.le_refl W.heap.size);rw[hW];clear hW;have b0:=Below.refl W.heap.size W;refine(CM.out _).mono ?_;rintro e w1 ⟨rfl,b⟩;have b1:=Below.more b0 b;clear b;go_wp2_with fail;go_ret;exact⟨rfl,Below.more BW b1⟩
theorem rdprint_none(n d:ByteArray)(w:World)(hn:n.size≤4000)(hd:d.size≤4000)(h:isR (n.data.toList,d.data.toList)=true)(hp:plc (valR (n.data.toList,d.data.toList)).den=none) :
  Calls Tryz.prog 149 #[.agg #[.string n,.string d]] w (GiveS w (prS (n.data.toList,d.data.toList))):=by
 have cm:=fun w=>rqmay_any n d w (by omega) (by omega);have cp:=fun w=>rdplaces_any n d w (by omega) (by omega);rw[h]at cm;rw[pl_den h,hp]at cp;have hr:n++(⟨#[47]⟩:ByteArray)++d=⟨(prS (n.data.toList,d.data.toList)).toArray⟩:=bytes_eq (by
  rw[ba_append,ba_append,prS_yes h,prD_none hp,← (isR_den h).1,← (isR_den h).2,List.append_assoc]
  rfl)
 generalize prS (n.data.toList,d.data.toList)=R at *;clear h hp;have CM:=zh cm;have CP:=zh cp;have HR:=zh hr;clear cm cp hr;go_enter Tryz.func149,Tryz.ntmps149;go_wp2_with fail;obtain⟨W,hW,BW,sW,k0,k1⟩:=box1 w (.string n) (.string d) 28;have hB:=zh (Nat.le_refl W.heap.size);rw[hW];clear hW;have b0:=Below.refl W.heap.size W;refine(CM.out _).mono ?_;rintro e w1 ⟨rfl,b⟩;have b1:=Below.more b0 b;clear b;go_wp2_with fail;refine(CP.out _).mono ?_;rintro e w2 ⟨rfl,b⟩;have b2:=Below.more b1 b;clear b;go_wp2_with fail;go_ret;exact⟨ret_str HR.out,Below.more BW b2⟩
theorem rdprint_zero(n d:ByteArray)(w:World)(hn:n.size≤4000)(hd:d.size≤4000)(h:isR (n.data.toList,d.data.toList)=true)(hp:plc (valR (n.data.toList,d.data.toList)).den=some 0) :
  Calls Tryz.prog 149 #[.agg #[.string n,.string d]] w (GiveS w (prS (n.data.toList,d.data.toList))):=by
 have cm:=fun w=>rqmay_any n d w (by omega) (by omega);have cp:=fun w=>rdplaces_any n d w (by omega) (by omega);rw[h]at cm;rw[pl_den h,hp]at cp;have hr:n=⟨(prS (n.data.toList,d.data.toList)).toArray⟩:=bytes_eq (by
  rw[prS_yes h,prD_zero hp,← (isR_den h).2])
 generalize prS (n.data.toList,d.data.toList)=R at *;clear h hp;have CM:=zh cm;have CP:=zh cp;have HR:=zh hr;clear cm cp hr;go_enter Tryz.func149,Tryz.ntmps149;go_wp2_with fail;obtain⟨W,hW,BW,sW,k0,k1⟩:=box1 w (.string n) (.string d) 28;have hB:=zh (Nat.le_refl W.heap.size);rw[hW];clear hW;have b0:=Below.refl W.heap.size W;refine(CM.out _).mono ?_;rintro e w1 ⟨rfl,b⟩;have b1:=Below.more b0 b;clear b;go_wp2_with fail;refine(CP.out _).mono ?_;rintro e w2 ⟨rfl,b⟩;have b2:=Below.more b1 b;clear b;go_wp2_with fail;go_ret;exact⟨ret_str HR.out,Below.more BW b2⟩
end Go.Proofs.YtghioekjghmdaaaGreatDoor
namespace Go.Proofs.YtghioekjghmdaaaGreatDoor
open Go.RowKit
theorem plc_bound{d k L:Nat}(hd:0<d)(h:plc d=some k)(hL:d<10 ^ L):k<4*L:=by
 obtain⟨a,b,r,e,_,_,hr,hp⟩:=plc_parts d hd;rw[hp]at h;by_cases h1:r=1
 ·rw[if_pos h1]at h;have hk:max a b=k:=Option.some.inj h;have h2:0<2 ^ a:=Nat.pow_pos (by decide);have h5:0<5 ^ b:=Nat.pow_pos (by decide);have h6:(2:Nat) ^ b≤5 ^ b:=Nat.pow_le_pow_left (by decide) b;rw[h1,Nat.mul_one]at e;have ha:2 ^ a≤d:=by rw[e];exact Nat.le_mul_of_pos_right _ h5
  have hb:2 ^ b≤d:=by rw[e];exact Nat.le_trans h6 (Nat.le_mul_of_pos_left _ h2)
  have hm:1*2 ^ k≤d:=by
   rw[Nat.one_mul];rcases Nat.le_total a b with h|h
   ·rw[show k=b by omega];exact hb
   ·rw[show k=a by omega];exact ha
  exact two_bound (by decide) hm hL
 ·rw[if_neg h1]at h;cases h
theorem ten_text(k:Nat):((⟨#[49]⟩:ByteArray)++⟨(zerS (k:Int)).toArray⟩).data.toList=dig (10 ^ k):=by
 rw[ba_append,dig_ten];unfold zerS;rw[Int.toNat_natCast];rfl
theorem mul_ten_text{p:List UInt8×List UInt8}{k:Nat}(h:isR p=true)(hp:plc (valR p).den=some k) :
  mulR p (dig (10 ^ k),[49])=(wd ((valR p).num*((10 ^ k / (valR p).den:Nat):Int)),[49]):=by
 have e:(dig (10 ^ k),[49])=rd ((((10 ^ k:Nat):Int)):Rat):=by
  show _=(wd _,dig _);rw[Rat.num_intCast,Rat.den_intCast,wd_nat,dig_one]
 have hd:=(plc_dvd (k:=k) (Nat.pos_of_ne_zero (valR p).den_nz)).2 ⟨k,hp,Nat.le_refl _⟩;unfold mulR;rw[h,e,isR_rd,valR_rd,mul_ten hd];show (wd _,dig _)=_;rw[Rat.num_intCast,Rat.den_intCast,dig_one]
theorem abs_wd(z:Int):absW (wd z)=dig z.natAbs:=by unfold absW;rw[isW_wd,valW_wd];rfl
theorem sgn_lt{p:List UInt8×List UInt8}(h:isR p=true):(sgnR p<0↔(valR p).num<0):=by
 rw[←sgn_is h];unfold sgnW;rw[(isR_parts h).1,← valR_num h];show ((if _ then _ else if _ then _ else _)<(0:Int))↔_;split
 ·omega
 ·split<;>omega
end Go.Proofs.YtghioekjghmdaaaGreatDoor
set_option maxHeartbeats 4000000
set_option maxRecDepth 100000
namespace Go.Proofs.YtghioekjghmdaaaGreatDoor
open Go.RowKit
theorem pad_text(k N:Nat):((⟨(zerS (max ((k:Int)+1-((dig N).length:Int)) 0)).toArray⟩:ByteArray)++⟨(dig N).toArray⟩).data.toList=padD (k+1) (dig N):=by
 rw[ba_append];show zerS _++dig N=_;unfold zerS padD;rw[show (max ((k:Int)+1-((dig N).length:Int)) 0).toNat=k+1-(dig N).length from by omega]
theorem nat_wd_len(z:Int):(dig z.natAbs).length≤(wd z).length:=by
 unfold wd;split
 ·rw[List.length_cons];omega
 ·exact Nat.le_refl _
theorem prod_len{a q k:Nat}(hk:0<k)(hq:q≤10 ^ k):(dig (a*q)).length≤(dig a).length+k:=by
 have h1:=valS_lt (dig_all a);rw[valS_dig]at h1;refine dig_length (by omega) ?_;rw[Nat.pow_add];exact Nat.mul_lt_mul_of_lt_of_le h1 hq (Nat.pow_pos (by decide))
theorem zer_size(k:Nat):(⟨(zerS (k:Int)).toArray⟩:ByteArray).size=k:=by
 rw[size_of];unfold zerS;rw[List.length_replicate,Int.toNat_natCast]
theorem zer_size'(x:Int):(⟨(zerS x).toArray⟩:ByteArray).size=x.toNat:=by
 rw[size_of];unfold zerS;rw[List.length_replicate]
theorem pt_text{S sg:ByteArray}{b:Bool}{k M:Nat}{l:List UInt8}(hs:S.data.toList=l)(hm:S.size=M+k)(hb:sg.data.toList=sgnD b []) :
  sg++S.extract 0 M++(⟨#[46]⟩:ByteArray)++S.extract M S.size=⟨(sgnD b (ptD k l)).toArray⟩:=by
 refine bytes_eq ?_;rw[ba_append,ba_append,ba_append,Lib.extract_data,Lib.extract_data,hs,hb];have hl:l.length=M+k:=by rw[←hs];exact hm
 have h1:(l.drop M).take (S.size-M)=l.drop M:=List.take_of_length_le (by rw[List.length_drop];omega);rw[h1];show sgnD b []++(l.drop 0).take (M-0)++[46]++l.drop M=sgnD b (l.take (l.length-k)++46::l.drop (l.length-k));rw[show l.length-k=M from by omega,List.drop_zero,Nat.sub_zero,List.append_assoc,List.append_assoc]
 cases b<;>rfl
theorem rdprint_some(n d:ByteArray)(w:World)(hn:n.size≤4000)(hd:d.size≤4000)(h:isR (n.data.toList,d.data.toList)=true){k:Nat}(hk:k≠0)(hp:plc (valR (n.data.toList,d.data.toList)).den=some k) :
  Calls Tryz.prog 149 #[.agg #[.string n,.string d]] w (GiveS w (prS (n.data.toList,d.data.toList))):=by
 have cm:=fun w=>rqmay_any n d w (by omega) (by omega);have cp:=fun w=>rdplaces_any n d w (by omega) (by omega);have cs:=fun w=>rqsign_any n d w (by omega) (by omega);rw[h]at cm;rw[pl_den h,hp]at cp;have cp:∀w,Calls Tryz.prog 148 #[.agg #[.string n,.string d]] w (GiveIB w ((k:Int),true)):=cp;have hden:(dig (valR (n.data.toList,d.data.toList)).den).length≤4000:=by rw[←(isR_den h).1];exact hd
 have hnum:(wd (valR (n.data.toList,d.data.toList)).num).length≤4000:=by rw[←(isR_den h).2];exact hn
 have hkb:k<16000:=by
  have h1:=plc_bound (Nat.pos_of_ne_zero (valR (n.data.toList,d.data.toList)).den_nz) hp (by have:=valS_lt (dig_all (valR (n.data.toList,d.data.toList)).den);rw[valS_dig]at this;exact this);omega
 have hts:=ten_text k;have htz:((⟨#[49]⟩:ByteArray)++⟨(zerS (k:Int)).toArray⟩).size=k+1:=by
  rw[←size_toList,ba_append,List.length_append];show 1+(zerS (k:Int)).length=_;unfold zerS;rw[List.length_replicate,Int.toNat_natCast];omega
 have cz:∀w,Calls Tryz.prog 173 #[.int .i64 (k:Int)] w (GiveS w (zerS (k:Int))):=fun w=>calm (rdzeros_any k w (by omega) (by omega));have cy:=fun w=>rqmul_any n d ((⟨#[49]⟩:ByteArray)++⟨(zerS (k:Int)).toArray⟩) ⟨#[49]⟩ w (by omega) (by omega) (by omega) (by decide);rw[hts]at cy;have cx:∀w,Calls Tryz.prog 25 _ w (GiveR w _):=fun w=>(mul_ten_text h hp)▸cy w;clear cy;have hq:(dig ((valR (n.data.toList,d.data.toList)).num.natAbs*(10 ^ k / (valR (n.data.toList,d.data.toList)).den))).length≤20000:=by
  have h1:=prod_len (a:=(valR (n.data.toList,d.data.toList)).num.natAbs) (Nat.pos_of_ne_zero hk) (Nat.div_le_self (10 ^ k) (valR (n.data.toList,d.data.toList)).den);have h2:=nat_wd_len (valR (n.data.toList,d.data.toList)).num;omega
 have ez:((valR (n.data.toList,d.data.toList)).num*((10 ^ k / (valR (n.data.toList,d.data.toList)).den:Nat):Int)).natAbs=(valR (n.data.toList,d.data.toList)).num.natAbs*(10 ^ k / (valR (n.data.toList,d.data.toList)).den):=by
  rw[Int.natAbs_mul,Int.natAbs_natCast]
 have hr:prS (n.data.toList,d.data.toList)=sgnD (decide (sgnR (n.data.toList,d.data.toList)<0)) (ptD k (padD (k+1) (dig ((valR (n.data.toList,d.data.toList)).num.natAbs*(10 ^ k / (valR (n.data.toList,d.data.toList)).den))))):=by
  rw[prS_yes h,prD_some hp hk,decide_eq_decide.2 (sgn_lt h)]
 rw[hr];generalize hZ:(valR (n.data.toList,d.data.toList)).num*((10 ^ k / (valR (n.data.toList,d.data.toList)).den:Nat):Int)=Z at *;rw[←ez]at hq ⊢;generalize sgnR (n.data.toList,d.data.toList)=g at *;clear hr hts h hden hnum hZ ez hp;have hw:=wd_length Z;have ca:∀w,Calls Tryz.prog 78 #[.string ⟨(wd Z).toArray⟩] w (fun e w'=>e=.returned (.string ⟨(dig Z.natAbs).toArray⟩)∧Below w.heap.size w w'):=fun w=>by
  have c:=calm (rwabs_any ⟨(wd Z).toArray⟩ w (by rw[size_of];omega));have e:absW (⟨(wd Z).toArray⟩:ByteArray).data.toList=dig Z.natAbs:=abs_wd Z;rw[e]at c;exact c
 have hS:=size_dig Z.natAbs;have hP:=pad_text k Z.natAbs;rw[←hS]at hP;have cy:∀w,Calls Tryz.prog 173 #[.int .i64 (max ((k:Int)+1-((⟨(dig Z.natAbs).toArray⟩:ByteArray).size:Int)) 0)] w (GiveS w (zerS (max ((k:Int)+1-((⟨(dig Z.natAbs).toArray⟩:ByteArray).size:Int)) 0))):=fun w=>calm (rdzeros_any _ w (by omega) (by omega));have zk:=zer_size k;have hk':¬(k:Int)=0:=by omega
 have hx1:¬9223372036854775807<1+k:=by omega
 generalize (⟨(dig Z.natAbs).toArray⟩:ByteArray)=S at *;have hSs:S.size≤20000:=by rw[hS];exact hq
 have CM:=zh cm;have CP:=zh cp;have CS:=zh cs;have CZ:=zh cz;have CX:=zh cx;have CA:=zh ca;have CY:=zh cy;have HP:=zh hP;have HW:=zh hw;have HQ:=zh hq;clear cm cp cs cz cx ca cy hP hw hq hS;go_enter Tryz.func149,Tryz.ntmps149;go_wp2_with fail;obtain⟨W,hW,BW,sW,k0,k1⟩:=box1 w (.string n) (.string d) 28;have hB:=zh (Nat.le_refl W.heap.size);rw[hW];clear hW;have b0:=Below.refl W.heap.size W;refine(CM.out _).mono ?_;rintro e w1 ⟨rfl,b⟩;have b1:=Below.more b0 b;clear b;go_wp2_with fail;refine(CP.out _).mono ?_;rintro e w2 ⟨rfl,b⟩;have b2:=Below.more b1 b;clear b;go_wp2_with fail
 first|(go_region_held3 (fun w'=>Below W.heap.size W w')
     (first|(exact b2.drew)|(with_reducible assumption)|(exact Below.alloc (by with_reducible assumption) (Nat.le_trans hB.out (Below.size (by with_reducible assumption))) _)|(exact put2 (by with_reducible assumption) (Nat.le_refl _) _ _)|(exact put2 (by with_reducible assumption) hB.out _ _)|(exact put2 (by with_reducible assumption) (Nat.le_trans hB.out (Below.size (by with_reducible assumption))) _ _))
     (first|(go_at_call 173;(with_reducible refine(held (W:=W) hB.out (CZ.out _) (by assumption)).mono ?_);rintro e w'' ⟨rfl,hb,hw⟩;(first|(have hz:=zc_made0 hb)|(have hz:=zc_made hb)|skip);(try have hz:=Zc.below (by assumption) hb);(try (have z0:=hz.c0;have z1:=hz.c1;have z2:=hz.f0;have z3:=hz.f1)))|(go_at_call 25;(with_reducible refine(held (W:=W) hB.out (CX.out _) (by assumption)).mono ?_);rintro e w'' ⟨rfl,hb,hw⟩;(first|(have hz:=zc_made0 hb)|(have hz:=zc_made hb)|skip);(try have hz:=Zc.below (by assumption) hb);(try (have z0:=hz.c0;have z1:=hz.c1;have z2:=hz.f0;have z3:=hz.f1)))))|fail
 all_goals (go_wp2_with fail)
 all_goals (refine(CA.out _).mono ?_;rintro e w9 ⟨rfl,b9⟩)
 all_goals (have b3:=Below.more (by with_reducible assumption) b9;clear b9)
 all_goals
  go_wp2_with fail;refine(CY.out _).mono ?_;rintro e w10 ⟨rfl,b10⟩;have b4:=Below.more b3 b10;clear b10;have hx2:¬9223372036854775807<(⟨(zerS (max ((k:Int)+1-(S.size:Int)) 0)).toArray⟩:ByteArray).size+S.size:=by rw[zer_size'];omega
  go_wp2_with fail;refine(CS.out _).mono ?_;rintro e w11 ⟨rfl,b11⟩;have b5:=Below.more b4 b11;clear b11;clear hx2;have hM:∃M,((⟨(zerS (max ((k:Int)+1-(S.size:Int)) 0)).toArray⟩:ByteArray)++S).size=M+k∧M≤40000:=by
   have h1:=congrArg List.length HP.out;rw[size_toList]at h1;have h2:(padD (k+1) (dig Z.natAbs)).length=k+1-(dig Z.natAbs).length+(dig Z.natAbs).length:=by
    unfold padD;rw[List.length_append,List.length_replicate]
   have h3:=HQ.out;exact⟨k+1-(dig Z.natAbs).length+(dig Z.natAbs).length-k,by omega,by omega⟩
  obtain⟨M,hm,hM⟩:=hM;clear b0 b1 b2 b3 b4;generalize (⟨(zerS (max ((k:Int)+1-(S.size:Int)) 0)).toArray⟩:ByteArray)++S=T at *;have hr:=fun sg hb=>pt_text (S:=T) (sg:=sg) (b:=decide (g<0)) HP.out hm hb;have HR:=zh hr;clear hr;by_cases hg:g<0
  ·go_wp2_with fail
   go_quiet (fail)
   go_wp2_with fail;go_ret;exact⟨ret_str (by have:=HR.out ⟨#[45]⟩ (by rw[decide_eq_true hg];rfl);rw[hm]at this;exact this),Below.drewN (Below.more BW (by with_reducible assumption)) _⟩
  ·go_wp2_with fail
   go_quiet (fail)
   go_wp2_with fail;go_ret;exact⟨ret_str (by have:=HR.out ⟨#[]⟩ (by rw[decide_eq_false (by omega)];rfl);rw[hm]at this;first|exact this|simpa using this),Below.drewN (Below.more BW (by with_reducible assumption)) _⟩
theorem rdprint_any(n d:ByteArray)(w:World)(hn:n.size≤4000)(hd:d.size≤4000) :
  Calls Tryz.prog 149 #[.agg #[.string n,.string d]] w (GiveS w (prS (n.data.toList,d.data.toList))):=by
 cases h:isR (n.data.toList,d.data.toList) with
 | false=>exact rdprint_no n d w hn hd h
 | true=>cases hp:plc (valR (n.data.toList,d.data.toList)).den with
  | none=>exact rdprint_none n d w hn hd h hp
  | some k =>
        by_cases hk:k=0
        ·rw[hk]at hp;exact rdprint_zero n d w hn hd h hp
        ·exact rdprint_some n d w hn hd h hk hp
end Go.Proofs.YtghioekjghmdaaaGreatDoor
