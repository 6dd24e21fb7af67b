/- Own work. -/
import Derived.Test.YtmllklfjngapiaaGreatDoorAllRefD3M
namespace Go.Proofs.YtmllklfjngapiaaGreatDoor
theorem strip_pow{p:Nat}(h1:1<p){m:Nat}(hm:0<m)(h:m % p≠0):∀A,strip p (p ^ A*m)=(A,m)
 | 0=>by rw[Nat.pow_zero,Nat.one_mul,strip_no h]
 | A+1=>by
  have hp:0<p:=by omega
  have e:p ^ (A+1)*m=p*(p ^ A*m):=by rw[Nat.pow_succ,Nat.mul_comm (p ^ A) p,Nat.mul_assoc]
  have hpos:0<p ^ A*m:=Nat.mul_pos (Nat.pow_pos hp) hm;rw[e,strip_yes h1 (Nat.mul_pos hp hpos) (Nat.mul_mod_right _ _),Nat.mul_div_cancel_left _ hp,strip_pow h1 hm h A]
theorem plc_is{A B r:Nat}(hr:0<r)(h2:r % 2≠0)(h5:r % 5≠0):plc (2 ^ A*(5 ^ B*r))=if r=1 then some (max A B) else none:=by
 have h3:(5 ^ B*r) % 2≠0:=by
  rw[Nat.mul_mod,Nat.pow_mod];show (1 ^ B % 2)*(r % 2) % 2≠0;rw[Nat.one_pow];omega
 have hp:0<5 ^ B*r:=Nat.mul_pos (Nat.pow_pos (by decide)) hr;unfold plc;rw[strip_pow (by decide) hp h3];show (if (strip 5 (5 ^ B*r)).2=1 then _ else _)=_;rw[strip_pow (by decide) hr h5]
def onS(b e d:Nat):Nat×Nat:=((strip b d).2,e*(strip b d).1)
theorem on_no{b e d:Nat}(h:d % b≠0):onS b e d=(d,0):=by unfold onS;rw[strip_no h];rfl
theorem on_yes{b e d:Nat}(h1:1<b)(h2:0<d)(h:d % b=0):onS b e d=((onS b e (d / b)).1,e+(onS b e (d / b)).2):=by
 unfold onS;rw[strip_yes h1 h2 h];exact Prod.ext rfl (by show e*((strip b (d / b)).1+1)=e+e*(strip b (d / b)).1;rw[Nat.mul_succ,Nat.add_comm])
theorem on_spec{b e d:Nat}(h1:1<b)(h2:0<d):d=b ^ (strip b d).1*(onS b e d).1∧(onS b e d).1 % b≠0∧0<(onS b e d).1:=strip_spec h1 d h2
theorem mod_of_mul{a b c p:Nat}(h:a=b*c)(hp:a % p≠0):c % p≠0:=fun e=>hp (by rw[h,Nat.mul_mod,e,Nat.mul_zero,Nat.zero_mod])
def leftS(d:Nat):Nat:=(onS 5 1 (onS 244140625 12 (onS 2 1 (onS 536870912 29 (onS 10 1 d).1).1).1).1).1
def cntS(d:Nat):Nat:=(onS 10 1 d).2+(onS 536870912 29 (onS 10 1 d).1).2+(onS 2 1 (onS 536870912 29 (onS 10 1 d).1).1).2+(onS 244140625 12 (onS 2 1 (onS 536870912 29 (onS 10 1 d).1).1).1).2+(onS 5 1 (onS 244140625 12 (onS 2 1 (onS 536870912 29 (onS 10 1 d).1).1).1).1).2
theorem walk_is{d:Nat}(hd:0<d):plc d=if leftS d=1 then some (cntS d) else none:=by
 obtain⟨z1,z2,z3⟩:=on_spec (e:=1) (show 1<10 by decide) hd;have c1:(onS 10 1 d).2=(strip 10 d).1:=Nat.one_mul _;obtain⟨a1,a2,a3⟩:=on_spec (e:=29) (show 1<536870912 by decide) z3;have c2:(onS 536870912 29 (onS 10 1 d).1).2=29*(strip 536870912 (onS 10 1 d).1).1:=rfl;obtain⟨b1,b2,b3⟩:=on_spec (e:=1) (show 1<2 by decide) a3;have c3:(onS 2 1 (onS 536870912 29 (onS 10 1 d).1).1).2=(strip 2 (onS 536870912 29 (onS 10 1 d).1).1).1:=Nat.one_mul _;obtain⟨e1,e2,e3⟩:=on_spec (e:=12) (show 1<244140625 by decide) b3;have c4:(onS 244140625 12 (onS 2 1 (onS 536870912 29 (onS 10 1 d).1).1).1).2=12*(strip 244140625 (onS 2 1 (onS 536870912 29 (onS 10 1 d).1).1).1).1:=rfl;obtain⟨f1,f2,f3⟩:=on_spec (e:=1) (show 1<5 by decide) e3;have c5:(onS 5 1 (onS 244140625 12 (onS 2 1 (onS 536870912 29 (onS 10 1 d).1).1).1).1).2=(strip 5 (onS 244140625 12 (onS 2 1 (onS 536870912 29 (onS 10 1 d).1).1).1).1).1:=Nat.one_mul _;unfold leftS cntS;rw[c1,c2,c3,c4,c5];generalize (onS 5 1 (onS 244140625 12 (onS 2 1 (onS 536870912 29 (onS 10 1 d).1).1).1).1).1=r at *;generalize (strip 5 (onS 244140625 12 (onS 2 1 (onS 536870912 29 (onS 10 1 d).1).1).1).1).1=n5 at *;generalize (onS 244140625 12 (onS 2 1 (onS 536870912 29 (onS 10 1 d).1).1).1).1=m4 at *;generalize (strip 244140625 (onS 2 1 (onS 536870912 29 (onS 10 1 d).1).1).1).1=n4 at *;generalize (onS 2 1 (onS 536870912 29 (onS 10 1 d).1).1).1=m3 at *;generalize (strip 2 (onS 536870912 29 (onS 10 1 d).1).1).1=n3 at *;generalize (onS 536870912 29 (onS 10 1 d).1).1=m2 at *
 generalize (strip 536870912 (onS 10 1 d).1).1=n2 at *;generalize (onS 10 1 d).1=m1 at *;generalize (strip 10 d).1=n1 at *;clear c1 c2 c3 c4 c5;have hr2:r % 2≠0:=mod_of_mul f1 (mod_of_mul e1 b2);have g1:m3=5 ^ (12*n4+n5)*r:=by
  rw[e1,f1,← Nat.mul_assoc,Nat.pow_add,Nat.pow_mul]
 have g2:m1=2 ^ (29*n2+n3)*m3:=by
  rw[a1,b1,← Nat.mul_assoc,Nat.pow_add,Nat.pow_mul]
 obtain⟨B,hB⟩:∃B,12*n4+n5=B:=⟨_,rfl⟩;rw[hB]at g1;have hor:29*n2+n3=0∨B=0:=by
  rcases Nat.eq_zero_or_pos (29*n2+n3) with h|h
  ·exact .inl h
  rcases Nat.eq_zero_or_pos B with k|k
  ·exact .inr k
  exfalso;apply z2;obtain⟨A,hA⟩:∃A,29*n2+n3=A+1:=⟨29*n2+n3-1,by omega⟩;obtain⟨C,hC⟩:∃C,B=C+1:=⟨B-1,by omega⟩;rw[g2,g1,hA,hC,Nat.pow_succ,Nat.pow_succ];have e:2 ^ A*2*(5 ^ C*5*r)=10*(2 ^ A*(5 ^ C*r)):=by
   rw[Nat.mul_comm (2 ^ A) 2,Nat.mul_comm (5 ^ C) 5,Nat.mul_assoc 5,Nat.mul_assoc 2,Nat.mul_left_comm (2 ^ A) 5,← Nat.mul_assoc 2 5]
  rw[e,Nat.mul_mod_right]
 have g3:d=2 ^ (n1+(29*n2+n3))*(5 ^ (n1+B)*r):=by
  rw[z1,ten_pow,g2,g1,Nat.pow_add 2 n1,Nat.pow_add 5 n1];rw[Nat.mul_assoc (2 ^ n1) (5 ^ n1),Nat.mul_assoc (2 ^ n1) (2 ^ (29*n2+n3)),Nat.mul_left_comm (5 ^ n1),Nat.mul_assoc (5 ^ n1)]
 rw[g3,plc_is f3 hr2 f2];by_cases h:r=1
 ·rw[if_pos h,if_pos h]
  congr 1
  rcases hor with k|k<;>omega
 ·rw[if_neg h,if_neg h]
theorem dig_tens{n:Nat}(h:0<n)(k:Nat):dig (n*10 ^ k)=dig n++List.replicate k 48:=by
 induction k with
 | zero=>rw[Nat.pow_zero,Nat.mul_one,List.replicate_zero,List.append_nil]
 | succ k ih =>
  have hp:0<n*10 ^ k:=Nat.mul_pos h (Nat.pow_pos (by decide));have e:n*10 ^ (k+1)=10*(n*10 ^ k):=by rw[Nat.pow_succ,Nat.mul_comm (10 ^ k),Nat.mul_left_comm]
  rw[e,dig_big (by omega),Nat.mul_div_cancel_left _ (by decide),ih,List.replicate_succ',← List.append_assoc]
  congr 2
  unfold digN;rw[Nat.mul_mod_right]
  rfl
theorem dig_last{n:Nat}(h:n % 10≠0):∃l c,dig n=l++[c]∧c≠48:=by
 have hc:digN n≠48:=fun e=>by
  have:=congrArg UInt8.toNat e;rw[digN_toNat]at this;have h2:(48:UInt8).toNat=48:=rfl;omega
 by_cases h1:n<10
 ·exact⟨[],digN n,by rw[dig_small h1];rfl,hc⟩
 ·exact⟨dig (n / 10),digN n,dig_big h1,hc⟩
theorem drop_zeros_rep(k:Nat)(l:List UInt8){c:UInt8}(hc:c≠48):(List.replicate k 48++c::l).dropWhile (·==48)=c::l:=by
 induction k with
 | zero =>
  rw[List.replicate_zero,List.nil_append];exact List.dropWhile_cons_of_neg (by simpa using hc)
 | succ k ih =>
  rw[List.replicate_succ,List.cons_append,List.dropWhile_cons_of_pos (by simp),ih]
theorem trim_tens{d:Nat}(hd:0<d):((dig d).reverse.dropWhile (·==48)).reverse=dig (onS 10 1 d).1∧(dig d).length=(dig (onS 10 1 d).1).length+(onS 10 1 d).2:=by
 obtain⟨z1,z2,z3⟩:=on_spec (e:=1) (show 1<10 by decide) hd;have c1:(onS 10 1 d).2=(strip 10 d).1:=Nat.one_mul _;rw[c1];have e:dig d=dig (onS 10 1 d).1++List.replicate (strip 10 d).1 48:=by
  conv=>lhs;rw[z1]
  rw[Nat.mul_comm,dig_tens z3]
 refine⟨?_,by rw[e,List.length_append,List.length_replicate]⟩;rw[e];obtain⟨l,c,h1,h2⟩:=dig_last z2;rw[h1,List.reverse_append,List.reverse_append,List.reverse_replicate];show ((List.replicate (strip 10 d).1 48++c::l.reverse).dropWhile _).reverse=_;rw[drop_zeros_rep _ _ h2,List.reverse_cons,List.reverse_reverse]
theorem on_le{b e d:Nat}(h1:1<b)(h2:0<d):(onS b e d).1≤d:=by
 have h:=(on_spec (e:=e) h1 h2).1
 conv=>rhs;rw[h]
 exact Nat.le_mul_of_pos_left _ (Nat.pow_pos (by omega))
theorem den_divides{x:Rat}{k:Nat}(h:plc x.den=some k):x.den∣10 ^ k:=(plc_dvd (Nat.pos_of_ne_zero x.den_nz)).2 ⟨k,h,Nat.le_refl _⟩
theorem tens_div{x:Rat}{k:Nat}(h:plc x.den=some k):x.num.natAbs*10 ^ k / x.den=x.num.natAbs*(10 ^ k / x.den):=Nat.mul_div_assoc _ (den_divides h)
theorem num_zero_den{x:Rat}(h:x.num=0):x.den=1:=by rw[Rat.num_eq_zero.1 h];rfl
theorem num_tens{x:Rat}{k:Nat}(h:plc x.den=some k):dig x.num.natAbs++List.replicate k 48=dig (x.num.natAbs*10 ^ k):=by
 by_cases h0:x.num=0
 ·have hk:k=0:=by
   rw[num_zero_den h0]at h;have:=(plc_dvd (d:=1) (k:=0) (by decide)).1 (Nat.dvd_refl _);obtain⟨m,hm,hm0⟩:=this;rw[hm]at h;have:=Option.some.inj h;omega
  subst hk;rw[List.replicate_zero,List.append_nil,Nat.pow_zero,Nat.mul_one]
 ·rw[dig_tens (by omega)]
def bodyD(k:Nat)(s:List UInt8):List UInt8:=if k=0 then s else ptD k (padD (k+1) s)
theorem prD_body{x:Rat}{k:Nat}(h:plc x.den=some k):prD x=sgnD (decide (x.num<0)) (bodyD k (dig (x.num.natAbs*(10 ^ k / x.den)))):=by
 by_cases hk:k=0
 ·subst hk;have h1:x.den=1:=Nat.dvd_one.1 (by have:=den_divides h;rwa[Nat.pow_zero]at this);unfold bodyD;rw[prD_zero h,if_pos rfl,h1,Nat.pow_zero,Nat.div_one,Nat.mul_one,sgn_wd]
 ·unfold bodyD;rw[prD_some h hk,if_neg hk]
def natD(l:List UInt8):List UInt8:=if digs l then dig (valS l) else []
theorem natD_yes{l:List UInt8}(h:digs l=true):natD l=dig (valS l):=by unfold natD;rw[h];rfl
theorem natD_no{l:List UInt8}(h:digs l=false):natD l=[]:=by unfold natD;rw[h];rfl
def partsT(t:List UInt8):List UInt8×List UInt8 :=
 if t.idxOf 47<t.length then (natD (t.take (t.idxOf 47)),natD (t.drop (t.idxOf 47+1)))
 else if t.idxOf 46<t.length then
  (if digs (t.take (t.idxOf 46))&&digs (t.drop (t.idxOf 46+1)) then (dig (valS (t.take (t.idxOf 46)++t.drop (t.idxOf 46+1))),dig (10 ^ (t.length-t.idxOf 46-1))) else ([],[]))
 else (natD t,[49])
def parS(l:List UInt8):(List UInt8×List UInt8)×Int :=
 if 1000<l.length then (([],[]),40) else match parU l with
  | some q=>(rd q,0)
  | none=>(([],[]),40)
def ngD(b:Bool)(n:List UInt8):List UInt8:=if b then negW n else n
theorem ngD_dig(b:Bool)(n:Nat):ngD b (dig n)=wd (if b then -(n:Int) else (n:Int)):=by
 unfold ngD
 cases b with
 | false=>exact(wd_nat n).symm
 | true =>
  show negW (dig n)=wd (-(n:Int));unfold negW;rw[isW_dig,valW_dig];rfl
theorem sq_mk(b:Bool)(n d:Nat):sq b (mkRat (n:Int) d)=mkRat (if b then -(n:Int) else (n:Int)) d:=by
 cases b with
 | false=>rfl
 | true=>show -mkRat _ _=mkRat (-(n:Int)) d;rw[Rat.neg_mkRat]
theorem make_dd(b:Bool)(n:Nat){d:Nat}(hd:d≠0):makeR (ngD b (dig n)) (dig d)=(rd (sq b (mkRat (n:Int) d)),true):=by
 rw[ngD_dig,← wd_nat d,makeR_ww (by omega),Rat.divInt_ofNat,sq_mk]
theorem make_no1(b:Bool)(d:List UInt8):makeR (ngD b []) d=(([],[]),false):=by
 cases b with
 | false=>exact makeR_nil d
 | true=>exact makeR_nil d
theorem make_no2(n:List UInt8):makeR n []=(([],[]),false):=makeR_no (by show ((isW n&&false)&&_)=false;rw[Bool.and_false];rfl)
theorem make_no0(n:List UInt8):makeR n (dig 0)=(([],[]),false):=makeR_no (by rw[valW_dig];exact Bool.and_false _)
theorem parts_same(b:Bool)(t:List UInt8):makeR (ngD b (partsT t).1) (partsT t).2=match partsD t with
  | some p=>(rd (sq b (mkRat (p.1:Int) p.2)),true)
  | none=>(([],[]),false):=by
 unfold partsT partsD;by_cases h1:t.idxOf 47<t.length
 ·rw[if_pos h1,if_pos h1];show makeR (ngD b (natD _)) (natD _)=_
  cases ha:digs (t.take (t.idxOf 47)) with
  | false=>rw[natD_no ha,make_no1];rfl
  | true=>cases hb:digs (t.drop (t.idxOf 47+1)) with
   | false=>rw[natD_no hb,make_no2];rfl
   | true =>
    rw[natD_yes ha,natD_yes hb];by_cases h0:valS (t.drop (t.idxOf 47+1))=0
    ·rw[h0,make_no0];rfl
    ·rw[make_dd b _ h0,beq_false_of_ne h0];rfl
 ·rw[if_neg h1,if_neg h1];by_cases h2:t.idxOf 46<t.length
  ·rw[if_pos h2,if_pos h2]
   cases ha:digs (t.take (t.idxOf 46))&&digs (t.drop (t.idxOf 46+1)) with
   | false=>exact make_no1 b []
   | true=>exact make_dd b _ (ten_ne _)
  ·rw[if_neg h2,if_neg h2];show makeR (ngD b (natD t)) [49]=_
   cases ha:digs t with
   | false=>rw[natD_no ha,make_no1];rfl
   | true =>
    rw[natD_yes ha,show ([49]:List UInt8)=dig 1 by rw[dig_small (by decide)];rfl];exact make_dd b _ (by decide)
theorem parS_long{l:List UInt8}(h:1000<l.length):parS l=(([],[]),40):=by unfold parS;rw[if_pos h]
theorem parS_make{l:List UInt8}(h:¬1000<l.length):parS l=if (makeR (ngD (unD l).1 (partsT (unD l).2).1) (partsT (unD l).2).2).2 then ((makeR (ngD (unD l).1 (partsT (unD l).2).1) (partsT (unD l).2).2).1,0) else (([],[]),40):=by
 unfold parS parU;rw[if_neg h,parts_same]
 cases partsD (unD l).2<;>rfl
theorem parS_some{l:List UInt8}{q:Rat}(h:l.length≤1000)(hq:parU l=some q):parS l=(rd q,0):=by unfold parS;rw[if_neg (by omega),hq]
theorem negW_len1(b:Bool)(l:List UInt8):(ngD b l).length≤l.length+1:=by
 unfold ngD
 cases b with
 | false=>exact Nat.le_succ _
 | true =>
  show (negW l).length≤_;unfold negW
  cases h:isW l with
  | false=>exact Nat.zero_le _
  | true =>
   show (wd (-valW l)).length≤_;rcases isW_cases h with ⟨h1,h2⟩|⟨r,rfl,h1,_,h3⟩
   ·rw[h2];have e:(wd (-(valS l:Int))).length≤(dig (valS l)).length+1:=by
     unfold wd;have e2:(-(valS l:Int)).natAbs=valS l:=by omega
     rw[e2];split
     ·exact Nat.le_refl _
     ·exact Nat.le_succ _
    rwa[dig_valS h1]at e
   ·rw[h3,Int.neg_neg,wd_nat,dig_valS h1];exact Nat.le_succ_of_le (Nat.le_succ _)
theorem natD_len{l:List UInt8}:(natD l).length≤l.length:=by
 cases h:digs l with
 | false=>rw[natD_no h];exact Nat.zero_le _
 | true =>
  rw[natD_yes h];obtain⟨h1,h2⟩:=digs_parts h;have hp:0<l.length:=List.length_pos_iff.2 h2;by_cases h0:valS l=0
  ·rw[h0,dig_small (by decide)];exact hp
  ·rw[←dropZeros_dig h1 (by omega)];exact(List.dropWhile_suffix _).length_le
theorem partsT_len(t:List UInt8):(partsT t).1.length≤t.length∧(partsT t).2.length≤t.length+1:=by
 unfold partsT;split
 ·refine⟨Nat.le_trans natD_len ?_,Nat.le_trans natD_len ?_⟩
  ·rw[List.length_take];omega
  ·rw[List.length_drop];omega
 ·split
  ·cases ha:digs (t.take (t.idxOf 46))&&digs (t.drop (t.idxOf 46+1)) with
   | false=>exact⟨Nat.zero_le _,Nat.zero_le _⟩
   | true =>
    rw[Bool.and_eq_true]at ha;obtain⟨h1,h2⟩:=digs_parts ha.1;obtain⟨h3,h4⟩:=digs_parts ha.2;refine⟨?_,?_⟩
    ·have hd:digs (t.take (t.idxOf 46)++t.drop (t.idxOf 46+1))=true:=digs_of (by rw[List.all_append,h1,h3];rfl) (by simp[h2]);have:=natD_len (l:=t.take (t.idxOf 46)++t.drop (t.idxOf 46+1));rw[natD_yes hd]at this;refine Nat.le_trans this ?_;rw[List.length_append,List.length_take,List.length_drop];omega
    ·show (dig (10 ^ _)).length≤_;rw[dig_ten,List.length_cons,List.length_replicate];omega
  ·exact⟨natD_len,by show 1≤_;omega⟩
theorem unD_len(l:List UInt8):(unD l).2.length≤l.length:=by
 unfold unD;split
 ·show l.tail.length≤_;rw[List.length_tail];omega
 ·exact Nat.le_refl _
abbrev Key:=List UInt8×List UInt8
abbrev Ln:=Key×Key
def nameC(c:UInt8):Bool:=(decide (97≤c.toNat)&&decide (c.toNat≤122))||(decide (48≤c.toNat)&&decide (c.toNat≤57))
def okB(i:Nat)(c:UInt8):Bool:=nameC c||(decide (c.toNat=33)&&decide (i=0))
def nmFrom:Nat→List UInt8→Bool
 | _,[]=>true
 | k,c::r=>okB k c&&nmFrom (k+1) r
def isName(l:List UInt8):Bool:=nmFrom 0 l&&(decide (1≤l.length)&&decide (l.length≤20))
theorem nmFrom_append:∀ (k:Nat) (l m:List UInt8),nmFrom k (l++m)=(nmFrom k l&&nmFrom (k+l.length) m)
 | _,[],_=>rfl
 | k,c::r,m=>by
  show (okB k c&&nmFrom (k+1) (r++m))=((okB k c&&nmFrom (k+1) r)&&nmFrom (k+(r.length+1)) m);rw[nmFrom_append (k+1) r m,Bool.and_assoc,show k+1+r.length=k+(r.length+1) by omega]
theorem nm_step{l:List UInt8}{i:Nat}(h:i<l.length):nmFrom 0 (l.take (i+1))=(nmFrom 0 (l.take i)&&okB i l[i]):=by
 rw[List.take_add_one,List.getElem?_eq_getElem h,nmFrom_append];have e:(l.take i).length=i:=by rw[List.length_take];omega
 rw[e,Nat.zero_add];show (_&&(okB i l[i]&&true))=_;rw[Bool.and_true]
theorem nm_stop{l:List UInt8}{i:Nat}(h:i<l.length)(hb:okB i l[i]=false):isName l=false:=by
 have e:l=l.take (i+1)++l.drop (i+1):=(List.take_append_drop _ _).symm;unfold isName;rw[e,nmFrom_append,nm_step h,hb,Bool.and_false,Bool.false_and,Bool.false_and]
theorem nm_all{l:List UInt8}(h:nmFrom 0 (l.take l.length)=true):isName l=(decide (1≤l.length)&&decide (l.length≤20)):=by
 unfold isName;rw[List.take_length]at h;rw[h,Bool.true_and]
theorem less_irrefl:∀l:List UInt8,Op.bytesLess l l=false
 | []=>rfl
 | a::r=>by
  have h:=less_irrefl r;show (decide (a<a)||(a==a&&Op.bytesLess r r))=false;rw[h,Bool.and_false,Bool.or_false];exact decide_eq_false (by rw[UInt8.lt_iff_toNat_lt];omega)
theorem less_nil(a:List UInt8):Op.bytesLess a []=false:=by cases a<;>rfl
theorem less_trans:∀ {a b c:List UInt8},Op.bytesLess a b=true→Op.bytesLess b c=true→Op.bytesLess a c=true
 | _,[],_,h,_=>by rw[less_nil]at h;cases h
 | _,_::_,[],_,h=>by rw[less_nil]at h;cases h
 | [],_::_,_::_,_,_=>rfl
 | x::a,y::b,z::c,h,k=>by
  have h:(decide (x<y)||(x==y&&Op.bytesLess a b))=true:=h;have k:(decide (y<z)||(y==z&&Op.bytesLess b c))=true:=k;show (decide (x<z)||(x==z&&Op.bytesLess a c))=true;simp only[Bool.or_eq_true,Bool.and_eq_true,decide_eq_true_eq,beq_iff_eq]at h k ⊢;rcases h with h|⟨h,h'⟩<;>rcases k with k|⟨k,k'⟩
  ·left;rw[UInt8.lt_iff_toNat_lt]at *;omega
  ·left;subst k;exact h
  ·left;subst h;exact k
  ·right;exact⟨h.trans k,less_trans h' k'⟩
theorem less_cases:∀a b:List UInt8,Op.bytesLess a b=true∨a=b∨Op.bytesLess b a=true
 | [],[]=>.inr (.inl rfl)
 | [],_::_=>.inl rfl
 | _::_,[]=>.inr (.inr rfl)
 | x::a,y::b=>by
  show (decide (x<y)||(x==y&&Op.bytesLess a b))=true∨x::a=y::b∨(decide (y<x)||(y==x&&Op.bytesLess b a))=true;simp only[Bool.or_eq_true,Bool.and_eq_true,decide_eq_true_eq,beq_iff_eq];by_cases h:x<y
  ·exact .inl (.inl h)
  ·by_cases h2:y<x
   ·exact .inr (.inr (.inl h2))
   ·have e:x=y:=by
     rw[UInt8.lt_iff_toNat_lt]at h h2;exact UInt8.toNat_inj.1 (by omega)
    subst e;rcases less_cases a b with k|k|k
    ·exact .inl (.inr ⟨rfl,k⟩)
    ·subst k;exact .inr (.inl rfl)
    ·exact .inr (.inr (.inr ⟨rfl,k⟩))
def aheadK(a b:Key):Bool:=Op.bytesLess a.1 b.1||(a.1==b.1&&Op.bytesLess a.2 b.2)
theorem ahead_irrefl(a:Key):aheadK a a=false:=by unfold aheadK;rw[less_irrefl,less_irrefl,Bool.and_false];rfl
theorem ahead_trans{a b c:Key}(h:aheadK a b=true)(k:aheadK b c=true):aheadK a c=true:=by
 unfold aheadK at *;simp only[Bool.or_eq_true,Bool.and_eq_true,beq_iff_eq]at h k ⊢;rcases h with h|⟨h,h'⟩<;>rcases k with k|⟨k,k'⟩
 ·exact .inl (less_trans h k)
 ·exact .inl (k▸h)
 ·exact .inl (h▸k)
 ·exact .inr ⟨h.trans k,less_trans h' k'⟩
theorem ahead_cases(a b:Key):aheadK a b=true∨a=b∨aheadK b a=true:=by
 unfold aheadK;simp only[Bool.or_eq_true,Bool.and_eq_true,beq_iff_eq];rcases less_cases a.1 b.1 with h|h|h
 ·exact .inl (.inl h)
 ·rcases less_cases a.2 b.2 with k|k|k
  ·exact .inl (.inr ⟨h,k⟩)
  ·exact .inr (.inl (Prod.ext h k))
  ·exact .inr (.inr (.inr ⟨h.symm,k⟩))
 ·exact .inr (.inr (.inl h))
theorem ahead_asym{a b:Key}(h:aheadK a b=true):aheadK b a=false:=by
 cases e:aheadK b a with
 | false=>rfl
 | true=>have:=ahead_trans h e;rw[ahead_irrefl]at this;cases this
theorem ahead_ne{a b:Key}(h:aheadK a b=true):a≠b:=fun e=>by rw[e,ahead_irrefl]at h;cases h
def lineOf(ls:List Ln)(k:Key):Option Ln:=ls.find? fun x=>x.1==k
def insB:List Ln→Bool→Key→Key→List Ln
 | [],laid,k,q=>if laid then [] else [(k,q)]
 | x::r,laid,k,q=>(if !laid&&!aheadK x.1 k then [(k,q)] else [])++((if x.1==k then [] else [x])++insB r (laid||!aheadK x.1 k) k q)
def putB(ls:List Ln)(k q:Key):List Ln:=insB ls (sgnR q==0) k q
theorem parts:∀ {ls:List Ln},ls.Pairwise (fun x y=>aheadK x.1 y.1=true)→∀k:Key,∃A M C,ls=A++(M++C)∧(∀x∈A,aheadK x.1 k=true)∧(∀x∈C,aheadK k x.1=true)∧(M=[]∨∃p,M=[(k,p)])
 | [],_,k=>⟨[],[],[],rfl,fun _ h=>(by cases h),fun _ h=>(by cases h),.inl rfl⟩
 | x::r,h,k=>by
  obtain⟨h1,h2⟩:=List.pairwise_cons.1 h;rcases ahead_cases x.1 k with e|e|e
  ·obtain⟨A,M,C,rfl,hA,hC,hM⟩:=parts h2 k;refine⟨x::A,M,C,rfl,fun y hy=>?_,hC,hM⟩;rcases List.mem_cons.1 hy with rfl|hy
   ·exact e
   ·exact hA y hy
  ·refine⟨[],[x],r,rfl,fun _ h=>(by cases h),fun y hy=>e▸h1 y hy,.inr ⟨x.2,?_⟩⟩;rw[←e]
  ·refine⟨[],[],x::r,rfl,fun _ h=>(by cases h),fun y hy=>?_,.inl rfl⟩;rcases List.mem_cons.1 hy with rfl|hy
   ·exact e
   ·exact ahead_trans e (h1 y hy)
theorem ins_far:∀ {C:List Ln} {k:Key} (q:Key),(∀x∈C,aheadK k x.1=true)→insB C true k q=C
 | [],_,_,_=>rfl
 | x::r,k,q,h=>by
  have e:=h x (List.mem_cons_self ..);show (if !true&&!aheadK x.1 k then [(k,q)] else [])++((if x.1==k then [] else [x])++insB r (true||!aheadK x.1 k) k q)=x::r;rw[beq_false_of_ne (ahead_ne e).symm,Bool.true_or,ins_far q fun y hy=>h y (List.mem_cons_of_mem _ hy)]
  rfl
theorem ins_near{C:List Ln}{k:Key}(q:Key)(h:∀x∈C,aheadK k x.1=true):insB C false k q=(k,q)::C:=by
 cases C with
 | nil=>rfl
 | cons x r =>
  have e:=h x (List.mem_cons_self ..);show (if !false&&!aheadK x.1 k then [(k,q)] else [])++((if x.1==k then [] else [x])++insB r (false||!aheadK x.1 k) k q)=(k,q)::x::r;rw[beq_false_of_ne (ahead_ne e).symm,ahead_asym e,show (false||!false)=true from rfl,ins_far q fun y hy=>h y (List.mem_cons_of_mem _ hy)]
  rfl
theorem ins_ahead:∀ {A:List Ln} {k:Key} (q:Key) (laid:Bool) (D:List Ln),(∀x∈A,aheadK x.1 k=true)→insB (A++D) laid k q=A++insB D laid k q
 | [],_,_,_,_,_=>rfl
 | x::r,k,q,laid,D,h=>by
  have e:=h x (List.mem_cons_self ..);show (if !laid&&!aheadK x.1 k then [(k,q)] else [])++((if x.1==k then [] else [x])++insB (r++D) (laid||!aheadK x.1 k) k q)=x::(r++insB D laid k q);rw[beq_false_of_ne (ahead_ne e),e,show (!true)=false from rfl,Bool.and_false,Bool.or_false,ins_ahead q laid D fun y hy=>h y (List.mem_cons_of_mem _ hy)]
  rfl
theorem put_parts{A M C:List Ln}{k:Key}(q:Key)(hA:∀x∈A,aheadK x.1 k=true)(hC:∀x∈C,aheadK k x.1=true)(hM:M=[]∨∃p,M=[(k,p)]) :
  putB (A++(M++C)) k q=A++((if sgnR q==0 then [] else [(k,q)])++C):=by
 unfold putB;rw[ins_ahead q _ _ hA]
 congr 1
 rcases hM with rfl|⟨p,rfl⟩
 ·rw[List.nil_append]
  cases e:sgnR q==0 with
  | true=>rw[ins_far q hC];rfl
  | false=>rw[ins_near q hC];rfl
 ·show (if !(sgnR q==0)&&!aheadK k k then [(k,q)] else [])++((if k==k then [] else [(k,p)])++insB C ((sgnR q==0)||!aheadK k k) k q)=_;rw[ahead_irrefl,beq_self_eq_true,show (!false)=true from rfl,Bool.and_true,Bool.or_true,ins_far q hC]
  cases sgnR q==0<;>rfl
theorem of_none{A:List Ln}{k:Key}(h:∀x∈A,x.1≠k):lineOf A k=none:=List.find?_eq_none.2 fun x hx=>by
 rw[beq_iff_eq];exact h x hx
theorem of_append(A B:List Ln)(k:Key):lineOf (A++B) k=(lineOf A k).or (lineOf B k):=List.find?_append
theorem nm_zero(l:List UInt8):nmFrom 1 l=l.all nameC:=by
 have key:∀ (l:List UInt8) (k:Nat),nmFrom (k+1) l=l.all nameC:=by
  intro l
  induction l with
  | nil=>intro k;rfl
  | cons c r ih =>
   intro k;show (okB (k+1) c&&nmFrom (k+1+1) r)=(nameC c&&r.all nameC);rw[ih (k+1)];have:okB (k+1) c=nameC c:=by unfold okB;rw[decide_eq_false (Nat.succ_ne_zero k),Bool.and_false,Bool.or_false]
   rw[this]
 exact key l 0
def noMark(l:List UInt8):List UInt8:=match l with|33::r=>r|l=>l
theorem trim_mark:∀l:List UInt8,Lib.trimPrefix l [33]=noMark l
 | []=>rfl
 | c::r=>by
  unfold Lib.trimPrefix noMark;by_cases h:c=33
  ·subst h;rfl
  ·have e:Lib.hasPrefix (c::r) [33]=false:=by
    show ([33]:List UInt8).isPrefixOf (c::r)=false;show ((33:UInt8)==c&&_)=false;rw[beq_false_of_ne (fun e=>h e.symm),Bool.false_and]
   rw[e];show c::r=_;split
   ·rename_i r' heq;exact absurd (List.cons.inj heq).1 h
   ·rfl
theorem name_mark(l:List UInt8):isName l=((noMark l).all nameC&&(decide (1≤l.length)&&decide (l.length≤20))):=by
 unfold isName
 cases l with
 | nil=>rfl
 | cons c r =>
  congr 1
  show (okB 0 c&&nmFrom 1 r)=_;rw[nm_zero];unfold noMark;split
  ·rename_i r' heq
   obtain⟨rfl,rfl⟩:=List.cons.inj heq;rw[show okB 0 33=true from by decide,Bool.true_and]
  ·rename_i l' hne
   have h33:c≠33:=fun e=>hne r (by rw[e]);have:okB 0 c=nameC c:=by
    unfold okB;rw[decide_eq_false (show ¬c.toNat=33 from fun e=>h33 (UInt8.toNat_inj.1 e)),Bool.false_and,Bool.or_false]
   rw[this];rfl
theorem noMark_len(l:List UInt8):(noMark l).length≤l.length:=by
 unfold noMark;split
 ·exact Nat.le_succ _
 ·exact Nat.le_refl _
def rank(ls:List Ln)(k:Key):Nat:=ls.countP fun x=>aheadK x.1 k
theorem rank_parts{A M C:List Ln}{k:Key}(hA:∀x∈A,aheadK x.1 k=true)(hC:∀x∈C,aheadK k x.1=true)(hM:M=[]∨∃p,M=[(k,p)]):rank (A++(M++C)) k=A.length:=by
 have hc:C.countP (fun x=>aheadK x.1 k)=0:=List.countP_eq_zero.2 fun x hx=>by rw[ahead_asym (hC x hx)];decide
 unfold rank;rw[List.countP_append,List.countP_append,List.countP_eq_length.2 hA,hc];rcases hM with rfl|⟨p,rfl⟩
 ·rfl
 ·rw[List.countP_eq_zero.2 fun x hx=>by obtain rfl:=List.mem_singleton.1 hx;rw[ahead_irrefl];decide]
  rfl
def thereB(ls:List Ln)(k:Key):Bool:=match ls[rank ls k]? with|some x=>x.1==k|none=>false
theorem place{ls:List Ln}(h:ls.Pairwise fun x y=>aheadK x.1 y.1=true)(k:Key) :
  (thereB ls k=true∧∃p,ls[rank ls k]?=some (k,p)∧lineOf ls k=some (k,p)∧∀q,putB ls k q=ls.take (rank ls k)++((if sgnR q==0 then [] else [(k,q)])++ls.drop (rank ls k+1))) ∨
  (thereB ls k=false∧lineOf ls k=none∧∀q,putB ls k q=ls.take (rank ls k)++((if sgnR q==0 then [] else [(k,q)])++ls.drop (rank ls k))):=by
 obtain⟨A,M,C,rfl,hA,hC,hM⟩:=parts h k;have hr:=rank_parts hA hC hM;have nA:lineOf A k=none:=of_none fun x hx=>ahead_ne (hA x hx);have nC:lineOf C k=none:=of_none fun x hx=>(ahead_ne (hC x hx)).symm;rcases hM with rfl|⟨p,rfl⟩
 ·right
  refine⟨?_,?_,fun q=>?_⟩
  ·unfold thereB;rw[hr,List.nil_append,List.getElem?_append_right (Nat.le_refl _),Nat.sub_self]
   cases C with
   | nil=>rfl
   | cons y r=>exact beq_false_of_ne (ahead_ne (hC y (List.mem_cons_self ..))).symm
  ·rw[of_append,of_append,nA,nC];rfl
  ·rw[put_parts q hA hC (.inl rfl),hr,List.take_left,List.drop_left];rfl
 ·left
  refine⟨?_,p,?_,?_,fun q=>?_⟩
  ·unfold thereB;rw[hr,List.getElem?_append_right (Nat.le_refl _),Nat.sub_self];exact beq_self_eq_true k
  ·rw[hr,List.getElem?_append_right (Nat.le_refl _),Nat.sub_self];rfl
  ·rw[of_append,of_append,nA];have:lineOf [(k,p)] k=some (k,p):=by unfold lineOf;rw[List.find?_cons,beq_self_eq_true]
   rw[this];rfl
  ·rw[put_parts q hA hC (.inr ⟨p,rfl⟩),hr,List.take_left]
   congr 2
   rw[List.drop_append,List.drop_of_length_le (Nat.le_succ _),Nat.add_sub_cancel_left];rfl
def sumK(ms:List Ln)(k:Key):Rat:=ms.foldr (fun x s=>(if x.1=k then valR x.2 else 0)+s) 0
end Go.Proofs.YtmllklfjngapiaaGreatDoor
