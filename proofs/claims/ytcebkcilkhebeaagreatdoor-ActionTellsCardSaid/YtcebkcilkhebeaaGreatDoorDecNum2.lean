/- Own work. -/
import Derived.Test.YtcebkcilkhebeaaGreatDoorAllRefDM
namespace Go.Proofs.YtcebkcilkhebeaaGreatDoor
theorem strip_pow{p:Nat}(h1:1<p){m:Nat}(hm:0<m)(h:m % p≠0):∀A,strip p (p ^ A*m)=(A,m)
 | 0=>by rw[Nat.pow_zero,Nat.one_mul,strip_no h]
 | A+1=>by
  have hp:0<p:=by omega
  have e:p ^ (A+1)*m=p*(p ^ A*m):=by rw[Nat.pow_succ,Nat.mul_comm (p ^ A) p,Nat.mul_assoc]
  have hpos:0<p ^ A*m:=Nat.mul_pos (Nat.pow_pos hp) hm;rw[e,strip_yes h1 (Nat.mul_pos hp hpos) (Nat.mul_mod_right _ _),Nat.mul_div_cancel_left _ hp,strip_pow h1 hm h A]
theorem plc_is{A B r:Nat}(hr:0<r)(h2:r % 2≠0)(h5:r % 5≠0):plc (2 ^ A*(5 ^ B*r))=if r=1 then some (max A B) else none:=by
 have h3:(5 ^ B*r) % 2≠0:=by
  rw[Nat.mul_mod,Nat.pow_mod];show (1 ^ B % 2)*(r % 2) % 2≠0;rw[Nat.one_pow];omega
 have hp:0<5 ^ B*r:=Nat.mul_pos (Nat.pow_pos (by decide)) hr;unfold plc;rw[strip_pow (by decide) hp h3];show (if (strip 5 (5 ^ B*r)).2=1 then _ else _)=_;rw[strip_pow (by decide) hr h5]
def onS(b e d:Nat):Nat×Nat:=((strip b d).2,e*(strip b d).1)
theorem on_no{b e d:Nat}(h:d % b≠0):onS b e d=(d,0):=by unfold onS;rw[strip_no h];rfl
theorem on_yes{b e d:Nat}(h1:1<b)(h2:0<d)(h:d % b=0):onS b e d=((onS b e (d / b)).1,e+(onS b e (d / b)).2):=by
 unfold onS;rw[strip_yes h1 h2 h];exact Prod.ext rfl (by show e*((strip b (d / b)).1+1)=e+e*(strip b (d / b)).1;rw[Nat.mul_succ,Nat.add_comm])
theorem on_spec{b e d:Nat}(h1:1<b)(h2:0<d):d=b ^ (strip b d).1*(onS b e d).1∧(onS b e d).1 % b≠0∧0<(onS b e d).1:=strip_spec h1 d h2
theorem mod_of_mul{a b c p:Nat}(h:a=b*c)(hp:a % p≠0):c % p≠0:=fun e=>hp (by rw[h,Nat.mul_mod,e,Nat.mul_zero,Nat.zero_mod])
def leftS(d:Nat):Nat:=(onS 5 1 (onS 244140625 12 (onS 2 1 (onS 536870912 29 (onS 10 1 d).1).1).1).1).1
def cntS(d:Nat):Nat:=(onS 10 1 d).2+(onS 536870912 29 (onS 10 1 d).1).2+(onS 2 1 (onS 536870912 29 (onS 10 1 d).1).1).2+(onS 244140625 12 (onS 2 1 (onS 536870912 29 (onS 10 1 d).1).1).1).2+(onS 5 1 (onS 244140625 12 (onS 2 1 (onS 536870912 29 (onS 10 1 d).1).1).1).1).2
theorem walk_is{d:Nat}(hd:0<d):plc d=if leftS d=1 then some (cntS d) else none:=by
 obtain⟨z1,z2,z3⟩:=on_spec (e:=1) (show 1<10 by decide) hd;have c1:(onS 10 1 d).2=(strip 10 d).1:=Nat.one_mul _;obtain⟨a1,a2,a3⟩:=on_spec (e:=29) (show 1<536870912 by decide) z3;have c2:(onS 536870912 29 (onS 10 1 d).1).2=29*(strip 536870912 (onS 10 1 d).1).1:=rfl;obtain⟨b1,b2,b3⟩:=on_spec (e:=1) (show 1<2 by decide) a3;have c3:(onS 2 1 (onS 536870912 29 (onS 10 1 d).1).1).2=(strip 2 (onS 536870912 29 (onS 10 1 d).1).1).1:=Nat.one_mul _;obtain⟨e1,e2,e3⟩:=on_spec (e:=12) (show 1<244140625 by decide) b3;have c4:(onS 244140625 12 (onS 2 1 (onS 536870912 29 (onS 10 1 d).1).1).1).2=12*(strip 244140625 (onS 2 1 (onS 536870912 29 (onS 10 1 d).1).1).1).1:=rfl;obtain⟨f1,f2,f3⟩:=on_spec (e:=1) (show 1<5 by decide) e3;have c5:(onS 5 1 (onS 244140625 12 (onS 2 1 (onS 536870912 29 (onS 10 1 d).1).1).1).1).2=(strip 5 (onS 244140625 12 (onS 2 1 (onS 536870912 29 (onS 10 1 d).1).1).1).1).1:=Nat.one_mul _;unfold leftS cntS;rw[c1,c2,c3,c4,c5];generalize (onS 5 1 (onS 244140625 12 (onS 2 1 (onS 536870912 29 (onS 10 1 d).1).1).1).1).1=r at *;generalize (strip 5 (onS 244140625 12 (onS 2 1 (onS 536870912 29 (onS 10 1 d).1).1).1).1).1=n5 at *;generalize (onS 244140625 12 (onS 2 1 (onS 536870912 29 (onS 10 1 d).1).1).1).1=m4 at *;generalize (strip 244140625 (onS 2 1 (onS 536870912 29 (onS 10 1 d).1).1).1).1=n4 at *;generalize (onS 2 1 (onS 536870912 29 (onS 10 1 d).1).1).1=m3 at *;generalize (strip 2 (onS 536870912 29 (onS 10 1 d).1).1).1=n3 at *;generalize (onS 536870912 29 (onS 10 1 d).1).1=m2 at *
 generalize (strip 536870912 (onS 10 1 d).1).1=n2 at *;generalize (onS 10 1 d).1=m1 at *;generalize (strip 10 d).1=n1 at *;clear c1 c2 c3 c4 c5;have hr2:r % 2≠0:=mod_of_mul f1 (mod_of_mul e1 b2);have g1:m3=5 ^ (12*n4+n5)*r:=by
  rw[e1,f1,← Nat.mul_assoc,Nat.pow_add,Nat.pow_mul]
 have g2:m1=2 ^ (29*n2+n3)*m3:=by
  rw[a1,b1,← Nat.mul_assoc,Nat.pow_add,Nat.pow_mul]
 obtain⟨B,hB⟩:∃B,12*n4+n5=B:=⟨_,rfl⟩;rw[hB]at g1;have hor:29*n2+n3=0∨B=0:=by
  rcases Nat.eq_zero_or_pos (29*n2+n3) with h|h
  ·exact .inl h
  rcases Nat.eq_zero_or_pos B with k|k
  ·exact .inr k
  exfalso;apply z2;obtain⟨A,hA⟩:∃A,29*n2+n3=A+1:=⟨29*n2+n3-1,by omega⟩;obtain⟨C,hC⟩:∃C,B=C+1:=⟨B-1,by omega⟩;rw[g2,g1,hA,hC,Nat.pow_succ,Nat.pow_succ];have e:2 ^ A*2*(5 ^ C*5*r)=10*(2 ^ A*(5 ^ C*r)):=by
   rw[Nat.mul_comm (2 ^ A) 2,Nat.mul_comm (5 ^ C) 5,Nat.mul_assoc 5,Nat.mul_assoc 2,Nat.mul_left_comm (2 ^ A) 5,← Nat.mul_assoc 2 5]
  rw[e,Nat.mul_mod_right]
 have g3:d=2 ^ (n1+(29*n2+n3))*(5 ^ (n1+B)*r):=by
  rw[z1,ten_pow,g2,g1,Nat.pow_add 2 n1,Nat.pow_add 5 n1];rw[Nat.mul_assoc (2 ^ n1) (5 ^ n1),Nat.mul_assoc (2 ^ n1) (2 ^ (29*n2+n3)),Nat.mul_left_comm (5 ^ n1),Nat.mul_assoc (5 ^ n1)]
 rw[g3,plc_is f3 hr2 f2];by_cases h:r=1
 ·rw[if_pos h,if_pos h]
  congr 1
  rcases hor with k|k<;>omega
 ·rw[if_neg h,if_neg h]
theorem dig_tens{n:Nat}(h:0<n)(k:Nat):dig (n*10 ^ k)=dig n++List.replicate k 48:=by
 induction k with
 | zero=>rw[Nat.pow_zero,Nat.mul_one,List.replicate_zero,List.append_nil]
 | succ k ih =>
  have hp:0<n*10 ^ k:=Nat.mul_pos h (Nat.pow_pos (by decide));have e:n*10 ^ (k+1)=10*(n*10 ^ k):=by rw[Nat.pow_succ,Nat.mul_comm (10 ^ k),Nat.mul_left_comm]
  rw[e,dig_big (by omega),Nat.mul_div_cancel_left _ (by decide),ih,List.replicate_succ',← List.append_assoc]
  congr 2
  unfold digN;rw[Nat.mul_mod_right]
  rfl
theorem dig_last{n:Nat}(h:n % 10≠0):∃l c,dig n=l++[c]∧c≠48:=by
 have hc:digN n≠48:=fun e=>by
  have:=congrArg UInt8.toNat e;rw[digN_toNat]at this;have h2:(48:UInt8).toNat=48:=rfl;omega
 by_cases h1:n<10
 ·exact⟨[],digN n,by rw[dig_small h1];rfl,hc⟩
 ·exact⟨dig (n / 10),digN n,dig_big h1,hc⟩
theorem drop_zeros_rep(k:Nat)(l:List UInt8){c:UInt8}(hc:c≠48):(List.replicate k 48++c::l).dropWhile (·==48)=c::l:=by
 induction k with
 | zero =>
  rw[List.replicate_zero,List.nil_append];exact List.dropWhile_cons_of_neg (by simpa using hc)
 | succ k ih =>
  rw[List.replicate_succ,List.cons_append,List.dropWhile_cons_of_pos (by simp),ih]
theorem trim_tens{d:Nat}(hd:0<d):((dig d).reverse.dropWhile (·==48)).reverse=dig (onS 10 1 d).1∧(dig d).length=(dig (onS 10 1 d).1).length+(onS 10 1 d).2:=by
 obtain⟨z1,z2,z3⟩:=on_spec (e:=1) (show 1<10 by decide) hd;have c1:(onS 10 1 d).2=(strip 10 d).1:=Nat.one_mul _;rw[c1];have e:dig d=dig (onS 10 1 d).1++List.replicate (strip 10 d).1 48:=by
  conv=>lhs;rw[z1]
  rw[Nat.mul_comm,dig_tens z3]
 refine⟨?_,by rw[e,List.length_append,List.length_replicate]⟩;rw[e];obtain⟨l,c,h1,h2⟩:=dig_last z2;rw[h1,List.reverse_append,List.reverse_append,List.reverse_replicate];show ((List.replicate (strip 10 d).1 48++c::l.reverse).dropWhile _).reverse=_;rw[drop_zeros_rep _ _ h2,List.reverse_cons,List.reverse_reverse]
theorem on_le{b e d:Nat}(h1:1<b)(h2:0<d):(onS b e d).1≤d:=by
 have h:=(on_spec (e:=e) h1 h2).1
 conv=>rhs;rw[h]
 exact Nat.le_mul_of_pos_left _ (Nat.pow_pos (by omega))
theorem den_divides{x:Rat}{k:Nat}(h:plc x.den=some k):x.den∣10 ^ k:=(plc_dvd (Nat.pos_of_ne_zero x.den_nz)).2 ⟨k,h,Nat.le_refl _⟩
theorem tens_div{x:Rat}{k:Nat}(h:plc x.den=some k):x.num.natAbs*10 ^ k / x.den=x.num.natAbs*(10 ^ k / x.den):=Nat.mul_div_assoc _ (den_divides h)
theorem num_zero_den{x:Rat}(h:x.num=0):x.den=1:=by rw[Rat.num_eq_zero.1 h];rfl
theorem num_tens{x:Rat}{k:Nat}(h:plc x.den=some k):dig x.num.natAbs++List.replicate k 48=dig (x.num.natAbs*10 ^ k):=by
 by_cases h0:x.num=0
 ·have hk:k=0:=by
   rw[num_zero_den h0]at h;have:=(plc_dvd (d:=1) (k:=0) (by decide)).1 (Nat.dvd_refl _);obtain⟨m,hm,hm0⟩:=this;rw[hm]at h;have:=Option.some.inj h;omega
  subst hk;rw[List.replicate_zero,List.append_nil,Nat.pow_zero,Nat.mul_one]
 ·rw[dig_tens (by omega)]
def bodyD(k:Nat)(s:List UInt8):List UInt8:=if k=0 then s else ptD k (padD (k+1) s)
theorem prD_body{x:Rat}{k:Nat}(h:plc x.den=some k):prD x=sgnD (decide (x.num<0)) (bodyD k (dig (x.num.natAbs*(10 ^ k / x.den)))):=by
 by_cases hk:k=0
 ·subst hk;have h1:x.den=1:=Nat.dvd_one.1 (by have:=den_divides h;rwa[Nat.pow_zero]at this);unfold bodyD;rw[prD_zero h,if_pos rfl,h1,Nat.pow_zero,Nat.div_one,Nat.mul_one,sgn_wd]
 ·unfold bodyD;rw[prD_some h hk,if_neg hk]
def natD(l:List UInt8):List UInt8:=if digs l then dig (valS l) else []
theorem natD_yes{l:List UInt8}(h:digs l=true):natD l=dig (valS l):=by unfold natD;rw[h];rfl
theorem natD_no{l:List UInt8}(h:digs l=false):natD l=[]:=by unfold natD;rw[h];rfl
def partsT(t:List UInt8):List UInt8×List UInt8 :=
 if t.idxOf 47<t.length then (natD (t.take (t.idxOf 47)),natD (t.drop (t.idxOf 47+1)))
 else if t.idxOf 46<t.length then
  (if digs (t.take (t.idxOf 46))&&digs (t.drop (t.idxOf 46+1)) then (dig (valS (t.take (t.idxOf 46)++t.drop (t.idxOf 46+1))),dig (10 ^ (t.length-t.idxOf 46-1))) else ([],[]))
 else (natD t,[49])
def parS(l:List UInt8):(List UInt8×List UInt8)×Int :=
 if 1000<l.length then (([],[]),40) else match parU l with
  | some q=>(rd q,0)
  | none=>(([],[]),40)
def ngD(b:Bool)(n:List UInt8):List UInt8:=if b then negW n else n
theorem ngD_dig(b:Bool)(n:Nat):ngD b (dig n)=wd (if b then -(n:Int) else (n:Int)):=by
 unfold ngD
 cases b with
 | false=>exact(wd_nat n).symm
 | true =>
  show negW (dig n)=wd (-(n:Int));unfold negW;rw[isW_dig,valW_dig];rfl
theorem sq_mk(b:Bool)(n d:Nat):sq b (mkRat (n:Int) d)=mkRat (if b then -(n:Int) else (n:Int)) d:=by
 cases b with
 | false=>rfl
 | true=>show -mkRat _ _=mkRat (-(n:Int)) d;rw[Rat.neg_mkRat]
theorem make_dd(b:Bool)(n:Nat){d:Nat}(hd:d≠0):makeR (ngD b (dig n)) (dig d)=(rd (sq b (mkRat (n:Int) d)),true):=by
 rw[ngD_dig,← wd_nat d,makeR_ww (by omega),Rat.divInt_ofNat,sq_mk]
theorem make_no1(b:Bool)(d:List UInt8):makeR (ngD b []) d=(([],[]),false):=by
 cases b with
 | false=>exact makeR_nil d
 | true=>exact makeR_nil d
theorem make_no2(n:List UInt8):makeR n []=(([],[]),false):=makeR_no (by show ((isW n&&false)&&_)=false;rw[Bool.and_false];rfl)
theorem make_no0(n:List UInt8):makeR n (dig 0)=(([],[]),false):=makeR_no (by rw[valW_dig];exact Bool.and_false _)
theorem parts_same(b:Bool)(t:List UInt8):makeR (ngD b (partsT t).1) (partsT t).2=match partsD t with
  | some p=>(rd (sq b (mkRat (p.1:Int) p.2)),true)
  | none=>(([],[]),false):=by
 unfold partsT partsD;by_cases h1:t.idxOf 47<t.length
 ·rw[if_pos h1,if_pos h1];show makeR (ngD b (natD _)) (natD _)=_
  cases ha:digs (t.take (t.idxOf 47)) with
  | false=>rw[natD_no ha,make_no1];rfl
  | true=>cases hb:digs (t.drop (t.idxOf 47+1)) with
   | false=>rw[natD_no hb,make_no2];rfl
   | true =>
    rw[natD_yes ha,natD_yes hb];by_cases h0:valS (t.drop (t.idxOf 47+1))=0
    ·rw[h0,make_no0];rfl
    ·rw[make_dd b _ h0,beq_false_of_ne h0];rfl
 ·rw[if_neg h1,if_neg h1];by_cases h2:t.idxOf 46<t.length
  ·rw[if_pos h2,if_pos h2]
   cases ha:digs (t.take (t.idxOf 46))&&digs (t.drop (t.idxOf 46+1)) with
   | false=>exact make_no1 b []
   | true=>exact make_dd b _ (ten_ne _)
  ·rw[if_neg h2,if_neg h2];show makeR (ngD b (natD t)) [49]=_
   cases ha:digs t with
   | false=>rw[natD_no ha,make_no1];rfl
   | true =>
    rw[natD_yes ha,show ([49]:List UInt8)=dig 1 by rw[dig_small (by decide)];rfl];exact make_dd b _ (by decide)
theorem parS_long{l:List UInt8}(h:1000<l.length):parS l=(([],[]),40):=by unfold parS;rw[if_pos h]
theorem parS_make{l:List UInt8}(h:¬1000<l.length):parS l=if (makeR (ngD (unD l).1 (partsT (unD l).2).1) (partsT (unD l).2).2).2 then ((makeR (ngD (unD l).1 (partsT (unD l).2).1) (partsT (unD l).2).2).1,0) else (([],[]),40):=by
 unfold parS parU;rw[if_neg h,parts_same]
 cases partsD (unD l).2<;>rfl
theorem parS_some{l:List UInt8}{q:Rat}(h:l.length≤1000)(hq:parU l=some q):parS l=(rd q,0):=by unfold parS;rw[if_neg (by omega),hq]
theorem parS_none{l:List UInt8}(hq:parU l=none):parS l=(([],[]),40):=by
 unfold parS;rw[hq];split<;>rfl
theorem negW_len1(b:Bool)(l:List UInt8):(ngD b l).length≤l.length+1:=by
 unfold ngD
 cases b with
 | false=>exact Nat.le_succ _
 | true =>
  show (negW l).length≤_;unfold negW
  cases h:isW l with
  | false=>exact Nat.zero_le _
  | true =>
   show (wd (-valW l)).length≤_;rcases isW_cases h with ⟨h1,h2⟩|⟨r,rfl,h1,_,h3⟩
   ·rw[h2];have e:(wd (-(valS l:Int))).length≤(dig (valS l)).length+1:=by
     unfold wd;have e2:(-(valS l:Int)).natAbs=valS l:=by omega
     rw[e2];split
     ·exact Nat.le_refl _
     ·exact Nat.le_succ _
    rwa[dig_valS h1]at e
   ·rw[h3,Int.neg_neg,wd_nat,dig_valS h1];exact Nat.le_succ_of_le (Nat.le_succ _)
theorem natD_len{l:List UInt8}:(natD l).length≤l.length:=by
 cases h:digs l with
 | false=>rw[natD_no h];exact Nat.zero_le _
 | true =>
  rw[natD_yes h];obtain⟨h1,h2⟩:=digs_parts h;have hp:0<l.length:=List.length_pos_iff.2 h2;by_cases h0:valS l=0
  ·rw[h0,dig_small (by decide)];exact hp
  ·rw[←dropZeros_dig h1 (by omega)];exact(List.dropWhile_suffix _).length_le
theorem partsT_len(t:List UInt8):(partsT t).1.length≤t.length∧(partsT t).2.length≤t.length+1:=by
 unfold partsT;split
 ·refine⟨Nat.le_trans natD_len ?_,Nat.le_trans natD_len ?_⟩
  ·rw[List.length_take];omega
  ·rw[List.length_drop];omega
 ·split
  ·cases ha:digs (t.take (t.idxOf 46))&&digs (t.drop (t.idxOf 46+1)) with
   | false=>exact⟨Nat.zero_le _,Nat.zero_le _⟩
   | true =>
    rw[Bool.and_eq_true]at ha;obtain⟨h1,h2⟩:=digs_parts ha.1;obtain⟨h3,h4⟩:=digs_parts ha.2;refine⟨?_,?_⟩
    ·have hd:digs (t.take (t.idxOf 46)++t.drop (t.idxOf 46+1))=true:=digs_of (by rw[List.all_append,h1,h3];rfl) (by simp[h2]);have:=natD_len (l:=t.take (t.idxOf 46)++t.drop (t.idxOf 46+1));rw[natD_yes hd]at this;refine Nat.le_trans this ?_;rw[List.length_append,List.length_take,List.length_drop];omega
    ·show (dig (10 ^ _)).length≤_;rw[dig_ten,List.length_cons,List.length_replicate];omega
  ·exact⟨natD_len,by show 1≤_;omega⟩
theorem unD_len(l:List UInt8):(unD l).2.length≤l.length:=by
 unfold unD;split
 ·show l.tail.length≤_;rw[List.length_tail];omega
 ·exact Nat.le_refl _
end Go.Proofs.YtcebkcilkhebeaaGreatDoor
