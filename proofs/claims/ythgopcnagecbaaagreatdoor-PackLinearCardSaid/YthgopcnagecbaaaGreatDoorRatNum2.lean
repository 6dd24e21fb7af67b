/- Own work. -/
import Derived.Test.YthgopcnagecbaaaGreatDoorAllApiW
namespace Go.Proofs.YthgopcnagecbaaaGreatDoor
def rdN(q:Rat):List UInt8:=wd q.num
def rdD(q:Rat):List UInt8:=dig q.den
def rd(q:Rat):List UInt8×List UInt8:=(rdN q,rdD q)
def isR(p:List UInt8×List UInt8):Bool:=(isW p.1&&isNat p.2)&&(!(valS p.2==0)&&decide (Nat.gcd (valW p.1).natAbs (valS p.2)=1))
def valR(p:List UInt8×List UInt8):Rat:=mkRat (valW p.1) (valS p.2)
theorem isR_parts{p:List UInt8×List UInt8}(h:isR p=true):isW p.1=true∧isNat p.2=true∧valS p.2≠0∧Nat.gcd (valW p.1).natAbs (valS p.2)=1:=by
 unfold isR at h;simp only[Bool.and_eq_true,decide_eq_true_eq,Bool.not_eq_true',beq_eq_false_iff_ne,ne_eq]at h;exact⟨h.1.1,h.1.2,h.2.1,h.2.2⟩
theorem isR_of{p:List UInt8×List UInt8}(h1:isW p.1=true)(h2:isNat p.2=true)(h3:valS p.2≠0)(h4:Nat.gcd (valW p.1).natAbs (valS p.2)=1):isR p=true:=by
 unfold isR;rw[h1,h2,beq_false_of_ne h3,decide_eq_true h4];rfl
theorem isR_rd(q:Rat):isR (rd q)=true:=by
 refine isR_of (isW_wd _) (isNat_dig _) ?_ ?_
 ·show valS (dig q.den)≠0;rw[valS_dig];exact q.den_nz
 ·show Nat.gcd (valW (wd q.num)).natAbs (valS (dig q.den))=1;rw[valW_wd,valS_dig];exact q.reduced
theorem valR_rd(q:Rat):valR (rd q)=q:=by
 show mkRat (valW (wd q.num)) (valS (dig q.den))=q;rw[valW_wd,valS_dig,Rat.mkRat_self]
theorem rd_mk{n:Int}{d:Nat}(h:d≠0)(hc:Nat.gcd n.natAbs d=1):rd (mkRat n d)=(wd n,dig d):=by
 have e:mkRat n d=⟨n,d,h,hc⟩:=(Rat.mk_eq_mkRat n d h hc).symm;unfold rd rdN rdD;rw[e]
theorem rd_valR{p:List UInt8×List UInt8}(h:isR p=true):rd (valR p)=p:=by
 obtain⟨h1,h2,h3,h4⟩:=isR_parts h;unfold valR;rw[rd_mk h3 h4,wd_valW h1,dig_valS h2]
theorem valR_num{p:List UInt8×List UInt8}(h:isR p=true):(valR p).num=valW p.1:=by
 have e:=congrArg (fun x=>valW x.1) (rd_valR h);have e':valW (wd (valR p).num)=valW p.1:=e
 rwa[valW_wd]at e'
theorem valR_den{p:List UInt8×List UInt8}(h:isR p=true):(valR p).den=valS p.2:=by
 have e:=congrArg (fun x=>valS x.2) (rd_valR h);have e':valS (dig (valR p).den)=valS p.2:=e
 rwa[valS_dig]at e'
def makeR(n d:List UInt8):(List UInt8×List UInt8)×Bool:=if (isW n&&isW d)&&!(valW d==0) then (rd (Rat.divInt (valW n) (valW d)),true) else (([],[]),false)
def sgnQ(q:Rat):Int:=if q.num<0 then -1 else if q.num=0 then 0 else 1
def sgnR(p:List UInt8×List UInt8):Int:=if isR p then sgnQ (valR p) else 0
def addR(p q:List UInt8×List UInt8):List UInt8×List UInt8:=if isR p&&isR q then rd (valR p+valR q) else ([],[])
def mulR(p q:List UInt8×List UInt8):List UInt8×List UInt8:=if isR p&&isR q then rd (valR p*valR q) else ([],[])
theorem divInt_pos{n d:Int}(hd:0<d):(Rat.divInt n d).num=n / (Nat.gcd n.natAbs d.natAbs:Int)∧((Rat.divInt n d).den:Int)=d / (Nat.gcd n.natAbs d.natAbs:Int):=by
 obtain⟨e,rfl⟩:∃e:Nat,d=(e:Int):=⟨d.toNat,by omega⟩;have he:e≠0:=by omega
 rw[Rat.divInt_ofNat,Rat.num_mkRat,Rat.den_mkRat,if_neg he,if_neg he];have:((e:Int)).natAbs=e:=rfl;rw[this,Nat.gcd_comm e];exact⟨rfl,by rw[Int.natCast_ediv]⟩
theorem divInt_swap(n d:Int):Rat.divInt (-n) (-d)=Rat.divInt n d:=Rat.neg_divInt_neg n d
theorem divInt_cross_add(p q:Rat):p+q=Rat.divInt (p.num*(q.den:Int)+q.num*(p.den:Int)) ((p.den:Int)*(q.den:Int)):=by
 rw[Rat.add_def',← Rat.divInt_ofNat,Int.natCast_mul]
theorem divInt_cross_mul(p q:Rat):p*q=Rat.divInt (p.num*q.num) ((p.den:Int)*(q.den:Int)):=by
 rw[Rat.mul_def',← Rat.divInt_ofNat,Int.natCast_mul]
theorem num_neg_iff(q:Rat):q.num<0↔q<0:=by
 rw[←Rat.not_le,← Rat.num_nonneg];omega
theorem sgnQ_neg{q:Rat}(h:q<0):sgnQ q=-1:=by unfold sgnQ;rw[if_pos ((num_neg_iff q).2 h)]
theorem sgnQ_pos{q:Rat}(h:0<q):sgnQ q=1:=by
 have h1:¬q.num<0:=fun e=>Rat.lt_irrefl (Rat.lt_of_le_of_ne (Rat.le_trans (Rat.le_of_lt ((num_neg_iff q).1 e)) (Rat.le_of_lt h)) (fun e2=>by
  have hq:q<0:=(num_neg_iff q).1 e;exact(Rat.not_lt.2 (Rat.le_of_lt h)) hq))
 have h2:¬q.num=0:=fun e=>Rat.lt_irrefl (by rw[Rat.num_eq_zero.1 e]at h;exact h);unfold sgnQ;rw[if_neg h1,if_neg h2]
theorem rat_cases(q:Rat):q<0∨q=0∨0<q:=by
 by_cases h:0≤q
 ·by_cases e:q=0
  ·exact .inr (.inl e)
  ·exact .inr (.inr (Rat.lt_of_le_of_ne h (fun e2=>e e2.symm)))
 ·exact .inl (Rat.not_le.1 h)
theorem sgnQ_eq_zero{q:Rat}:sgnQ q=0↔q=0:=by
 constructor
 ·intro h;rcases rat_cases q with h1|h1|h1
  ·rw[sgnQ_neg h1]at h;cases h
  ·exact h1
  ·rw[sgnQ_pos h1]at h;cases h
 ·rintro rfl;rfl
def alR(p q:List UInt8×List UInt8):List UInt8×List UInt8:=if isR p&&isR q then (wd ((valR p).num*((valR q).den:Int)),wd ((valR q).num*((valR p).den:Int))) else ([],[])
theorem nat48{d:List UInt8}(h:isNat d=true):(d == [48])=(valS d==0):=by
 by_cases e:valS d=0
 ·rw[nat_zero h e];rfl
 ·rw[beq_false_of_ne e];refine beq_false_of_ne (fun e2=>e ?_);rw[e2];rfl
theorem dig49(g:Nat):(dig g == [49])=decide (g=1):=by
 by_cases e:g=1
 ·subst e;rw[dig_1];rfl
 ·rw[decide_eq_false e];refine beq_false_of_ne (fun e2=>e (dig_inj ?_));rw[e2,dig_1]
theorem may_eq{n d:List UInt8}(h:d≠[48]):(gcdS (absW n) d == [49])=isR (n,d):=by
 unfold isR;show _=((isW n&&isNat d)&&(!(valS d==0)&&decide (Nat.gcd (valW n).natAbs (valS d)=1)))
 cases hn:isW n with
 | false =>
  have e:absW n=[]:=by unfold absW;rw[hn];rfl
  rw[e];rfl
 | true =>
  have e:absW n=dig (valW n).natAbs:=by unfold absW;rw[hn];rfl
  rw[e]
  cases hd:isNat d with
  | false=>unfold gcdS;rw[hd,Bool.and_false];rfl
  | true =>
   have h0:(valS d==0)=false:=by rw[←nat48 hd];exact beq_false_of_ne h
   unfold gcdS;rw[isNat_dig,hd,h0,valS_dig];exact dig49 _
theorem may_48(n:List UInt8):isR (n,[48])=false:=by
 unfold isR;show ((isW n&&isNat [48])&&(!(valS [48]==0)&&_))=false;rw[show (valS [48]==0)=true from rfl,Bool.not_true,Bool.false_and,Bool.and_false]
theorem absW_len(l:List UInt8):(absW l).length≤l.length:=by
 unfold absW
 cases h:isW l with
 | false=>exact Nat.zero_le _
 | true=>exact wd_len h
theorem sgnW_zero{d:List UInt8}:sgnW d=0↔(isW d&&!(valW d==0))=false:=by
 unfold sgnW
 cases isW d with
 | false=>simp
 | true =>
  rcases Int.lt_trichotomy (valW d) 0 with h|h|h
  ·rw[if_pos rfl,if_pos h,beq_false_of_ne (by omega)];decide
  ·rw[h];decide
  ·rw[if_pos rfl,if_neg (by omega),if_neg (by omega),beq_false_of_ne (by omega)];decide
theorem makeR_no{n d:List UInt8}(h:((isW n&&isW d)&&!(valW d==0))=false):makeR n d=(([],[]),false):=by unfold makeR;rw[h];rfl
theorem makeR_yes{n d:List UInt8}(h1:isW n=true)(h2:isW d=true)(h3:valW d≠0):makeR n d=(rd (Rat.divInt (valW n) (valW d)),true):=by
 unfold makeR;rw[h1,h2,beq_false_of_ne h3];rfl
theorem rd_divInt{n:Int}{d:Nat}(hd:d≠0):rd (Rat.divInt n (d:Int))=(wd (n / (Nat.gcd n.natAbs d:Int)),dig (d / Nat.gcd n.natAbs d)):=by
 have h:=divInt_pos (n:=n) (d:=(d:Int)) (by omega);rw[Int.natAbs_natCast]at h;unfold rd rdN rdD;rw[h.1]
 congr 2
 have h2:=h.2;rw[←Int.natCast_ediv]at h2;exact Int.ofNat.inj h2
theorem den_pos(q:Rat):0<(q.den:Int):=by have:=q.den_nz;omega
theorem den_mul_pos(p q:Rat):0<(p.den:Int)*(q.den:Int):=Int.mul_pos (den_pos p) (den_pos q)
theorem isR_den{p:List UInt8×List UInt8}(h:isR p=true):p.2=dig (valR p).den∧p.1=wd (valR p).num:=by
 have e:=rd_valR h;exact⟨(congrArg Prod.snd e).symm,(congrArg Prod.fst e).symm⟩
theorem isR_isW{p:List UInt8×List UInt8}(h:isR p=true):isW p.1=true:=(isR_parts h).1
theorem isR_isN{p:List UInt8×List UInt8}(h:isR p=true):isNat p.2=true:=(isR_parts h).2.1
theorem alR_yes{p q:List UInt8×List UInt8}(hp:isR p=true)(hq:isR q=true):alR p q=(wd ((valR p).num*((valR q).den:Int)),wd ((valR q).num*((valR p).den:Int))):=by unfold alR;rw[hp,hq];rfl
theorem alR_no{p q:List UInt8×List UInt8}(h:(isR p&&isR q)=false):alR p q=([],[]):=by unfold alR;rw[h];rfl
theorem mulW_ww(a b:Int):mulW (wd a) (wd b)=wd (a*b):=by unfold mulW;rw[isW_wd,isW_wd,valW_wd,valW_wd];rfl
theorem mulW_wd(a:Int)(b:Nat):mulW (wd a) (dig b)=wd (a*(b:Int)):=by unfold mulW;rw[isW_wd,isW_dig,valW_wd,valW_dig];rfl
theorem mulW_dd(a b:Nat):mulW (dig a) (dig b)=wd ((a:Int)*(b:Int)):=by unfold mulW;rw[isW_dig,isW_dig,valW_dig,valW_dig];rfl
theorem mulS_dd(a b:Nat):mulS (dig a) (dig b)=wd ((a:Int)*(b:Int)):=by unfold mulS;rw[isNat_dig,isNat_dig,valS_dig,valS_dig,← Int.natCast_mul,wd_nat];rfl
theorem addW_ww(a b:Int):addW (wd a) (wd b)=wd (a+b):=by unfold addW;rw[isW_wd,isW_wd,valW_wd,valW_wd];rfl
theorem makeR_ww{a b:Int}(h:b≠0):makeR (wd a) (wd b)=(rd (Rat.divInt a b),true):=by rw[makeR_yes (isW_wd a) (isW_wd b) (by rw[valW_wd];exact h),valW_wd,valW_wd]
theorem makeR_nil(d:List UInt8):makeR [] d=(([],[]),false):=makeR_no rfl
theorem al_both{p q:List UInt8×List UInt8}(hp:isR p=true)(hq:isR q=true):(mulW p.1 q.2,mulW q.1 p.2)=alR p q:=by
 rw[alR_yes hp hq,(isR_den hp).1,(isR_den hp).2,(isR_den hq).1,(isR_den hq).2,mulW_wd,mulW_wd]
theorem al_add(p q:List UInt8×List UInt8):(makeR (addW (alR p q).1 (alR p q).2) (mulW p.2 q.2)).1=addR p q:=by
 cases h:isR p&&isR q with
 | false=>rw[alR_no h];unfold addR;rw[h];exact congrArg Prod.fst (makeR_nil _)
 | true =>
  have h':=h;rw[Bool.and_eq_true]at h;unfold addR;rw[alR_yes h.1 h.2,h',addW_ww,(isR_den h.1).1,(isR_den h.2).1,mulW_dd,makeR_ww (Int.ne_of_gt (den_mul_pos _ _))];rw[divInt_cross_add];rfl
theorem al_mul{p q:List UInt8×List UInt8}(hp:isR p=true)(hq:isR q=true):(makeR (mulW p.1 q.1) (mulW p.2 q.2)).1=mulR p q:=by
 unfold mulR;rw[hp,hq];have e:makeR (mulW p.1 q.1) (mulW p.2 q.2)=(rd (Rat.divInt ((valR p).num*(valR q).num) (((valR p).den:Int)*((valR q).den:Int))),true):=by
  conv=>lhs;rw[(isR_den hp).1,(isR_den hp).2,(isR_den hq).1,(isR_den hq).2,mulW_dd,mulW_ww]
  exact makeR_ww (Int.ne_of_gt (den_mul_pos _ _))
 rw[e,divInt_cross_mul];rfl
theorem mulR_no{p q:List UInt8×List UInt8}(h:(isR p&&isR q)=false):mulR p q=([],[]):=by unfold mulR;rw[h];rfl
end Go.Proofs.YthgopcnagecbaaaGreatDoor
