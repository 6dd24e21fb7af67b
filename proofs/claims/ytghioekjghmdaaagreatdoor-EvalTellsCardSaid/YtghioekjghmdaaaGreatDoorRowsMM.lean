/- Own work. -/
import Derived.Test.YtghioekjghmdaaaGreatDoorTk
import Derived.Test.YtghioekjghmdaaaGreatDoorAllRefD5M
import Derived.ScopeJumps
import Derived.Lib.Repeat
import Derived.Lib.TrimByte
import Derived.Test.YtghioekjghmdaaaGreatDoorAllRat2
import Derived.Handed
import Derived.Lay
import Derived.Stop.LaidErr
import Derived.Shelf.Vars
import Derived.Test.YtghioekjghmdaaaGreatDoorOpenQ
import Derived.Deep.RegionHeld3
import Derived.OrdersHeld
import Derived.Lib.AppendZeros
import Derived.Laws.AppendOwnNone
import Derived.Maps.AppendAt
import Derived.Below
import Derived.OwnWalk
import Derived.Test.YtghioekjghmdaaaGreatDoorAllRat
set_option linter.unusedSimpArgs false
set_option linter.unusedVariables false
namespace Go.Proofs.YtghioekjghmdaaaGreatDoor
theorem strip_pow{p:Nat}(h1:1<p){m:Nat}(hm:0<m)(h:m % p≠0):∀A,strip p (p ^ A*m)=(A,m)
 | 0=>by rw[Nat.pow_zero,Nat.one_mul,strip_no h]
 | A+1=>by
  have hp:0<p:=by omega
  have e:p ^ (A+1)*m=p*(p ^ A*m):=by rw[Nat.pow_succ,Nat.mul_comm (p ^ A) p,Nat.mul_assoc]
  have hpos:0<p ^ A*m:=Nat.mul_pos (Nat.pow_pos hp) hm;rw[e,strip_yes h1 (Nat.mul_pos hp hpos) (Nat.mul_mod_right _ _),Nat.mul_div_cancel_left _ hp,strip_pow h1 hm h A]
theorem plc_is{A B r:Nat}(hr:0<r)(h2:r % 2≠0)(h5:r % 5≠0):plc (2 ^ A*(5 ^ B*r))=if r=1 then some (max A B) else none:=by
 have h3:(5 ^ B*r) % 2≠0:=by
  rw[Nat.mul_mod,Nat.pow_mod];show (1 ^ B % 2)*(r % 2) % 2≠0;rw[Nat.one_pow];omega
 have hp:0<5 ^ B*r:=Nat.mul_pos (Nat.pow_pos (by decide)) hr;unfold plc;rw[strip_pow (by decide) hp h3];show (if (strip 5 (5 ^ B*r)).2=1 then _ else _)=_;rw[strip_pow (by decide) hr h5]
def onS(b e d:Nat):Nat×Nat:=((strip b d).2,e*(strip b d).1)
theorem on_no{b e d:Nat}(h:d % b≠0):onS b e d=(d,0):=by unfold onS;rw[strip_no h];rfl
theorem on_yes{b e d:Nat}(h1:1<b)(h2:0<d)(h:d % b=0):onS b e d=((onS b e (d / b)).1,e+(onS b e (d / b)).2):=by
 unfold onS;rw[strip_yes h1 h2 h];exact Prod.ext rfl (by show e*((strip b (d / b)).1+1)=e+e*(strip b (d / b)).1;rw[Nat.mul_succ,Nat.add_comm])
theorem on_spec{b e d:Nat}(h1:1<b)(h2:0<d):d=b ^ (strip b d).1*(onS b e d).1∧(onS b e d).1 % b≠0∧0<(onS b e d).1:=strip_spec h1 d h2
theorem mod_of_mul{a b c p:Nat}(h:a=b*c)(hp:a % p≠0):c % p≠0:=fun e=>hp (by rw[h,Nat.mul_mod,e,Nat.mul_zero,Nat.zero_mod])
def leftS(d:Nat):Nat:=(onS 5 1 (onS 244140625 12 (onS 2 1 (onS 536870912 29 (onS 10 1 d).1).1).1).1).1
def cntS(d:Nat):Nat:=(onS 10 1 d).2+(onS 536870912 29 (onS 10 1 d).1).2+(onS 2 1 (onS 536870912 29 (onS 10 1 d).1).1).2+(onS 244140625 12 (onS 2 1 (onS 536870912 29 (onS 10 1 d).1).1).1).2+(onS 5 1 (onS 244140625 12 (onS 2 1 (onS 536870912 29 (onS 10 1 d).1).1).1).1).2
theorem walk_is{d:Nat}(hd:0<d):plc d=if leftS d=1 then some (cntS d) else none:=by
 obtain⟨z1,z2,z3⟩:=on_spec (e:=1) (show 1<10 by decide) hd;have c1:(onS 10 1 d).2=(strip 10 d).1:=Nat.one_mul _;obtain⟨a1,a2,a3⟩:=on_spec (e:=29) (show 1<536870912 by decide) z3;have c2:(onS 536870912 29 (onS 10 1 d).1).2=29*(strip 536870912 (onS 10 1 d).1).1:=rfl;obtain⟨b1,b2,b3⟩:=on_spec (e:=1) (show 1<2 by decide) a3;have c3:(onS 2 1 (onS 536870912 29 (onS 10 1 d).1).1).2=(strip 2 (onS 536870912 29 (onS 10 1 d).1).1).1:=Nat.one_mul _;obtain⟨e1,e2,e3⟩:=on_spec (e:=12) (show 1<244140625 by decide) b3;have c4:(onS 244140625 12 (onS 2 1 (onS 536870912 29 (onS 10 1 d).1).1).1).2=12*(strip 244140625 (onS 2 1 (onS 536870912 29 (onS 10 1 d).1).1).1).1:=rfl;obtain⟨f1,f2,f3⟩:=on_spec (e:=1) (show 1<5 by decide) e3;have c5:(onS 5 1 (onS 244140625 12 (onS 2 1 (onS 536870912 29 (onS 10 1 d).1).1).1).1).2=(strip 5 (onS 244140625 12 (onS 2 1 (onS 536870912 29 (onS 10 1 d).1).1).1).1).1:=Nat.one_mul _;unfold leftS cntS;rw[c1,c2,c3,c4,c5];generalize (onS 5 1 (onS 244140625 12 (onS 2 1 (onS 536870912 29 (onS 10 1 d).1).1).1).1).1=r at *;generalize (strip 5 (onS 244140625 12 (onS 2 1 (onS 536870912 29 (onS 10 1 d).1).1).1).1).1=n5 at *;generalize (onS 244140625 12 (onS 2 1 (onS 536870912 29 (onS 10 1 d).1).1).1).1=m4 at *;generalize (strip 244140625 (onS 2 1 (onS 536870912 29 (onS 10 1 d).1).1).1).1=n4 at *;generalize (onS 2 1 (onS 536870912 29 (onS 10 1 d).1).1).1=m3 at *;generalize (strip 2 (onS 536870912 29 (onS 10 1 d).1).1).1=n3 at *;generalize (onS 536870912 29 (onS 10 1 d).1).1=m2 at *
 generalize (strip 536870912 (onS 10 1 d).1).1=n2 at *;generalize (onS 10 1 d).1=m1 at *;generalize (strip 10 d).1=n1 at *;clear c1 c2 c3 c4 c5;have hr2:r % 2≠0:=mod_of_mul f1 (mod_of_mul e1 b2);have g1:m3=5 ^ (12*n4+n5)*r:=by
  rw[e1,f1,← Nat.mul_assoc,Nat.pow_add,Nat.pow_mul]
 have g2:m1=2 ^ (29*n2+n3)*m3:=by
  rw[a1,b1,← Nat.mul_assoc,Nat.pow_add,Nat.pow_mul]
 obtain⟨B,hB⟩:∃B,12*n4+n5=B:=⟨_,rfl⟩;rw[hB]at g1;have hor:29*n2+n3=0∨B=0:=by
  rcases Nat.eq_zero_or_pos (29*n2+n3) with h|h
  ·exact .inl h
  rcases Nat.eq_zero_or_pos B with k|k
  ·exact .inr k
  exfalso;apply z2;obtain⟨A,hA⟩:∃A,29*n2+n3=A+1:=⟨29*n2+n3-1,by omega⟩;obtain⟨C,hC⟩:∃C,B=C+1:=⟨B-1,by omega⟩;rw[g2,g1,hA,hC,Nat.pow_succ,Nat.pow_succ];have e:2 ^ A*2*(5 ^ C*5*r)=10*(2 ^ A*(5 ^ C*r)):=by
   rw[Nat.mul_comm (2 ^ A) 2,Nat.mul_comm (5 ^ C) 5,Nat.mul_assoc 5,Nat.mul_assoc 2,Nat.mul_left_comm (2 ^ A) 5,← Nat.mul_assoc 2 5]
  rw[e,Nat.mul_mod_right]
 have g3:d=2 ^ (n1+(29*n2+n3))*(5 ^ (n1+B)*r):=by
  rw[z1,ten_pow,g2,g1,Nat.pow_add 2 n1,Nat.pow_add 5 n1];rw[Nat.mul_assoc (2 ^ n1) (5 ^ n1),Nat.mul_assoc (2 ^ n1) (2 ^ (29*n2+n3)),Nat.mul_left_comm (5 ^ n1),Nat.mul_assoc (5 ^ n1)]
 rw[g3,plc_is f3 hr2 f2];by_cases h:r=1
 ·rw[if_pos h,if_pos h]
  congr 1
  rcases hor with k|k<;>omega
 ·rw[if_neg h,if_neg h]
theorem dig_tens{n:Nat}(h:0<n)(k:Nat):dig (n*10 ^ k)=dig n++List.replicate k 48:=by
 induction k with
 | zero=>rw[Nat.pow_zero,Nat.mul_one,List.replicate_zero,List.append_nil]
 | succ k ih =>
  have hp:0<n*10 ^ k:=Nat.mul_pos h (Nat.pow_pos (by decide));have e:n*10 ^ (k+1)=10*(n*10 ^ k):=by rw[Nat.pow_succ,Nat.mul_comm (10 ^ k),Nat.mul_left_comm]
  rw[e,dig_big (by omega),Nat.mul_div_cancel_left _ (by decide),ih,List.replicate_succ',← List.append_assoc]
  congr 2
  unfold digN;rw[Nat.mul_mod_right]
  rfl
theorem dig_last{n:Nat}(h:n % 10≠0):∃l c,dig n=l++[c]∧c≠48:=by
 have hc:digN n≠48:=fun e=>by
  have:=congrArg UInt8.toNat e;rw[digN_toNat]at this;have h2:(48:UInt8).toNat=48:=rfl;omega
 by_cases h1:n<10
 ·exact⟨[],digN n,by rw[dig_small h1];rfl,hc⟩
 ·exact⟨dig (n / 10),digN n,dig_big h1,hc⟩
theorem drop_zeros_rep(k:Nat)(l:List UInt8){c:UInt8}(hc:c≠48):(List.replicate k 48++c::l).dropWhile (·==48)=c::l:=by
 induction k with
 | zero =>
  rw[List.replicate_zero,List.nil_append];exact List.dropWhile_cons_of_neg (by simpa using hc)
 | succ k ih =>
  rw[List.replicate_succ,List.cons_append,List.dropWhile_cons_of_pos (by simp),ih]
theorem trim_tens{d:Nat}(hd:0<d):((dig d).reverse.dropWhile (·==48)).reverse=dig (onS 10 1 d).1∧(dig d).length=(dig (onS 10 1 d).1).length+(onS 10 1 d).2:=by
 obtain⟨z1,z2,z3⟩:=on_spec (e:=1) (show 1<10 by decide) hd;have c1:(onS 10 1 d).2=(strip 10 d).1:=Nat.one_mul _;rw[c1];have e:dig d=dig (onS 10 1 d).1++List.replicate (strip 10 d).1 48:=by
  conv=>lhs;rw[z1]
  rw[Nat.mul_comm,dig_tens z3]
 refine⟨?_,by rw[e,List.length_append,List.length_replicate]⟩;rw[e];obtain⟨l,c,h1,h2⟩:=dig_last z2;rw[h1,List.reverse_append,List.reverse_append,List.reverse_replicate];show ((List.replicate (strip 10 d).1 48++c::l.reverse).dropWhile _).reverse=_;rw[drop_zeros_rep _ _ h2,List.reverse_cons,List.reverse_reverse]
theorem on_le{b e d:Nat}(h1:1<b)(h2:0<d):(onS b e d).1≤d:=by
 have h:=(on_spec (e:=e) h1 h2).1
 conv=>rhs;rw[h]
 exact Nat.le_mul_of_pos_left _ (Nat.pow_pos (by omega))
theorem den_divides{x:Rat}{k:Nat}(h:plc x.den=some k):x.den∣10 ^ k:=(plc_dvd (Nat.pos_of_ne_zero x.den_nz)).2 ⟨k,h,Nat.le_refl _⟩
theorem tens_div{x:Rat}{k:Nat}(h:plc x.den=some k):x.num.natAbs*10 ^ k / x.den=x.num.natAbs*(10 ^ k / x.den):=Nat.mul_div_assoc _ (den_divides h)
theorem num_zero_den{x:Rat}(h:x.num=0):x.den=1:=by rw[Rat.num_eq_zero.1 h];rfl
theorem num_tens{x:Rat}{k:Nat}(h:plc x.den=some k):dig x.num.natAbs++List.replicate k 48=dig (x.num.natAbs*10 ^ k):=by
 by_cases h0:x.num=0
 ·have hk:k=0:=by
   rw[num_zero_den h0]at h;have:=(plc_dvd (d:=1) (k:=0) (by decide)).1 (Nat.dvd_refl _);obtain⟨m,hm,hm0⟩:=this;rw[hm]at h;have:=Option.some.inj h;omega
  subst hk;rw[List.replicate_zero,List.append_nil,Nat.pow_zero,Nat.mul_one]
 ·rw[dig_tens (by omega)]
def bodyD(k:Nat)(s:List UInt8):List UInt8:=if k=0 then s else ptD k (padD (k+1) s)
theorem prD_body{x:Rat}{k:Nat}(h:plc x.den=some k):prD x=sgnD (decide (x.num<0)) (bodyD k (dig (x.num.natAbs*(10 ^ k / x.den)))):=by
 by_cases hk:k=0
 ·subst hk;have h1:x.den=1:=Nat.dvd_one.1 (by have:=den_divides h;rwa[Nat.pow_zero]at this);unfold bodyD;rw[prD_zero h,if_pos rfl,h1,Nat.pow_zero,Nat.div_one,Nat.mul_one,sgn_wd]
 ·unfold bodyD;rw[prD_some h hk,if_neg hk]
end Go.Proofs.YtghioekjghmdaaaGreatDoor
set_option maxHeartbeats 1000000
set_option maxRecDepth 100000
namespace Go.Proofs.YtghioekjghmdaaaGreatDoor
open Go.RowKit
structure GoodD(w:World):Prop where
 max:∃m,w.cell? ⟨2,0,none⟩=some (.int .i64 m)
 p0:w.cell? ⟨3,0,none⟩=some (.string ⟨#[53,51,54,56,55,48,57,49,50]⟩)
 p1:w.cell? ⟨3,1,none⟩=some (.int .i64 29)
 p2:w.cell? ⟨3,2,none⟩=some (.string ⟨#[50]⟩)
 p3:w.cell? ⟨3,3,none⟩=some (.int .i64 1)
 p4:w.cell? ⟨3,4,none⟩=some (.string ⟨#[50,52,52,49,52,48,54,50,53]⟩)
 p5:w.cell? ⟨3,5,none⟩=some (.int .i64 12)
 p6:w.cell? ⟨3,6,none⟩=some (.string ⟨#[53]⟩)
 p7:w.cell? ⟨3,7,none⟩=some (.int .i64 1)
 lm:2<w.heap.size
 lp:3<w.heap.size
theorem GoodD.below{w w':World}(h:GoodD w)(hb:Below w.heap.size w w'):GoodD w' :=
 ⟨h.max.imp fun _ e=>(hb.cell (p:=⟨2,0,none⟩) h.lm).trans e,
  (hb.cell (p:=⟨3,0,none⟩) h.lp).trans h.p0,(hb.cell (p:=⟨3,1,none⟩) h.lp).trans h.p1,
  (hb.cell (p:=⟨3,2,none⟩) h.lp).trans h.p2,(hb.cell (p:=⟨3,3,none⟩) h.lp).trans h.p3,
  (hb.cell (p:=⟨3,4,none⟩) h.lp).trans h.p4,(hb.cell (p:=⟨3,5,none⟩) h.lp).trans h.p5,
  (hb.cell (p:=⟨3,6,none⟩) h.lp).trans h.p6,(hb.cell (p:=⟨3,7,none⟩) h.lp).trans h.p7,
  Nat.lt_of_lt_of_le h.lm hb.size,Nat.lt_of_lt_of_le h.lp hb.size⟩
theorem repeat_any(k:Nat)(w:World)(hk:k≤4000000) :
  Calls Tryz.prog 183 #[.string ⟨#[48]⟩,.int .i64 (k:Int)] w (GiveS w (List.replicate k 48)):=by
 have c:=Tryz.strings_Repeat ⟨#[48]⟩ k w (by omega) (by show 1*k≤_;omega);have e:Lib.repeatL (⟨#[48]⟩:ByteArray).data.toList k=List.replicate k 48:=by
  have h:=Lib.repeatL_replicate 48 1 k;rw[Nat.mul_one]at h;exact h
 rw[e]at c;exact c
theorem pad_text2(k:Nat)(l:List UInt8)(S:ByteArray)(hS:S.data.toList=l):((⟨(List.replicate (k+1-l.length) 48).toArray⟩:ByteArray)++S).data.toList=padD (k+1) l:=by
 rw[ba_append,hS];rfl
theorem pt_text2{S:ByteArray}{k M:Nat}{l:List UInt8}(hs:S.data.toList=l)(hm:S.size=M+k) :
  S.extract 0 M++(⟨#[46]⟩:ByteArray)++S.extract M S.size=⟨(ptD k l).toArray⟩:=by
 have h:=pt_text (S:=S) (sg:=⟨#[]⟩) (b:=false) hs hm rfl;have e:(⟨#[]⟩:ByteArray)++S.extract 0 M=S.extract 0 M:=bytes_eq (by rw[ba_append];rfl);rw[e]at h;exact h
theorem pointed_any(s:ByteArray)(k:Nat)(w:World)(hs:s.size≤1000000)(hk:k≤1000000) :
  Calls Tryz.prog 184 #[.string s,.int .i64 (k:Int)] w (GiveS w (bodyD k s.data.toList)):=by
 by_cases h0:k=0
 ·subst h0;have hr:bodyD 0 s.data.toList=s.data.toList:=rfl;rw[hr];go_enter Tryz.func184,Tryz.ntmps184;go_wp2_with fail;go_ret;exact⟨ret_str (same_text s),Below.refl _ _⟩
 ·have hr:bodyD k s.data.toList=ptD k (padD (k+1) s.data.toList):=by unfold bodyD;rw[if_neg h0]
  rw[hr];have hk':¬(k:Int)=0:=by omega
  have hmx:max (0:Int) ((k:Int)+1-(s.size:Int))=((k+1-s.size:Nat):Int):=by omega
  have c0:∀w,Calls Tryz.prog 183 #[.string ⟨#[48]⟩,.int .i64 ((k+1-s.size:Nat):Int)] w fun e w'=>e=.returned (.string ⟨(List.replicate (k+1-s.size) 48).toArray⟩)∧Below w.heap.size w w':=fun w=>repeat_any _ w (by omega);have hp:((⟨(List.replicate (k+1-s.size) 48).toArray⟩:ByteArray)++s).data.toList=padD (k+1) s.data.toList:=pad_text2 k s.data.toList s rfl;have hz:(⟨(List.replicate (k+1-s.size) 48).toArray⟩:ByteArray).size=k+1-s.size:=by rw[size_of,List.length_replicate]
  generalize (⟨(List.replicate (k+1-s.size) 48).toArray⟩:ByteArray)=Z at *;obtain⟨M,hm⟩:∃M,k+1-s.size+s.size=M+k:=⟨k+1-s.size+s.size-k,by omega⟩;have hzs:(Z++s).size=M+k:=by rw[ByteArray.size_append,hz,hm]
  have hr2:=pt_text2 (k:=k) hp hzs;have hMb:M≤2000000:=by omega
  have hmi:(Z.size:Int)+(s.size:Int)-(k:Int)=(M:Int):=by omega
  have hx2:¬9223372036854775807<Z.size+s.size:=by omega
  have hx3:Z.size+s.size=M+k:=by omega
  have C0:=zh c0;have HR:=zh hr2
  clear c0 hr2 hp hr h0 hz hm;go_enter Tryz.func184,Tryz.ntmps184;go_wp2_with fail;refine(C0.out _).mono ?_;rintro e w1 ⟨rfl,b⟩;clear hmx;go_wp2_with fail;clear hx3 hmi hx2;generalize Z++s=T at *
  go_quiet (fail)
  go_wp2_with fail;go_ret;exact⟨ret_str (by have:=HR.out;rw[hzs]at this;exact this),Below.drewN (by with_reducible assumption) _⟩
end Go.Proofs.YtghioekjghmdaaaGreatDoor
set_option maxRecDepth 100000
namespace Go.Proofs.YtghioekjghmdaaaGreatDoor
open Go.ChangeShapes Go.WideShapes Go.RowKit Go.Joins
section
variable {H : Type} {enc : TypeId × Value → H}
end
theorem gPow : Tryz.prog.globalNamed "debenture/decimal.powers" = some 3 := by kernel_rfl
theorem gPowType:(Tryz.prog.globals[3]?).map (·.type)=some 193:=by kernel_rfl
theorem cellsPow:Tryz.prog.cellsOf 193=8:=by kernel_rfl
theorem cellsPair:Tryz.prog.cellsOf 192=2:=by kernel_rfl
theorem cellsIntD:Tryz.prog.cellsOf 3=1:=by kernel_rfl
theorem pair_cells{W:World}{fuel:Nat}{a b:Value}{l:List UInt8}{z:Int}{x:DataW Unit×List MemPlace}(h:DataW.trod (fun _=>()) Tryz.prog W 0 (fun _=>true) false fuel 192 [a,b]=some x)(hx:x.1=.agg [.lit (.string l),.lit (.int .i64 z)]) :
  a=.string ⟨l.toArray⟩∧b=.int .i64 z:=by
 obtain⟨y0,y1,n,rfl,_,h0,h1⟩:=trod_struct2 Tryz.underlying192 h;rw[show Tryz.prog.cellsOf _=1 from cellsStr]at h0;rw[show Tryz.prog.cellsOf _=1 from cellsIntD]at h1;obtain⟨s,e0,rfl,_⟩:=DataW.trod_string Tryz.underlying9 h0;obtain⟨m,e1,rfl,_⟩:=DataW.trod_int Tryz.underlying3 h1;have f0:[a]=[Value.string s]:=e0;have f1:[b]=[Value.int .i64 m]:=e1;simp only[DataW.agg.injEq,List.cons.injEq,DataW.lit.injEq,Lit.string.injEq,Lit.int.injEq,and_true,true_and]at hx;obtain⟨hl,hz⟩:=hx;refine⟨?_,?_⟩
 ·rw[List.cons.inj f0 |>.1,← hl]
 ·rw[List.cons.inj f1 |>.1,hz]
theorem goodD_of {x0 : String × DataW Unit} {r : List (String × DataW Unit)} {W : World} (hL : laidMet Tryz.prog (x0 :: ("debenture/decimal.powers", Rows.laid_debenture_decimal_powers) :: r) W) (hS : W.ShapedOpen Tryz.prog) : GoodD W := by
 have hM:∃m,W.cell? ⟨2,0,none⟩=some (.int .i64 m):=cell_of_shapedOpen_int (zero:=#[.int .i64 0]) (t:=3) hS (of_decide_eq_true (by kernel_rfl)) (by kernel_rfl) rfl (by kernel_rfl) (by kernel_rfl) Tryz.underlying3;obtain⟨_,⟨g,t,cs,fuel,p,_,hg,ht,hv,hd,_,_⟩,_⟩:=hL.tail;obtain rfl:=Option.some.inj (gPow.symm.trans hg);obtain rfl:=Option.some.inj (gPowType.symm.trans ht);obtain⟨xs,m,_,hx,hl,hxl,hi⟩:=DataW.trod_array Tryz.underlying193 hd;rw[cellsPow]at hl;have h0:=hi 0 (by decide);have h1:=hi 1 (by decide);have h2:=hi 2 (by decide);have h3:=hi 3 (by decide);rw[cellsPair]at h0 h1 h2 h3;have hc:∀j,W.cell? ⟨3,j,none⟩=cs.toList[j]?:=fun j=>by
  rw[World.var?_cell gPow hv j,Array.getElem?_toList]
 have hlt:=var_lt gPow hv;generalize cs.toList=L at *
 match L,hl with
 | [a0,b0,a1,b1,a2,b2,a3,b3],_ =>
  match xs,hxl with
  | [y0,y1,y2,y3],_ =>
   have ha:=(Prod.mk.inj hx).1;have ha:Rows.laid_debenture_decimal_powers=DataW.agg [y0.1,y1.1,y2.1,y3.1]:=ha;unfold Rows.laid_debenture_decimal_powers at ha;simp only[DataW.agg.injEq,List.cons.injEq,and_true]at ha;obtain⟨k0,k1,k2,k3⟩:=ha;obtain⟨u0,v0⟩:=pair_cells h0 k0.symm;obtain⟨u1,v1⟩:=pair_cells h1 k1.symm;obtain⟨u2,v2⟩:=pair_cells h2 k2.symm;obtain⟨u3,v3⟩:=pair_cells h3 k3.symm;refine⟨hM,?_,?_,?_,?_,?_,?_,?_,?_,?_,hlt⟩
   ·rw[hc,u0];rfl
   ·rw[hc,v0];rfl
   ·rw[hc,u1];rfl
   ·rw[hc,v1];rfl
   ·rw[hc,u2];rfl
   ·rw[hc,v2];rfl
   ·rw[hc,u3];rfl
   ·rw[hc,v3];rfl
   ·obtain⟨m,hm⟩:=hM;exact World.block_lt_of_cell? W ⟨2,0,none⟩ hm
def Sch(_l:List Nat)(p:Prop):Prop:=p
theorem sch_in(l:List Nat){p:Prop}(h:Sch l p):p:=h
theorem sch_out{p:Prop}(h:p):Sch [] p:=h
section
variable {P : Program} {md : Region.Mode} {ops : Array Oper} {Q : Exit → Act → World → Prop} {S : World → Prop} {i : Nat} {r : List Nat} {oi : Oper} {v : Value} {fuel : Nat} {listed : Array Bool} {a : Act} {w : World}
theorem sch_take(hi:ops[i]?=some oi)(hs:(Region.noSelect ops&&(Region.free md ops listed i&&(Region.ready md ops listed).contains i))=true)
  (hQ:∀c a w,Q (.panic c) (a.put oi.dst v) w→Q (.panic c) a w) (hy:YieldsIf P ops S oi v a) (hS:S w)
  (h:Sch r (wpAnyH P md ops Q S fuel (listed.setIfInBounds i true) (a.put oi.dst v) w)):Sch (i::r) (wpAnyH P md ops Q S (fuel+1) listed a w):=by
 simp only[Bool.and_eq_true]at hs;exact wpAnyH_take hi hs.1 hs.2.1 hs.2.2 hQ hy hS h
theorem sch_yes(hi:ops[i]?=some oi)(hs:(Region.noSelect ops&&(Region.free md ops listed i&&(Region.ready md ops listed).contains i))=true)
  (hw:Region.wanted oi (yielded ops a.tmps)=true) (hy:∀w,S w→(execOp a.eval oi).run P w=.ok (.value v) w) (hS:S w)
  (h:Sch r (wpAnyH P md ops (NoPanic Q) S fuel (listed.setIfInBounds i true) (a.put oi.dst v) w)):Sch (i::r) (wpAnyH P md ops (NoPanic Q) S (fuel+1) listed a w) :=
 sch_take hi hs (fun _ _ _ h=>h) (.inl ⟨hw,hy⟩) hS h
theorem scY {P:Program} {md:Region.Mode} {ops:Array Oper} {Q:Exit→Act→World→Prop} {S:World→Prop} {i:Nat} {r:List Nat} {oi:Oper} {v:Value} {fuel:Nat} {listed:Array Bool} {a:Act} {w:World} (h:Sch r (wpAnyH P md ops (NoPanic Q) S fuel (listed.setIfInBounds i true) (a.put oi.dst v) w)) (hi:ops[i]?=some oi:=by rfl) (hy:∀w,S w→(execOp a.eval oi).run P w=.ok (.value v) w:=by (intro w hSw;(try dsimp only at hSw);go_simp<;>(with_reducible rfl))) (hs:(Region.noSelect ops&&(Region.free md ops listed i&&(Region.ready md ops listed).contains i))=true:=by kernel_rfl) (hw:Region.wanted oi (yielded ops a.tmps)=true:=by rfl) (hS:S w:=by assumption):Sch (i::r) (wpAnyH P md ops (NoPanic Q) S (fuel+1) listed a w):=sch_yes hi hs hw hy hS h
end
end Go.Proofs.YtghioekjghmdaaaGreatDoor
namespace Go.Proofs.YtghioekjghmdaaaGreatDoor
open Go.RowKit
section
variable {α : Type} (enc : α → List Value) (k : Nat)
def RowsG(w:World)(p:Option Addr)(l:List α):Prop:=∀ (j:Nat) (x:α),l[j]?=some x→∃b o,p=some ⟨b,o,none⟩∧b<w.heap.size∧∀i v,(enc x)[i]?=some v→w.cell? ⟨b,o+j*k+i,none⟩=some v
abbrev OwnG(e:TypeId)(B:Nat)(w:World)(v:Value)(l:List α):Prop:=w.ownsRow B e k v l.length (l.flatMap enc)
end
section
variable {α : Type} {enc : α → List Value} {k : Nat}
theorem RowsG.below{w w':World}{p:Option Addr}{l:List α}(h:RowsG enc k w p l)(hb:Below w.heap.size w w'):RowsG enc k w' p l:=fun j x hx=>by
 obtain⟨b,o,hp,hl,c⟩:=h j x hx;exact⟨b,o,hp,Nat.lt_of_lt_of_le hl hb.size,fun i v hv=>(hb.cell (p:=⟨b,_,none⟩) hl).trans (c i v hv)⟩
theorem RowsG.nil(w:World)(p:Option Addr):RowsG enc k w p []:=fun j x h=>by cases h
theorem RowsG.grown{w w':World}{row:Option Nat}{p:Option Addr}{l:List α}(h:RowsG enc k w p l)(hg:w.grownBy w' row)(hr:∀a,p=some a→row≠some a.block):RowsG enc k w' p l:=fun j x hx=>by
 obtain⟨b,o,rfl,hl,c⟩:=h j x hx;have hb:w'.heap[b]?=w.heap[b]?:=hg.block b hl fun e=>hr _ rfl e.symm;exact⟨b,o,rfl,Nat.lt_of_lt_of_le hl hg.size,fun i v hv=>(World.cell?_of_block (w:=w) hb).trans (c i v hv)⟩
theorem flat_len(hk:∀x,(enc x).length=k):∀l:List α,(l.flatMap enc).length=l.length*k
 | []=>(Nat.zero_mul k).symm
 | x::r=>by rw[List.flatMap_cons,List.length_append,hk,flat_len hk r,List.length_cons,Nat.add_mul,Nat.one_mul,Nat.add_comm]
theorem flat_get(hk:∀x,(enc x).length=k):∀ {l:List α} {j:Nat} {x:α} {i:Nat} {v:Value},l[j]?=some x→(enc x)[i]?=some v→(l.flatMap enc)[j*k+i]?=some v
 | [],_,_,_,_,h,_=>by cases h
 | y::r,0,x,i,v,h,hv=>by
  obtain rfl:y=x:=Option.some.inj h;have hi:=(List.getElem?_eq_some_iff.1 hv).1;rw[List.flatMap_cons,Nat.zero_mul,Nat.zero_add,List.getElem?_append_left hi];exact hv
 | y::r,j+1,x,i,v,h,hv=>by
  have h:r[j]?=some x:=h;have e:(j+1)*k+i=(enc y).length+(j*k+i):=by rw[hk,Nat.add_mul,Nat.one_mul];omega
  rw[List.flatMap_cons,e,List.getElem?_append_right (Nat.le_add_right _ _),Nat.add_sub_cancel_left];exact flat_get hk h hv
theorem flat_one(h1:∀x,∀v∈enc x,v.oneCell'=true)(l:List α):∀v∈l.flatMap enc,v.oneCell'=true:=fun v hv=>by
 obtain⟨x,_,hx⟩:=List.mem_flatMap.1 hv;exact h1 x v hx
theorem ownG_below{e:TypeId}{B:Nat}{w w':World}{v:Value}{l:List α}(h:OwnG enc k e B w v l)(hb:Below w.heap.size w w'):OwnG enc k e B w' v l :=
 World.ownsRow.kept h (row:=none) ⟨hb.os,hb.tape,hb.output,hb.size,fun i hi _=>hb.block i hi⟩ (Decidable.or_iff_not_imp_left.2 fun c e=>c e)
theorem ownG_rows{e:TypeId}{B:Nat}{w:World}{v:Value}{l:List α}(hk:∀x,(enc x).length=k)(h:OwnG enc k e B w v l) :
  ∃p c,v=.slice p l.length c∧l.length≤c∧RowsG enc k w p l∧∀a,p=some a→B≤a.block:=by
 rcases h.2 with ⟨rfl,h0⟩|⟨g,cap,cur,rfl,k2,k3,k4,k5⟩
 ·have:l=[]:=List.length_eq_zero_iff.1 h0;subst this;exact⟨none,0,rfl,Nat.le_refl _,RowsG.nil _ _,fun _ h=>by cases h⟩
 ·refine⟨some ⟨g,0,none⟩,cap,rfl,k4,fun j x hx=>?_,fun a h=>by cases h;exact k2⟩;refine⟨g,0,rfl,(Array.getElem?_eq_some_iff.1 k3).1,fun i u hu=>?_⟩;have c:=World.ownsRow.cells (g:=g) h rfl (j*k+i) u (flat_get hk hx hu);rw[show ((⟨g,0,none⟩:Addr).add (j*k+i))=⟨g,0+j*k+i,none⟩ by unfold Addr.add;split<;>simp_all]at c;exact c
theorem ownG_empty{e:TypeId}{B:Nat}(w:World)(h:B≤w.heap.size):OwnG enc k e B (w.alloc (.cells #[] e)) (.slice (some ⟨w.heap.size,0,none⟩) 0 0) [] :=
 ⟨(Nat.zero_mul k).symm,.inr ⟨w.heap.size,0,#[],rfl,h,heap_alloc_new w _,Nat.le_refl _,Nat.zero_le _,(Nat.zero_mul k).symm,by simp⟩⟩
theorem RowsG.cells{w:World}{ad:Addr}{x:α}(hk:(enc x).length=k)(h:RowsG enc k w (some ad) [x]):∀ (j:Nat) (u:Value),(enc x)[j]?=some u→w.cell? (ad.add j)=some u:=fun j u hu=>by
 obtain⟨b,o,hp,_,c⟩:=h 0 x rfl
 cases hp
 rw[show ((⟨b,o,none⟩:Addr).add j)=⟨b,o+0*k+j,none⟩ by unfold Addr.add;split<;>simp_all];exact c j u hu
theorem run_append_G{P:Program}{w:World}(t ty e:TypeId){z:Value}{bytes:Nat}(ht:P.underlying t=some (.slice e))(info:(P.info? e).map (fun i=>(i.zero,i.size,i.bytes))=some (some z,k,bytes))(hz:z.cells.size=k)(hk0:0<k)(hb:bytes≤4096)
  (hk:∀x,(enc x).length=k) (h1:∀x,∀v∈enc x,v.oneCell'=true) (base:Nat) (v:Value) (fs:List α) (hown:OwnG enc k e base w v fs) (ad:Addr) (y:α) (c:Nat) (hl:RowsG enc k w (some ad) [y]) (hf:fs.length≤3000000) (hbase:base≤w.heap.size) :
  ∃v' w',(Builtin.append_ #[t,t] ty #[v,.slice (some ad) 1 c]).run P w=.ok v' w'∧OwnG enc k e base w' v' (fs++[y])∧w.grownBy w' v.ownBlock∧(v'.ownBlock=v.ownBlock∨v'.ownBlock=some w.heap.size):=by
 obtain⟨i0,hi,hz0,hz1,hz2⟩:=info_parts info;have hbb:(fs.length+1)*bytes≤140737488355328:=Nat.le_trans (Nat.mul_le_mul (show fs.length+1≤3000001 by omega) hb) (by decide);obtain⟨v',w',hr,h2,h3,h4,h5⟩:=run_append_own_at (P:=P) w base t ty e i0 z k bytes ht hi hz0 hz1 hz2 hz hk0 v fs.length (fs.flatMap enc) hown ad 1 c (enc y) (by rw[hk,Nat.one_mul]) (RowsG.cells (hk y) hl) (h1 y) (by unfold maxLen;omega) hbb hbase;refine⟨v',w',hr,?_,h3,h5⟩;show World.ownsRow w' base e k v' (fs++[y]).length ((fs++[y]).flatMap enc);rw[List.length_append,List.flatMap_append];have e1:[y].flatMap enc=enc y:=by rw[List.flatMap_cons];exact List.append_nil _
 rw[e1];exact h2
theorem wp_append_G{P:Program}{o:Oper}{a:Act}{K:Act→World→Prop}{Q:Exit→Act→World→Prop}{w:World}(s x:Operand)(t e:TypeId)(ho:o.op=.call { callee:=.builtin .append,args:=#[s,x],argTypes:=#[t,t] }){z:Value}{bytes:Nat}
  (ht:P.underlying t=some (.slice e)) (info:(P.info? e).map (fun i=>(i.zero,i.size,i.bytes))=some (some z,k,bytes)) (hz:z.cells.size=k) (hk0:0<k) (hb:bytes≤4096)
  (hk:∀x,(enc x).length=k) (h1:∀x,∀v∈enc x,v.oneCell'=true) (base:Nat) (v:Value) (fs:List α) (hs:a.eval s=v) (hown:OwnG enc k e base w v fs) (ad:Addr) (y:α) (c:Nat) (hx:a.eval x=.slice (some ad) 1 c) (hl:RowsG enc k w (some ad) [y]) (hf:fs.length≤3000000) (hbase:base≤w.heap.size)
  (h:∀v' w',OwnG enc k e base w' v' (fs++[y])→w.grownBy w' v.ownBlock→(v'.ownBlock=v.ownBlock∨v'.ownBlock=some w.heap.size)→K (a.put o.dst v') w'):o.wp P a w K Q:=by
 obtain⟨v',w',hr,h2,h3,h4⟩:=run_append_G t o.type e ht info hz hk0 hb hk h1 base v fs hown ad y c hl hf hbase;exact Lib.wp_append_run w s x t t ho _ _ hs hx _ _ hr (h v' w' h2 h3 h4)
theorem wpList_append_G{P:Program}{ops:Array Oper}{rest:List Oper}{o:Oper}{a:Act}{Q:Exit→Act→World→Prop}{w:World}(hgd:o.guard=none)(s x:Operand)(t e:TypeId)(ho:o.op=.call { callee:=.builtin .append,args:=#[s,x],argTypes:=#[t,t] }){z:Value}{bytes:Nat}
  (ht:P.underlying t=some (.slice e)) (info:(P.info? e).map (fun i=>(i.zero,i.size,i.bytes))=some (some z,k,bytes)) (hz:z.cells.size=k) (hk0:0<k) (hb:bytes≤4096)
  (hk:∀x,(enc x).length=k) (h1:∀x,∀v∈enc x,v.oneCell'=true) (base:Nat) (v:Value) (fs:List α) (hs:a.eval s=v) (hown:OwnG enc k e base w v fs) (ad:Addr) (y:α) (c:Nat) (hx:a.eval x=.slice (some ad) 1 c) (hl:RowsG enc k w (some ad) [y]) (hf:fs.length≤3000000) (hbase:base≤w.heap.size)
  (h:∀v' w',OwnG enc k e base w' v' (fs++[y])→w.grownBy w' v.ownBlock→(v'.ownBlock=v.ownBlock∨v'.ownBlock=some w.heap.size)→wpList P ops Q rest (a.put o.dst v') w'):wpList P ops Q (o::rest) a w :=
 wpList_plain hgd fun _ hK=>wp_append_G s x t e ho ht info hz hk0 hb hk h1 base v fs hs hown ad y c hx hl hf hbase fun v' w' h1 h2 h3=>hK _ _ (h v' w' h1 h2 h3)
theorem rowsOne(w:World)(x:α)(t:TypeId)(c:Array Value)(hc:c=(enc x).toArray):RowsG enc k (w.alloc (.cells c t)) (some ⟨w.heap.size,0,none⟩) [x]:=fun j y hy=>by
 cases j with
 | zero =>
  obtain rfl:x=y:=Option.some.inj hy;refine⟨w.heap.size,0,rfl,by simp,fun i v hv=>?_⟩;rw[Nat.zero_mul,Nat.zero_add];exact(cell_new w _ _ _ rfl i).trans (by rw[hc];simpa using hv)
 | succ j=>cases hy
end
def HaltG(p:Prop):Prop:=p
theorem haltG{p:Prop}(h:HaltG p):p:=h
end Go.Proofs.YtghioekjghmdaaaGreatDoor
namespace Go.Proofs.YtghioekjghmdaaaGreatDoor
open Go.RowKit
def Nums(w:World)(p:Option Addr)(l:List Int):Prop:=∀ (j:Nat) (x:Int),l[j]?=some x→∃b o,p=some ⟨b,o,none⟩∧b<w.heap.size∧w.cell? ⟨b,o+j,none⟩=some (.int .i64 x)
section
variable {T : Type} [DecidableEq T]
end
def encN(n:Int):List Value:=[.int .i64 n]
theorem encN_one(n:Int):∀v∈encN n,v.oneCell'=true:=fun v hv=>by
 obtain rfl:=List.mem_singleton.1 hv;rfl
theorem numInfo:(Tryz.prog.info? 3).map (fun i=>(i.zero,i.size,i.bytes))=some (some (.int .i64 0),1,8):=by kernel_rfl
theorem nums_of{w:World}{p:Option Addr}{l:List Int}(h:RowsG encN 1 w p l):Nums w p l:=fun j x hx=>by
 obtain⟨b,o,hp,hl,c⟩:=h j x hx;have k:=c 0 _ rfl;rw[Nat.mul_one]at k;exact⟨b,o,hp,hl,k⟩
abbrev OwnN(B:Nat)(w:World)(v:Value)(l:List Int):Prop:=OwnG encN 1 3 B w v l
end Go.Proofs.YtghioekjghmdaaaGreatDoor
namespace Go.Proofs.YtghioekjghmdaaaGreatDoor
open Go.RowKit
section
variable {α : Type} {enc : α → List Value} {k : Nat}
theorem flat_inv(hk:∀x,(enc x).length=k):∀ {l:List α} {j:Nat} {u:Value},(l.flatMap enc)[j]?=some u→∃q x i,l[q]?=some x∧(enc x)[i]?=some u∧j=q*k+i
 | [],_,_,h=>by cases h
 | y::r,j,u,h=>by
  rw[List.flatMap_cons]at h;by_cases hj:j<(enc y).length
  ·rw[List.getElem?_append_left hj]at h;exact⟨0,y,j,rfl,h,by omega⟩
  ·rw[List.getElem?_append_right (by omega)]at h;obtain⟨q,x,i,h1,h2,h3⟩:=flat_inv hk h;rw[hk]at h3 hj;exact⟨q+1,x,i,h1,h2,by rw[Nat.add_mul,Nat.one_mul];omega⟩
theorem RowsG.cellsM{w:World}{ad:Addr}{l:List α}(hk:∀x,(enc x).length=k)(h:RowsG enc k w (some ad) l):∀ (j:Nat) (u:Value),(l.flatMap enc)[j]?=some u→w.cell? (ad.add j)=some u:=fun j u hu=>by
 obtain⟨q,x,i,h1,h2,rfl⟩:=flat_inv hk hu;obtain⟨b,o,hp,_,c⟩:=h q x h1
 cases hp
 rw[show ((⟨b,o,none⟩:Addr).add (q*k+i))=⟨b,o+q*k+i,none⟩ by unfold Addr.add;split<;>simp_all [Nat.add_assoc]];exact c i u h2
theorem run_append_noneG{P:Program}{w:World}(base:Nat)(t ty e:TypeId)(i:TypeInfo)(size c:Nat)(ht:P.underlying t=some (.slice e))(hi:P.info? e=some i)
  (v:Value) (n:Nat) (xs:List Value) (hown:w.ownsRow base e size v n xs) :
  (Builtin.append_ #[t,t] ty #[v,.slice none 0 c]).run P w=.ok v w:=by
 rcases hown.2 with ⟨rfl,rfl⟩|⟨g,cap,cur,rfl,_,_,hnc,_⟩
 ·simp[Builtin.append_,run_underlying ht,sizeOf,typeInfo,hi,Builtin.lenOf,Builtin.firstCells]
 ·simp[Builtin.append_,run_underlying ht,sizeOf,typeInfo,hi,Builtin.lenOf,Builtin.firstCells,hnc,storeCells]
theorem run_append_M{P:Program}{w:World}(t ty e:TypeId){z:Value}{bytes:Nat}(ht:P.underlying t=some (.slice e))(info:(P.info? e).map (fun i=>(i.zero,i.size,i.bytes))=some (some z,k,bytes))(hz:z.cells.size=k)(hk0:0<k)(hb:bytes≤4096)
  (hk:∀x,(enc x).length=k) (h1:∀x,∀v∈enc x,v.oneCell'=true) (base:Nat) (v:Value) (fs:List α) (hown:OwnG enc k e base w v fs) (q:Option Addr) (l:List α) (c:Nat) (hl:RowsG enc k w q l) (hf:fs.length≤3000000) (hn:l.length≤3000000) (hbase:base≤w.heap.size) :
  ∃v' w',(Builtin.append_ #[t,t] ty #[v,.slice q l.length c]).run P w=.ok v' w'∧OwnG enc k e base w' v' (fs++l)∧w.grownBy w' v.ownBlock∧(v'.ownBlock=v.ownBlock∨v'.ownBlock=some w.heap.size):=by
 obtain⟨i0,hi,hz0,hz1,hz2⟩:=info_parts info
 cases q with
 | none =>
  obtain rfl:l=[]:=by
   cases l with
   | nil=>rfl
   | cons x r=>obtain⟨b,o,hp,_⟩:=hl 0 x rfl;cases hp
  exact⟨v,w,run_append_noneG base t ty e i0 k c ht hi _ _ _ hown,by rw[List.append_nil];exact hown,World.grownBy.refl _ _,.inl rfl⟩
 | some ad =>
  have hbb:(fs.length+l.length)*bytes≤140737488355328:=Nat.le_trans (Nat.mul_le_mul (show fs.length+l.length≤6000000 by omega) hb) (by decide);obtain⟨v',w',hr,h2,h3,h4,h5⟩:=run_append_own_at (P:=P) w base t ty e i0 z k bytes ht hi hz0 hz1 hz2 hz hk0 v fs.length (fs.flatMap enc) hown ad l.length c (l.flatMap enc) (flat_len hk l) (RowsG.cellsM hk hl) (flat_one h1 l) (by unfold maxLen;omega) hbb hbase;refine⟨v',w',hr,?_,h3,h5⟩;show World.ownsRow w' base e k v' (fs++l).length ((fs++l).flatMap enc);rw[List.length_append,List.flatMap_append];exact h2
theorem wp_append_M{P:Program}{o:Oper}{a:Act}{K:Act→World→Prop}{Q:Exit→Act→World→Prop}{w:World}(s x:Operand)(t e:TypeId)(ho:o.op=.call { callee:=.builtin .append,args:=#[s,x],argTypes:=#[t,t] }){z:Value}{bytes:Nat}
  (ht:P.underlying t=some (.slice e)) (info:(P.info? e).map (fun i=>(i.zero,i.size,i.bytes))=some (some z,k,bytes)) (hz:z.cells.size=k) (hk0:0<k) (hb:bytes≤4096)
  (hk:∀x,(enc x).length=k) (h1:∀x,∀v∈enc x,v.oneCell'=true) (base:Nat) (v:Value) (fs:List α) (hs:a.eval s=v) (hown:OwnG enc k e base w v fs) (q:Option Addr) (l:List α) (c:Nat) (hx:a.eval x=.slice q l.length c) (hl:RowsG enc k w q l) (hf:fs.length≤3000000) (hn:l.length≤3000000) (hbase:base≤w.heap.size)
  (h:∀v' w',OwnG enc k e base w' v' (fs++l)→w.grownBy w' v.ownBlock→(v'.ownBlock=v.ownBlock∨v'.ownBlock=some w.heap.size)→K (a.put o.dst v') w'):o.wp P a w K Q:=by
 obtain⟨v',w',hr,h2,h3,h4⟩:=run_append_M t o.type e ht info hz hk0 hb hk h1 base v fs hown q l c hl hf hn hbase;exact Lib.wp_append_run w s x t t ho _ _ hs hx _ _ hr (h v' w' h2 h3 h4)
theorem wpList_append_M{P:Program}{ops:Array Oper}{rest:List Oper}{o:Oper}{a:Act}{Q:Exit→Act→World→Prop}{w:World}(hgd:o.guard=none)(s x:Operand)(t e:TypeId)(ho:o.op=.call { callee:=.builtin .append,args:=#[s,x],argTypes:=#[t,t] }){z:Value}{bytes:Nat}
  (ht:P.underlying t=some (.slice e)) (info:(P.info? e).map (fun i=>(i.zero,i.size,i.bytes))=some (some z,k,bytes)) (hz:z.cells.size=k) (hk0:0<k) (hb:bytes≤4096)
  (hk:∀x,(enc x).length=k) (h1:∀x,∀v∈enc x,v.oneCell'=true) (base:Nat) (v:Value) (fs:List α) (hs:a.eval s=v) (hown:OwnG enc k e base w v fs) (q:Option Addr) (l:List α) (c:Nat) (hx:a.eval x=.slice q l.length c) (hl:RowsG enc k w q l) (hf:fs.length≤3000000) (hn:l.length≤3000000) (hbase:base≤w.heap.size)
  (h:∀v' w',OwnG enc k e base w' v' (fs++l)→w.grownBy w' v.ownBlock→(v'.ownBlock=v.ownBlock∨v'.ownBlock=some w.heap.size)→wpList P ops Q rest (a.put o.dst v') w'):wpList P ops Q (o::rest) a w :=
 wpList_plain hgd fun _ hK=>wp_append_M s x t e ho ht info hz hk0 hb hk h1 base v fs hs hown q l c hx hl hf hn hbase fun v' w' h1 h2 h3=>hK _ _ (h v' w' h1 h2 h3)
end
end Go.Proofs.YtghioekjghmdaaaGreatDoor
