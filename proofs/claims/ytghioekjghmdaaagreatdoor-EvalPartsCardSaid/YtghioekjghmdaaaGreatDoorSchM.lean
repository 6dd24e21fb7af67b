/- Own work. -/
import Derived.Lib.Repeat
import Derived.Lib.TrimByte
import Derived.Test.YtghioekjghmdaaaGreatDoorAllRefD5M
import Derived.Handed
import Derived.Lay
import Derived.Shelf.Vars
import Derived.Test.YtghioekjghmdaaaGreatDoorOpenQ
namespace Go.Proofs.YtghioekjghmdaaaGreatDoor
theorem strip_pow{p:Nat}(h1:1<p){m:Nat}(hm:0<m)(h:m % p≠0):∀A,strip p (p ^ A*m)=(A,m)
 | 0=>by rw[Nat.pow_zero,Nat.one_mul,strip_no h]
 | A+1=>by
  have hp:0<p:=by omega
  have e:p ^ (A+1)*m=p*(p ^ A*m):=by rw[Nat.pow_succ,Nat.mul_comm (p ^ A) p,Nat.mul_assoc]
  have hpos:0<p ^ A*m:=Nat.mul_pos (Nat.pow_pos hp) hm;rw[e,strip_yes h1 (Nat.mul_pos hp hpos) (Nat.mul_mod_right _ _),Nat.mul_div_cancel_left _ hp,strip_pow h1 hm h A]
theorem plc_is{A B r:Nat}(hr:0<r)(h2:r % 2≠0)(h5:r % 5≠0):plc (2 ^ A*(5 ^ B*r))=if r=1 then some (max A B) else none:=by
 have h3:(5 ^ B*r) % 2≠0:=by
  rw[Nat.mul_mod,Nat.pow_mod];show (1 ^ B % 2)*(r % 2) % 2≠0;rw[Nat.one_pow];omega
 have hp:0<5 ^ B*r:=Nat.mul_pos (Nat.pow_pos (by decide)) hr;unfold plc;rw[strip_pow (by decide) hp h3];show (if (strip 5 (5 ^ B*r)).2=1 then _ else _)=_;rw[strip_pow (by decide) hr h5]
def onS(b e d:Nat):Nat×Nat:=((strip b d).2,e*(strip b d).1)
theorem on_no{b e d:Nat}(h:d % b≠0):onS b e d=(d,0):=by unfold onS;rw[strip_no h];rfl
theorem on_yes{b e d:Nat}(h1:1<b)(h2:0<d)(h:d % b=0):onS b e d=((onS b e (d / b)).1,e+(onS b e (d / b)).2):=by
 unfold onS;rw[strip_yes h1 h2 h];exact Prod.ext rfl (by show e*((strip b (d / b)).1+1)=e+e*(strip b (d / b)).1;rw[Nat.mul_succ,Nat.add_comm])
theorem on_spec{b e d:Nat}(h1:1<b)(h2:0<d):d=b ^ (strip b d).1*(onS b e d).1∧(onS b e d).1 % b≠0∧0<(onS b e d).1:=strip_spec h1 d h2
theorem mod_of_mul{a b c p:Nat}(h:a=b*c)(hp:a % p≠0):c % p≠0:=fun e=>hp (by rw[h,Nat.mul_mod,e,Nat.mul_zero,Nat.zero_mod])
def leftS(d:Nat):Nat:=(onS 5 1 (onS 244140625 12 (onS 2 1 (onS 536870912 29 (onS 10 1 d).1).1).1).1).1
def cntS(d:Nat):Nat:=(onS 10 1 d).2+(onS 536870912 29 (onS 10 1 d).1).2+(onS 2 1 (onS 536870912 29 (onS 10 1 d).1).1).2+(onS 244140625 12 (onS 2 1 (onS 536870912 29 (onS 10 1 d).1).1).1).2+(onS 5 1 (onS 244140625 12 (onS 2 1 (onS 536870912 29 (onS 10 1 d).1).1).1).1).2
theorem walk_is{d:Nat}(hd:0<d):plc d=if leftS d=1 then some (cntS d) else none:=by
 obtain⟨z1,z2,z3⟩:=on_spec (e:=1) (show 1<10 by decide) hd;have c1:(onS 10 1 d).2=(strip 10 d).1:=Nat.one_mul _;obtain⟨a1,a2,a3⟩:=on_spec (e:=29) (show 1<536870912 by decide) z3;have c2:(onS 536870912 29 (onS 10 1 d).1).2=29*(strip 536870912 (onS 10 1 d).1).1:=rfl;obtain⟨b1,b2,b3⟩:=on_spec (e:=1) (show 1<2 by decide) a3;have c3:(onS 2 1 (onS 536870912 29 (onS 10 1 d).1).1).2=(strip 2 (onS 536870912 29 (onS 10 1 d).1).1).1:=Nat.one_mul _;obtain⟨e1,e2,e3⟩:=on_spec (e:=12) (show 1<244140625 by decide) b3;have c4:(onS 244140625 12 (onS 2 1 (onS 536870912 29 (onS 10 1 d).1).1).1).2=12*(strip 244140625 (onS 2 1 (onS 536870912 29 (onS 10 1 d).1).1).1).1:=rfl;obtain⟨f1,f2,f3⟩:=on_spec (e:=1) (show 1<5 by decide) e3;have c5:(onS 5 1 (onS 244140625 12 (onS 2 1 (onS 536870912 29 (onS 10 1 d).1).1).1).1).2=(strip 5 (onS 244140625 12 (onS 2 1 (onS 536870912 29 (onS 10 1 d).1).1).1).1).1:=Nat.one_mul _;unfold leftS cntS;rw[c1,c2,c3,c4,c5];generalize (onS 5 1 (onS 244140625 12 (onS 2 1 (onS 536870912 29 (onS 10 1 d).1).1).1).1).1=r at *;generalize (strip 5 (onS 244140625 12 (onS 2 1 (onS 536870912 29 (onS 10 1 d).1).1).1).1).1=n5 at *;generalize (onS 244140625 12 (onS 2 1 (onS 536870912 29 (onS 10 1 d).1).1).1).1=m4 at *;generalize (strip 244140625 (onS 2 1 (onS 536870912 29 (onS 10 1 d).1).1).1).1=n4 at *;generalize (onS 2 1 (onS 536870912 29 (onS 10 1 d).1).1).1=m3 at *;generalize (strip 2 (onS 536870912 29 (onS 10 1 d).1).1).1=n3 at *;generalize (onS 536870912 29 (onS 10 1 d).1).1=m2 at *
 generalize (strip 536870912 (onS 10 1 d).1).1=n2 at *;generalize (onS 10 1 d).1=m1 at *;generalize (strip 10 d).1=n1 at *;clear c1 c2 c3 c4 c5;have hr2:r % 2≠0:=mod_of_mul f1 (mod_of_mul e1 b2);have g1:m3=5 ^ (12*n4+n5)*r:=by
  rw[e1,f1,← Nat.mul_assoc,Nat.pow_add,Nat.pow_mul]
 have g2:m1=2 ^ (29*n2+n3)*m3:=by
  rw[a1,b1,← Nat.mul_assoc,Nat.pow_add,Nat.pow_mul]
 obtain⟨B,hB⟩:∃B,12*n4+n5=B:=⟨_,rfl⟩;rw[hB]at g1;have hor:29*n2+n3=0∨B=0:=by
  rcases Nat.eq_zero_or_pos (29*n2+n3) with h|h
  ·exact .inl h
  rcases Nat.eq_zero_or_pos B with k|k
  ·exact .inr k
  exfalso;apply z2;obtain⟨A,hA⟩:∃A,29*n2+n3=A+1:=⟨29*n2+n3-1,by omega⟩;obtain⟨C,hC⟩:∃C,B=C+1:=⟨B-1,by omega⟩;rw[g2,g1,hA,hC,Nat.pow_succ,Nat.pow_succ];have e:2 ^ A*2*(5 ^ C*5*r)=10*(2 ^ A*(5 ^ C*r)):=by
   rw[Nat.mul_comm (2 ^ A) 2,Nat.mul_comm (5 ^ C) 5,Nat.mul_assoc 5,Nat.mul_assoc 2,Nat.mul_left_comm (2 ^ A) 5,← Nat.mul_assoc 2 5]
  rw[e,Nat.mul_mod_right]
 have g3:d=2 ^ (n1+(29*n2+n3))*(5 ^ (n1+B)*r):=by
  rw[z1,ten_pow,g2,g1,Nat.pow_add 2 n1,Nat.pow_add 5 n1];rw[Nat.mul_assoc (2 ^ n1) (5 ^ n1),Nat.mul_assoc (2 ^ n1) (2 ^ (29*n2+n3)),Nat.mul_left_comm (5 ^ n1),Nat.mul_assoc (5 ^ n1)]
 rw[g3,plc_is f3 hr2 f2];by_cases h:r=1
 ·rw[if_pos h,if_pos h]
  congr 1
  rcases hor with k|k<;>omega
 ·rw[if_neg h,if_neg h]
theorem dig_tens{n:Nat}(h:0<n)(k:Nat):dig (n*10 ^ k)=dig n++List.replicate k 48:=by
 induction k with
 | zero=>rw[Nat.pow_zero,Nat.mul_one,List.replicate_zero,List.append_nil]
 | succ k ih =>
  have hp:0<n*10 ^ k:=Nat.mul_pos h (Nat.pow_pos (by decide));have e:n*10 ^ (k+1)=10*(n*10 ^ k):=by rw[Nat.pow_succ,Nat.mul_comm (10 ^ k),Nat.mul_left_comm]
  rw[e,dig_big (by omega),Nat.mul_div_cancel_left _ (by decide),ih,List.replicate_succ',← List.append_assoc]
  congr 2
  unfold digN;rw[Nat.mul_mod_right]
  rfl
theorem dig_last{n:Nat}(h:n % 10≠0):∃l c,dig n=l++[c]∧c≠48:=by
 have hc:digN n≠48:=fun e=>by
  have:=congrArg UInt8.toNat e;rw[digN_toNat]at this;have h2:(48:UInt8).toNat=48:=rfl;omega
 by_cases h1:n<10
 ·exact⟨[],digN n,by rw[dig_small h1];rfl,hc⟩
 ·exact⟨dig (n / 10),digN n,dig_big h1,hc⟩
theorem drop_zeros_rep(k:Nat)(l:List UInt8){c:UInt8}(hc:c≠48):(List.replicate k 48++c::l).dropWhile (·==48)=c::l:=by
 induction k with
 | zero =>
  rw[List.replicate_zero,List.nil_append];exact List.dropWhile_cons_of_neg (by simpa using hc)
 | succ k ih =>
  rw[List.replicate_succ,List.cons_append,List.dropWhile_cons_of_pos (by simp),ih]
theorem trim_tens{d:Nat}(hd:0<d):((dig d).reverse.dropWhile (·==48)).reverse=dig (onS 10 1 d).1∧(dig d).length=(dig (onS 10 1 d).1).length+(onS 10 1 d).2:=by
 obtain⟨z1,z2,z3⟩:=on_spec (e:=1) (show 1<10 by decide) hd;have c1:(onS 10 1 d).2=(strip 10 d).1:=Nat.one_mul _;rw[c1];have e:dig d=dig (onS 10 1 d).1++List.replicate (strip 10 d).1 48:=by
  conv=>lhs;rw[z1]
  rw[Nat.mul_comm,dig_tens z3]
 refine⟨?_,by rw[e,List.length_append,List.length_replicate]⟩;rw[e];obtain⟨l,c,h1,h2⟩:=dig_last z2;rw[h1,List.reverse_append,List.reverse_append,List.reverse_replicate];show ((List.replicate (strip 10 d).1 48++c::l.reverse).dropWhile _).reverse=_;rw[drop_zeros_rep _ _ h2,List.reverse_cons,List.reverse_reverse]
theorem on_le{b e d:Nat}(h1:1<b)(h2:0<d):(onS b e d).1≤d:=by
 have h:=(on_spec (e:=e) h1 h2).1
 conv=>rhs;rw[h]
 exact Nat.le_mul_of_pos_left _ (Nat.pow_pos (by omega))
theorem den_divides{x:Rat}{k:Nat}(h:plc x.den=some k):x.den∣10 ^ k:=(plc_dvd (Nat.pos_of_ne_zero x.den_nz)).2 ⟨k,h,Nat.le_refl _⟩
theorem tens_div{x:Rat}{k:Nat}(h:plc x.den=some k):x.num.natAbs*10 ^ k / x.den=x.num.natAbs*(10 ^ k / x.den):=Nat.mul_div_assoc _ (den_divides h)
theorem num_zero_den{x:Rat}(h:x.num=0):x.den=1:=by rw[Rat.num_eq_zero.1 h];rfl
theorem num_tens{x:Rat}{k:Nat}(h:plc x.den=some k):dig x.num.natAbs++List.replicate k 48=dig (x.num.natAbs*10 ^ k):=by
 by_cases h0:x.num=0
 ·have hk:k=0:=by
   rw[num_zero_den h0]at h;have:=(plc_dvd (d:=1) (k:=0) (by decide)).1 (Nat.dvd_refl _);obtain⟨m,hm,hm0⟩:=this;rw[hm]at h;have:=Option.some.inj h;omega
  subst hk;rw[List.replicate_zero,List.append_nil,Nat.pow_zero,Nat.mul_one]
 ·rw[dig_tens (by omega)]
def bodyD(k:Nat)(s:List UInt8):List UInt8:=if k=0 then s else ptD k (padD (k+1) s)
theorem prD_body{x:Rat}{k:Nat}(h:plc x.den=some k):prD x=sgnD (decide (x.num<0)) (bodyD k (dig (x.num.natAbs*(10 ^ k / x.den)))):=by
 by_cases hk:k=0
 ·subst hk;have h1:x.den=1:=Nat.dvd_one.1 (by have:=den_divides h;rwa[Nat.pow_zero]at this);unfold bodyD;rw[prD_zero h,if_pos rfl,h1,Nat.pow_zero,Nat.div_one,Nat.mul_one,sgn_wd]
 ·unfold bodyD;rw[prD_some h hk,if_neg hk]
end Go.Proofs.YtghioekjghmdaaaGreatDoor
set_option maxHeartbeats 1000000
set_option maxRecDepth 100000
namespace Go.Proofs.YtghioekjghmdaaaGreatDoor
open Go.RowKit
structure GoodD(w:World):Prop where
 max:∃m,w.cell? ⟨2,0,none⟩=some (.int .i64 m)
 p0:w.cell? ⟨3,0,none⟩=some (.string ⟨#[53,51,54,56,55,48,57,49,50]⟩)
 p1:w.cell? ⟨3,1,none⟩=some (.int .i64 29)
 p2:w.cell? ⟨3,2,none⟩=some (.string ⟨#[50]⟩)
 p3:w.cell? ⟨3,3,none⟩=some (.int .i64 1)
 p4:w.cell? ⟨3,4,none⟩=some (.string ⟨#[50,52,52,49,52,48,54,50,53]⟩)
 p5:w.cell? ⟨3,5,none⟩=some (.int .i64 12)
 p6:w.cell? ⟨3,6,none⟩=some (.string ⟨#[53]⟩)
 p7:w.cell? ⟨3,7,none⟩=some (.int .i64 1)
 lm:2<w.heap.size
 lp:3<w.heap.size
theorem GoodD.below{w w':World}(h:GoodD w)(hb:Below w.heap.size w w'):GoodD w' :=
 ⟨h.max.imp fun _ e=>(hb.cell (p:=⟨2,0,none⟩) h.lm).trans e,
  (hb.cell (p:=⟨3,0,none⟩) h.lp).trans h.p0,(hb.cell (p:=⟨3,1,none⟩) h.lp).trans h.p1,
  (hb.cell (p:=⟨3,2,none⟩) h.lp).trans h.p2,(hb.cell (p:=⟨3,3,none⟩) h.lp).trans h.p3,
  (hb.cell (p:=⟨3,4,none⟩) h.lp).trans h.p4,(hb.cell (p:=⟨3,5,none⟩) h.lp).trans h.p5,
  (hb.cell (p:=⟨3,6,none⟩) h.lp).trans h.p6,(hb.cell (p:=⟨3,7,none⟩) h.lp).trans h.p7,
  Nat.lt_of_lt_of_le h.lm hb.size,Nat.lt_of_lt_of_le h.lp hb.size⟩
theorem repeat_any(k:Nat)(w:World)(hk:k≤4000000) :
  Calls Tryz.prog 183 #[.string ⟨#[48]⟩,.int .i64 (k:Int)] w (GiveS w (List.replicate k 48)):=by
 have c:=Tryz.strings_Repeat ⟨#[48]⟩ k w (by omega) (by show 1*k≤_;omega);have e:Lib.repeatL (⟨#[48]⟩:ByteArray).data.toList k=List.replicate k 48:=by
  have h:=Lib.repeatL_replicate 48 1 k;rw[Nat.mul_one]at h;exact h
 rw[e]at c;exact c
theorem pad_text2(k:Nat)(l:List UInt8)(S:ByteArray)(hS:S.data.toList=l):((⟨(List.replicate (k+1-l.length) 48).toArray⟩:ByteArray)++S).data.toList=padD (k+1) l:=by
 rw[ba_append,hS];rfl
theorem pt_text2{S:ByteArray}{k M:Nat}{l:List UInt8}(hs:S.data.toList=l)(hm:S.size=M+k) :
  S.extract 0 M++(⟨#[46]⟩:ByteArray)++S.extract M S.size=⟨(ptD k l).toArray⟩:=by
 have h:=pt_text (S:=S) (sg:=⟨#[]⟩) (b:=false) hs hm rfl;have e:(⟨#[]⟩:ByteArray)++S.extract 0 M=S.extract 0 M:=bytes_eq (by rw[ba_append];rfl);rw[e]at h;exact h
theorem pointed_any(s:ByteArray)(k:Nat)(w:World)(hs:s.size≤1000000)(hk:k≤1000000) :
  Calls Tryz.prog 184 #[.string s,.int .i64 (k:Int)] w (GiveS w (bodyD k s.data.toList)):=by
 by_cases h0:k=0
 ·subst h0;have hr:bodyD 0 s.data.toList=s.data.toList:=rfl;rw[hr];go_enter Tryz.func184,Tryz.ntmps184;go_wp2_with fail;go_ret;exact⟨ret_str (same_text s),Below.refl _ _⟩
 ·have hr:bodyD k s.data.toList=ptD k (padD (k+1) s.data.toList):=by unfold bodyD;rw[if_neg h0]
  rw[hr];have hk':¬(k:Int)=0:=by omega
  have hmx:max (0:Int) ((k:Int)+1-(s.size:Int))=((k+1-s.size:Nat):Int):=by omega
  have c0:∀w,Calls Tryz.prog 183 #[.string ⟨#[48]⟩,.int .i64 ((k+1-s.size:Nat):Int)] w fun e w'=>e=.returned (.string ⟨(List.replicate (k+1-s.size) 48).toArray⟩)∧Below w.heap.size w w':=fun w=>repeat_any _ w (by omega);have hp:((⟨(List.replicate (k+1-s.size) 48).toArray⟩:ByteArray)++s).data.toList=padD (k+1) s.data.toList:=pad_text2 k s.data.toList s rfl;have hz:(⟨(List.replicate (k+1-s.size) 48).toArray⟩:ByteArray).size=k+1-s.size:=by rw[size_of,List.length_replicate]
  generalize (⟨(List.replicate (k+1-s.size) 48).toArray⟩:ByteArray)=Z at *;obtain⟨M,hm⟩:∃M,k+1-s.size+s.size=M+k:=⟨k+1-s.size+s.size-k,by omega⟩;have hzs:(Z++s).size=M+k:=by rw[ByteArray.size_append,hz,hm]
  have hr2:=pt_text2 (k:=k) hp hzs;have hMb:M≤2000000:=by omega
  have hmi:(Z.size:Int)+(s.size:Int)-(k:Int)=(M:Int):=by omega
  have hx2:¬9223372036854775807<Z.size+s.size:=by omega
  have hx3:Z.size+s.size=M+k:=by omega
  have C0:=zh c0;have HR:=zh hr2
  clear c0 hr2 hp hr h0 hz hm;go_enter Tryz.func184,Tryz.ntmps184;go_wp2_with fail;refine(C0.out _).mono ?_;rintro e w1 ⟨rfl,b⟩;clear hmx;go_wp2_with fail;clear hx3 hmi hx2;generalize Z++s=T at *
  go_quiet (fail)
  go_wp2_with fail;go_ret;exact⟨ret_str (by have:=HR.out;rw[hzs]at this;exact this),Below.drewN (by with_reducible assumption) _⟩
end Go.Proofs.YtghioekjghmdaaaGreatDoor
set_option maxRecDepth 100000
namespace Go.Proofs.YtghioekjghmdaaaGreatDoor
open Go.ChangeShapes Go.WideShapes Go.RowKit Go.Joins
section
variable {H : Type} {enc : TypeId × Value → H}
end
theorem gPow : Tryz.prog.globalNamed "debenture/decimal.powers" = some 3 := by kernel_rfl
theorem gPowType:(Tryz.prog.globals[3]?).map (·.type)=some 193:=by kernel_rfl
theorem cellsPow:Tryz.prog.cellsOf 193=8:=by kernel_rfl
theorem cellsPair:Tryz.prog.cellsOf 192=2:=by kernel_rfl
theorem cellsIntD:Tryz.prog.cellsOf 3=1:=by kernel_rfl
theorem pair_cells{W:World}{fuel:Nat}{a b:Value}{l:List UInt8}{z:Int}{x:DataW Unit×List MemPlace}(h:DataW.trod (fun _=>()) Tryz.prog W 0 (fun _=>true) false fuel 192 [a,b]=some x)(hx:x.1=.agg [.lit (.string l),.lit (.int .i64 z)]) :
  a=.string ⟨l.toArray⟩∧b=.int .i64 z:=by
 obtain⟨y0,y1,n,rfl,_,h0,h1⟩:=trod_struct2 Tryz.underlying192 h;rw[show Tryz.prog.cellsOf _=1 from cellsStr]at h0;rw[show Tryz.prog.cellsOf _=1 from cellsIntD]at h1;obtain⟨s,e0,rfl,_⟩:=DataW.trod_string Tryz.underlying9 h0;obtain⟨m,e1,rfl,_⟩:=DataW.trod_int Tryz.underlying3 h1;have f0:[a]=[Value.string s]:=e0;have f1:[b]=[Value.int .i64 m]:=e1;simp only[DataW.agg.injEq,List.cons.injEq,DataW.lit.injEq,Lit.string.injEq,Lit.int.injEq,and_true,true_and]at hx;obtain⟨hl,hz⟩:=hx;refine⟨?_,?_⟩
 ·rw[List.cons.inj f0 |>.1,← hl]
 ·rw[List.cons.inj f1 |>.1,hz]
theorem goodD_of {x0 : String × DataW Unit} {r : List (String × DataW Unit)} {W : World} (hL : laidMet Tryz.prog (x0 :: ("debenture/decimal.powers", Rows.laid_debenture_decimal_powers) :: r) W) (hS : W.ShapedOpen Tryz.prog) : GoodD W := by
 have hM:∃m,W.cell? ⟨2,0,none⟩=some (.int .i64 m):=cell_of_shapedOpen_int (zero:=#[.int .i64 0]) (t:=3) hS (of_decide_eq_true (by kernel_rfl)) (by kernel_rfl) rfl (by kernel_rfl) (by kernel_rfl) Tryz.underlying3;obtain⟨_,⟨g,t,cs,fuel,p,_,hg,ht,hv,hd,_,_⟩,_⟩:=hL.tail;obtain rfl:=Option.some.inj (gPow.symm.trans hg);obtain rfl:=Option.some.inj (gPowType.symm.trans ht);obtain⟨xs,m,_,hx,hl,hxl,hi⟩:=DataW.trod_array Tryz.underlying193 hd;rw[cellsPow]at hl;have h0:=hi 0 (by decide);have h1:=hi 1 (by decide);have h2:=hi 2 (by decide);have h3:=hi 3 (by decide);rw[cellsPair]at h0 h1 h2 h3;have hc:∀j,W.cell? ⟨3,j,none⟩=cs.toList[j]?:=fun j=>by
  rw[World.var?_cell gPow hv j,Array.getElem?_toList]
 have hlt:=var_lt gPow hv;generalize cs.toList=L at *
 match L,hl with
 | [a0,b0,a1,b1,a2,b2,a3,b3],_ =>
  match xs,hxl with
  | [y0,y1,y2,y3],_ =>
   have ha:=(Prod.mk.inj hx).1;have ha:Rows.laid_debenture_decimal_powers=DataW.agg [y0.1,y1.1,y2.1,y3.1]:=ha;unfold Rows.laid_debenture_decimal_powers at ha;simp only[DataW.agg.injEq,List.cons.injEq,and_true]at ha;obtain⟨k0,k1,k2,k3⟩:=ha;obtain⟨u0,v0⟩:=pair_cells h0 k0.symm;obtain⟨u1,v1⟩:=pair_cells h1 k1.symm;obtain⟨u2,v2⟩:=pair_cells h2 k2.symm;obtain⟨u3,v3⟩:=pair_cells h3 k3.symm;refine⟨hM,?_,?_,?_,?_,?_,?_,?_,?_,?_,hlt⟩
   ·rw[hc,u0];rfl
   ·rw[hc,v0];rfl
   ·rw[hc,u1];rfl
   ·rw[hc,v1];rfl
   ·rw[hc,u2];rfl
   ·rw[hc,v2];rfl
   ·rw[hc,u3];rfl
   ·rw[hc,v3];rfl
   ·obtain⟨m,hm⟩:=hM;exact World.block_lt_of_cell? W ⟨2,0,none⟩ hm
def Sch(_l:List Nat)(p:Prop):Prop:=p
theorem sch_in(l:List Nat){p:Prop}(h:Sch l p):p:=h
theorem sch_out{p:Prop}(h:p):Sch [] p:=h
section
variable {P : Program} {md : Region.Mode} {ops : Array Oper} {Q : Exit → Act → World → Prop} {S : World → Prop} {i : Nat} {r : List Nat} {oi : Oper} {v : Value} {fuel : Nat} {listed : Array Bool} {a : Act} {w : World}
theorem sch_take(hi:ops[i]?=some oi)(hs:(Region.noSelect ops&&(Region.free md ops listed i&&(Region.ready md ops listed).contains i))=true)
  (hQ:∀c a w,Q (.panic c) (a.put oi.dst v) w→Q (.panic c) a w) (hy:YieldsIf P ops S oi v a) (hS:S w)
  (h:Sch r (wpAnyH P md ops Q S fuel (listed.setIfInBounds i true) (a.put oi.dst v) w)):Sch (i::r) (wpAnyH P md ops Q S (fuel+1) listed a w):=by
 simp only[Bool.and_eq_true]at hs;exact wpAnyH_take hi hs.1 hs.2.1 hs.2.2 hQ hy hS h
theorem sch_yes(hi:ops[i]?=some oi)(hs:(Region.noSelect ops&&(Region.free md ops listed i&&(Region.ready md ops listed).contains i))=true)
  (hw:Region.wanted oi (yielded ops a.tmps)=true) (hy:∀w,S w→(execOp a.eval oi).run P w=.ok (.value v) w) (hS:S w)
  (h:Sch r (wpAnyH P md ops (NoPanic Q) S fuel (listed.setIfInBounds i true) (a.put oi.dst v) w)):Sch (i::r) (wpAnyH P md ops (NoPanic Q) S (fuel+1) listed a w) :=
 sch_take hi hs (fun _ _ _ h=>h) (.inl ⟨hw,hy⟩) hS h
end
end Go.Proofs.YtghioekjghmdaaaGreatDoor
