/- Own work. -/
import Derived.Test.YthgopcnagecbaaaGreatDoorAllWhole
set_option maxHeartbeats 2000000
set_option maxRecDepth 100000
namespace Go.Proofs.YthgopcnagecbaaaGreatDoor
open Go.RowKit
section
variable {a b j k : Nat}
theorem rnAdd{x:Nat}(ha:Lt a j)(hb:Lt b k)(h:a+b=x)(w:World) :
  Calls Tryz.prog 89 #[.string ⟨(dig a).toArray⟩,.string ⟨(dig b).toArray⟩] w (GiveS w (dig x)):=by
 have c:=radd_any ⟨(dig a).toArray⟩ ⟨(dig b).toArray⟩ w (Nat.le_trans ha.size (by decide)) (Nat.le_trans hb.size (by decide));have e:addS (⟨(dig a).toArray⟩:ByteArray).data.toList (⟨(dig b).toArray⟩:ByteArray).data.toList=dig x:=by
  show addS (dig a) (dig b)=_;unfold addS;rw[isNat_dig,isNat_dig,valS_dig,valS_dig,h];rfl
 rw[e]at c;exact c
theorem rnMul{x:Nat}(ha:Lt a j)(hb:Lt b k)(h:a*b=x)(w:World) :
  Calls Tryz.prog 54 #[.string ⟨(dig a).toArray⟩,.string ⟨(dig b).toArray⟩] w (GiveS w (dig x)):=by
 have c:=rmul_any ⟨(dig a).toArray⟩ ⟨(dig b).toArray⟩ w (Nat.le_trans ha.size (by decide)) (Nat.le_trans hb.size (by decide));have e:mulS (⟨(dig a).toArray⟩:ByteArray).data.toList (⟨(dig b).toArray⟩:ByteArray).data.toList=dig x:=by
  show mulS (dig a) (dig b)=_;unfold mulS;rw[isNat_dig,isNat_dig,valS_dig,valS_dig,h];rfl
 rw[e]at c;exact c
theorem rnSub{x:Nat}(ha:Lt a j)(hb:Lt b k)(hle:b≤a)(h:a-b=x)(w:World) :
  Calls Tryz.prog 91 #[.string ⟨(dig a).toArray⟩,.string ⟨(dig b).toArray⟩] w (GiveSB w (dig x,true)):=by
 have c:=rsub_any ⟨(dig a).toArray⟩ ⟨(dig b).toArray⟩ w (Nat.le_trans ha.size (by decide)) (Nat.le_trans hb.size (by decide));have e:subS (⟨(dig a).toArray⟩:ByteArray).data.toList (⟨(dig b).toArray⟩:ByteArray).data.toList=(dig x,true):=by
  show subS (dig a) (dig b)=_;unfold subS;rw[isNat_dig,isNat_dig,valS_dig,valS_dig,decide_eq_true hle,h];rfl
 rw[e]at c;exact c
theorem rnDiv{q r:Nat}(ha:Lt a j)(hb:Lt b k)(h0:0<b)(hq:a / b=q)(hr:a % b=r)(w:World) :
  Calls Tryz.prog 85 #[.string ⟨(dig a).toArray⟩,.string ⟨(dig b).toArray⟩] w (GiveSSB w (dig q,dig r,true)):=by
 have c:=rdiv_any ⟨(dig a).toArray⟩ ⟨(dig b).toArray⟩ w (Nat.le_trans ha.size (by decide)) (Nat.le_trans hb.size (by decide));have e:divS (⟨(dig a).toArray⟩:ByteArray).data.toList (⟨(dig b).toArray⟩:ByteArray).data.toList=(dig q,dig r,true):=by
  show divS (dig a) (dig b)=_;unfold divS;rw[isNat_dig,isNat_dig,valS_dig,valS_dig,decide_eq_true h0,hq,hr];rfl
 rw[e]at c;exact c
theorem rnCmp{c:Int}(ha:Lt a j)(hb:Lt b k)(h:cmpN a b=c)(w:World) :
  Calls Tryz.prog 90 #[.string ⟨(dig a).toArray⟩,.string ⟨(dig b).toArray⟩] w fun e w'=>e=.returned (.int .i64 c)∧w=w':=by
 have c:=rcmp_any ⟨(dig a).toArray⟩ ⟨(dig b).toArray⟩ w (Nat.le_trans ha.size (by decide)) (Nat.le_trans hb.size (by decide));have e:cmpS (⟨(dig a).toArray⟩:ByteArray).data.toList (⟨(dig b).toArray⟩:ByteArray).data.toList=cmpN a b:=by
  show cmpS (dig a) (dig b)=_;rw[cmpS_nat (isNat_dig a) (isNat_dig b),valS_dig,valS_dig]
 rw[e,h]at c;exact c
end
def amR(l:List UInt8):List UInt8×Bool:=if l.head?=some 45 then (l.tail,true) else (l,false)
theorem amR_yes(r:List UInt8):amR (45::r)=(r,true):=rfl
theorem amR_no{l:List UInt8}(h:l.head?≠some 45):amR l=(l,false):=by unfold amR;rw[if_neg h]
theorem amR_wd(z:Int):amR (wd z)=(dig z.natAbs,decide (z<0)):=by
 by_cases h:z<0
 ·rw[wd_neg h,amR_yes,decide_eq_true h]
 ·rw[wd_pos (by omega),decide_eq_false h,amR_no];obtain⟨c,r,e,hc⟩:=dig_cons z.natAbs;rw[e];simpa using hc
theorem amR_len(l:List UInt8):(amR l).1.length≤l.length:=by
 unfold amR;split
 ·rw[List.length_tail];omega
 ·exact Nat.le_refl _
theorem same_text(s:ByteArray):s=⟨s.data.toList.toArray⟩:=bytes_eq rfl
theorem ret_sb{s:ByteArray}{l:List UInt8}{b:Bool}(h:s.data.toList=l):Ending.returned (.tuple #[.string s,.bool b])=.returned (.tuple #[.string ⟨l.toArray⟩,.bool b]):=by
 rw[←h,← same_text]
theorem head_idx{s:ByteArray}(h:0<s.size):s.data.toList.head?=some s[0]:=by rw[List.head?_eq_getElem?,byte_at s 0 h]
theorem ramount_any(s:ByteArray)(w:World)(hs:s.size≤4611686018427387904) :
  Calls Tryz.prog 84 #[.string s] w fun e w'=>e=.returned (.tuple #[.string ⟨(amR s.data.toList).1.toArray⟩,.bool (amR s.data.toList).2])∧w=w':=by
 by_cases hm:s.data.toList.head?=some 45
 ·obtain⟨r,hr⟩:=minus_of hm;have h0:0<s.size:=by rw[←size_toList,hr,List.length_cons];omega
  have h1:(s[0].toNat:Int)=45:=by
   rw[head_idx h0]at hm;have e:s[0]=45:=by simpa using hm
   rw[e];rfl
  have ha:amR s.data.toList=(r,true):=by rw[hr];rfl
  have hx:=str_drop (s:=s) (k:=1) (l:=r) (by rw[hr];rfl);rw[ha];have HX:=zh hx;clear hm hr ha hx;go_enter Tryz.func84,Tryz.ntmps84
  go_wp2
  go_ret2
  exact⟨by rw[HX.out];rfl,rfl⟩
 ·rw[amR_no hm];have ht:s.data.toList=s.data.toList:=rfl;have HT:=zh ht;clear ht;by_cases h0:0<s.size
  ·have h1:¬(s[0].toNat:Int)=45:=by
    intro e;apply hm;rw[head_idx h0];exact congrArg some (UInt8.toNat_inj.1 (by show s[0].toNat=45;omega))
   clear hm;go_enter Tryz.func84,Tryz.ntmps84
   go_wp2
   go_ret2
   exact⟨ret_sb rfl,rfl⟩
  ·have h1:¬(0:Int)<(s.size:Int):=by omega
   clear hm;go_enter Tryz.func84,Tryz.ntmps84
   go_wp2
   go_ret2
   exact⟨ret_sb rfl,rfl⟩
def wiR(l:List UInt8)(b:Bool):List UInt8:=if b&&!(l == [48]) then 45::l else l
theorem wiR_dig(b:Bool)(n:Nat):wiR (dig n) b=wd (sv b n):=by
 rw[←sgW_dig];unfold wiR sgW;rw[show (dig n == [])=false from beq_false_of_ne (dig_ne n)]
 rfl
theorem rwith_any(b:Bool)(l:List UInt8)(w:World)(hl:l.length≤4611686018427387904) :
  Calls Tryz.prog 88 #[.string ⟨l.toArray⟩,.bool b] w fun e w'=>e=.returned (.string ⟨(wiR l b).toArray⟩)∧w=w':=by
 cases b with
 | false =>
  have hr:wiR l false=l:=rfl;rw[hr];clear hr;go_enter Tryz.func88,Tryz.ntmps88
  go_wp2
  go_ret;exact⟨rfl,rfl⟩
 | true =>
  by_cases h1:l=[48]
  ·subst h1;go_enter Tryz.func88,Tryz.ntmps88
   go_wp2
   go_ret;exact⟨rfl,rfl⟩
  ·have e2:(l == [48])=false:=beq_false_of_ne h1;have hr:wiR l true=45::l:=by unfold wiR;rw[e2];rfl
   rw[hr];have hadd:=fun w=>run_string_add_sum (P:=Tryz.prog) w (⟨#[45]⟩:ByteArray) ⟨l.toArray⟩ (by show 1+l.toArray.size≤_;rw[List.size_toArray];omega);rw[minus_add]at hadd;clear hr;go_enter Tryz.func88,Tryz.ntmps88
   go_wp2
   go_ret;exact⟨rfl,rfl⟩
theorem rwmay_any(s:ByteArray)(w:World)(hs:s.size≤400000) :
  Calls Tryz.prog 47 #[.string s] w fun e w'=>e=.returned (.bool (isW s.data.toList))∧w=w':=by
 have c1:=fun w=>ramount_any s w (by omega);have l1:=amR_len s.data.toList;rw[size_toList]at l1;have c2:=fun w=>rmay_any ⟨(amR s.data.toList).1.toArray⟩ w (by show (amR s.data.toList).1.toArray.size≤_;rw[List.size_toArray];omega);have er:isNat (⟨(amR s.data.toList).1.toArray⟩:ByteArray).data.toList=isNat (amR s.data.toList).1:=rfl;rw[er]at c2;clear er;by_cases hm:s.data.toList.head?=some 45
 ·obtain⟨r,hr⟩:=minus_of hm;rw[hr,isW_minus];rw[hr,amR_yes]at c1 c2
  cases h1:isNat r with
  | false =>
   simp only[h1]at c2;have C1:=zh c1;have C2:=zh c2
   clear c1 c2 hs l1 hm hr h1;go_enter Tryz.func47,Tryz.ntmps47;go_wp2_with fail;refine(C1.out _).mono ?_;rintro e w' ⟨rfl,rfl⟩;go_wp2_with fail;refine(C2.out _).mono ?_;rintro e w' ⟨rfl,rfl⟩;go_wp2_with fail;go_ret;exact⟨rfl,rfl⟩
  | true =>
   simp only[h1]at c2;have C1:=zh c1;have C2:=zh c2
   clear c1 c2 hs l1 hm hr h1;go_enter Tryz.func47,Tryz.ntmps47;go_wp2_with fail;refine(C1.out _).mono ?_;rintro e w' ⟨rfl,rfl⟩;go_wp2_with fail;refine(C2.out _).mono ?_;rintro e w' ⟨rfl,rfl⟩;go_wp2_with fail;go_ret;exact⟨rfl,rfl⟩
 ·rw[isW_plain hm];rw[amR_no hm]at c1 c2;generalize s.data.toList=l at *
  cases h1:isNat l with
  | false =>
   simp only[h1]at c2;have C1:=zh c1;have C2:=zh c2
   clear c1 c2 hs l1 hm h1;go_enter Tryz.func47,Tryz.ntmps47;go_wp2_with fail;refine(C1.out _).mono ?_;rintro e w' ⟨rfl,rfl⟩;go_wp2_with fail;refine(C2.out _).mono ?_;rintro e w' ⟨rfl,rfl⟩;go_wp2_with fail;go_ret;exact⟨rfl,rfl⟩
  | true =>
   simp only[h1]at c2;have C1:=zh c1;have C2:=zh c2
   clear c1 c2 hs l1 hm h1;go_enter Tryz.func47,Tryz.ntmps47;go_wp2_with fail;refine(C1.out _).mono ?_;rintro e w' ⟨rfl,rfl⟩;go_wp2_with fail;refine(C2.out _).mono ?_;rintro e w' ⟨rfl,rfl⟩;go_wp2_with fail;go_ret;exact⟨rfl,rfl⟩
theorem am_of{s:ByteArray}(h:isW s.data.toList=true):amR s.data.toList=(dig (valW s.data.toList).natAbs,decide (valW s.data.toList<0)):=by
 have e:=amR_wd (valW s.data.toList);rw[wd_valW h]at e;exact e
theorem rwabs_any(s:ByteArray)(w:World)(hs:s.size≤400000) :
  Calls Tryz.prog 50 #[.string s] w fun e w'=>e=.returned (.string ⟨(absW s.data.toList).toArray⟩)∧w=w':=by
 have c1:=fun w=>ramount_any s w (by omega);have c2:=fun w=>rwmay_any s w hs
 cases h:isW s.data.toList with
 | false =>
  have hr:absW s.data.toList=[]:=by unfold absW;rw[h];rfl
  rw[hr];rw[h]at c2;have C2:=zh c2;clear c1 c2 hs h hr;go_enter Tryz.func50,Tryz.ntmps50;go_wp2_with fail;refine(C2.out _).mono ?_;rintro e w' ⟨rfl,rfl⟩;go_wp2_with fail;go_ret;exact⟨rfl,rfl⟩
 | true =>
  have hr:absW s.data.toList=dig (valW s.data.toList).natAbs:=by unfold absW;rw[h];rfl
  rw[hr];rw[h]at c2;rw[am_of h]at c1;have l1:Lt (valW s.data.toList).natAbs 400000:=Lt.of_len (Nat.le_trans (wd_len h) hs) (by decide) (by decide);generalize valW s.data.toList=z at *;have C1:=zh c1;have C2:=zh c2
  clear c1 c2 hs h hr l1;go_enter Tryz.func50,Tryz.ntmps50;go_wp2_with fail;refine(C2.out _).mono ?_;rintro e w' ⟨rfl,rfl⟩;go_wp2_with fail;refine(C1.out _).mono ?_;rintro e w' ⟨rfl,rfl⟩;go_wp2_with fail;go_ret;exact⟨rfl,rfl⟩
theorem rwneg_any(s:ByteArray)(w:World)(hs:s.size≤400000) :
  Calls Tryz.prog 86 #[.string s] w fun e w'=>e=.returned (.string ⟨(negW s.data.toList).toArray⟩)∧w=w':=by
 have c1:=fun w=>ramount_any s w (by omega);have c2:=fun w=>rwmay_any s w hs
 cases h:isW s.data.toList with
 | false =>
  have hr:negW s.data.toList=[]:=by unfold negW;rw[h];rfl
  rw[hr];rw[h]at c2;have C2:=zh c2;clear c1 c2 hs h hr;go_enter Tryz.func86,Tryz.ntmps86;go_wp2_with fail;refine(C2.out _).mono ?_;rintro e w' ⟨rfl,rfl⟩;go_wp2_with fail;go_ret;exact⟨rfl,rfl⟩
 | true =>
  have hr:negW s.data.toList=wd (-valW s.data.toList):=by unfold negW;rw[h];rfl
  rw[hr];rw[h]at c2;rw[am_of h]at c1;have l1:Lt (valW s.data.toList).natAbs 400000:=Lt.of_len (Nat.le_trans (wd_len h) hs) (by decide) (by decide);have c3:=fun w=>rwith_any (!decide (valW s.data.toList<0)) (dig (valW s.data.toList).natAbs) w (Nat.le_trans l1.len (by decide));rw[wiR_dig,sv_neg]at c3;have C3:=zh c3;clear c3;generalize valW s.data.toList=z at *;have C1:=zh c1;have C2:=zh c2
  clear c1 c2 hs h hr l1;go_enter Tryz.func86,Tryz.ntmps86;go_wp2_with fail;refine(C2.out _).mono ?_;rintro e w' ⟨rfl,rfl⟩;go_wp2_with fail;refine(C1.out _).mono ?_;rintro e w' ⟨rfl,rfl⟩;go_wp2_with fail;refine(C3.out _).mono ?_;rintro e w' ⟨rfl,rfl⟩;go_wp2_with fail;go_ret;exact⟨rfl,rfl⟩
theorem rwsign_any(s:ByteArray)(w:World)(hs:s.size≤400000) :
  Calls Tryz.prog 59 #[.string s] w fun e w'=>e=.returned (.int .i64 (sgnW s.data.toList))∧w=w':=by
 have c1:=fun w=>ramount_any s w (by omega);have c2:=fun w=>rwmay_any s w hs
 cases h:isW s.data.toList with
 | false =>
  rw[sgnW_no h];rw[h]at c2;generalize amR s.data.toList=p at *;obtain⟨x,f⟩:=p;have C1:=zh c1;have C2:=zh c2
  clear c1 c2 hs h;go_enter Tryz.func59,Tryz.ntmps59;go_wp2_with fail;refine(C1.out _).mono ?_;rintro e w' ⟨rfl,rfl⟩;go_wp2_with fail;refine(C2.out _).mono ?_;rintro e w' ⟨rfl,rfl⟩;go_wp2_with fail;go_ret;exact⟨rfl,rfl⟩
 | true =>
  have hr:sgnW s.data.toList=if valW s.data.toList<0 then -1 else if valW s.data.toList=0 then 0 else 1:=by unfold sgnW;rw[h];rfl
  rw[hr];rw[h]at c2;rw[am_of h]at c1;generalize valW s.data.toList=z at *;by_cases h0:z=0
  ·rw[if_neg (by omega),if_pos h0];have e1:(dig z.natAbs == [48])=true:=by rw[h0];show (dig 0 == [48])=true;rw[dig_0];rfl
   rw[decide_eq_false (by omega)]at c1;have C1:=zh c1;have C2:=zh c2
   clear c1 c2 hs h hr h0;go_enter Tryz.func59,Tryz.ntmps59;go_wp2_with fail;refine(C1.out _).mono ?_;rintro e w' ⟨rfl,rfl⟩;go_wp2_with fail;refine(C2.out _).mono ?_;rintro e w' ⟨rfl,rfl⟩;go_wp2_with fail;go_ret;exact⟨rfl,rfl⟩
  ·have e4:=dig_ne48 (show z.natAbs≠0 by omega);have e5:=dig_neB (show z.natAbs≠0 by omega);rcases Int.lt_or_le z 0 with hz|hz
   ·rw[if_pos hz];rw[decide_eq_true hz]at c1;have C1:=zh c1;have C2:=zh c2
    clear c1 c2 hs h hr h0 hz;go_enter Tryz.func59,Tryz.ntmps59;go_wp2_with fail;refine(C1.out _).mono ?_;rintro e w' ⟨rfl,rfl⟩;go_wp2_with fail;refine(C2.out _).mono ?_;rintro e w' ⟨rfl,rfl⟩;go_wp2_with fail;go_ret;exact⟨rfl,rfl⟩
   ·rw[if_neg (by omega),if_neg h0];rw[decide_eq_false (by omega)]at c1;have C1:=zh c1;have C2:=zh c2
    clear c1 c2 hs h hr h0 hz;go_enter Tryz.func59,Tryz.ntmps59;go_wp2_with fail;refine(C1.out _).mono ?_;rintro e w' ⟨rfl,rfl⟩;go_wp2_with fail;refine(C2.out _).mono ?_;rintro e w' ⟨rfl,rfl⟩;go_wp2_with fail;go_ret;exact⟨rfl,rfl⟩
theorem rwof_any(n:Int)(w:World)(h0:-9223372036854775808≤n)(h1:n≤9223372036854775807) :
  Calls Tryz.prog 55 #[.int .i64 n] w (GiveS w (wd n)):=by
 rcases Int.lt_or_le n 0 with h|h
 ·obtain⟨m,hm⟩:∃m:Nat,-(n+1)=(m:Int):=⟨(-(n+1)).toNat,by omega⟩;have hr:wd n=45::dig (m+1):=by rw[wd_neg h];congr 2;omega
  rw[hr];have hof:ofS (-(n+1))=dig m:=by unfold ofS;rw[if_neg (by omega),hm];rfl
  have c1:=fun w=>rof_any (-(n+1)) w (by omega) (by omega);rw[hof]at c1;have hm20:m+1≤9223372036854775808:=by omega
  have lm:Lt m 20:=⟨Nat.lt_of_lt_of_le (show m<9223372036854775808 by omega) (by decide),by decide,by decide⟩;have lm1:(dig (m+1)).length≤20:=dig_length (by decide) (Nat.lt_of_le_of_lt hm20 (by decide));have l1':Lt 1 1:=⟨by decide,by decide,by decide⟩;have cA:∀w,Calls Tryz.prog 89 #[.string ⟨(dig m).toArray⟩,.string ⟨#[49]⟩] w (GiveS w (dig (m+1))):=fun w=>by
   have c:=rnAdd lm l1' (show m+1=m+1 from rfl) w;rw[dig_1]at c;exact c
  have hadd:=fun w=>run_string_add_sum (P:=Tryz.prog) w (⟨#[45]⟩:ByteArray) ⟨(dig (m+1)).toArray⟩ (by show 1+(dig (m+1)).toArray.size≤_;rw[List.size_toArray];omega);rw[minus_add]at hadd;have C1:=zh c1;have CA:=zh cA
  have hb1:n+1≤0:=by omega
  clear c1 cA lm lm1 l1' hm20 hof hr hm;go_enter Tryz.func55,Tryz.ntmps55;go_wp2_with fail;refine(C1.out _).mono ?_;rintro e w' ⟨rfl,rfl⟩;go_wp2_with fail;refine(CA.out _).mono ?_;rintro e w1 ⟨rfl,b⟩;have B1:=b;clear b;go_wp2_with fail;go_ret;exact⟨rfl,B1⟩
 ·have c1:=fun w=>rof_any n w h0 h1;have hof:ofS n=wd n:=by unfold ofS;rw[if_neg (by omega),wd_pos h];congr 1;omega
  rw[hof]at c1;have C1:=zh c1;have h':¬n<0:=by omega
  clear c1 hof h;go_enter Tryz.func55,Tryz.ntmps55;go_wp2_with fail;refine(C1.out _).mono ?_;rintro e w' ⟨rfl,rfl⟩;go_wp2_with fail;go_ret;exact⟨rfl,Below.refl _ _⟩
end Go.Proofs.YthgopcnagecbaaaGreatDoor
namespace Go.Proofs.YthgopcnagecbaaaGreatDoor
open Go.RowKit
theorem sv_same(f:Bool)(m n:Nat):sv f (m+n)=sv f m+sv f n:=by cases f<;>simp[sv]<;>omega
theorem sv_left{f g:Bool}(h:f≠g){m n:Nat}(hle:n≤m):sv f (m-n)=sv f m+sv g n:=by
 cases f<;>cases g<;>simp[sv]at h ⊢<;>omega
theorem sv_right{f g:Bool}(h:f≠g){m n:Nat}(hle:m≤n):sv g (n-m)=sv f m+sv g n:=by
 cases f<;>cases g<;>simp[sv]at h ⊢<;>omega
theorem rwadd_any(s t:ByteArray)(w:World)(hs:s.size≤400000)(ht:t.size≤400000) :
  Calls Tryz.prog 52 #[.string s,.string t] w (GiveS w (addW s.data.toList t.data.toList)):=by
 have m1:=fun w=>rwmay_any s w hs;have m2:=fun w=>rwmay_any t w ht
 cases h1:isW s.data.toList with
 | false =>
  have hr:addW s.data.toList t.data.toList=[]:=by unfold addW;rw[h1];rfl
  rw[hr];rw[h1]at m1;have M1:=zh m1;clear m1 m2 hs ht h1 hr;go_enter Tryz.func52,Tryz.ntmps52;go_wp2_with fail;refine(M1.out _).mono ?_;rintro e w' ⟨rfl,rfl⟩;go_wp2_with fail;go_ret;exact⟨rfl,Below.refl _ _⟩
 | true=>cases h2:isW t.data.toList with
  | false =>
   have hr:addW s.data.toList t.data.toList=[]:=by unfold addW;rw[h1,h2];rfl
   rw[hr];rw[h1]at m1;rw[h2]at m2;have M1:=zh m1;have M2:=zh m2
   clear m1 m2 hs ht h1 h2 hr;go_enter Tryz.func52,Tryz.ntmps52;go_wp2_with fail;refine(M1.out _).mono ?_;rintro e w' ⟨rfl,rfl⟩;go_wp2_with fail;refine(M2.out _).mono ?_;rintro e w' ⟨rfl,rfl⟩;go_wp2_with fail;go_ret;exact⟨rfl,Below.refl _ _⟩
  | true =>
   have hr:addW s.data.toList t.data.toList=wd (valW s.data.toList+valW t.data.toList):=by unfold addW;rw[h1,h2];rfl
   rw[hr];have c1:=fun w=>ramount_any s w (by omega);have c2:=fun w=>ramount_any t w (by omega);rw[am_of h1]at c1;rw[am_of h2]at c2;rw[h1]at m1;rw[h2]at m2;have l1:Lt (valW s.data.toList).natAbs 400000:=Lt.of_len (Nat.le_trans (wd_len h1) hs) (by decide) (by decide);have l2:Lt (valW t.data.toList).natAbs 400000:=Lt.of_len (Nat.le_trans (wd_len h2) ht) (by decide) (by decide);rw[←sv_val (valW s.data.toList),← sv_val (valW t.data.toList)];clear hr h1 h2 hs ht;generalize decide (valW s.data.toList<0)=f at *;generalize decide (valW t.data.toList<0)=g at *;generalize (valW s.data.toList).natAbs=m at *;generalize (valW t.data.toList).natAbs=n at *;by_cases hfg:f=g
   ·subst hfg;rw[←sv_same,← wiR_dig];have cw:=fun w=>rwith_any f (dig (m+n)) w (Nat.le_trans (Lt.add l1 l2 (by decide)).len (by decide));have CW:=zh cw;have C1:=zh c1;have C2:=zh c2;have M1:=zh m1;have M2:=zh m2;have L1:=zh l1;have L2:=zh l2
    clear c1 c2 m1 m2 l1 l2 cw;go_enter Tryz.func52,Tryz.ntmps52;go_wp2_with fail;refine(M1.out _).mono ?_;rintro e w' ⟨rfl,rfl⟩;go_wp2_with fail;refine(M2.out _).mono ?_;rintro e w' ⟨rfl,rfl⟩;go_wp2_with fail;refine(C1.out _).mono ?_;rintro e w' ⟨rfl,rfl⟩;go_wp2_with fail;refine(C2.out _).mono ?_;rintro e w' ⟨rfl,rfl⟩;go_wp2_with fail;refine(rnAdd L1.out L2.out rfl _).mono ?_;rintro e w1 ⟨rfl,b⟩;have B1:=b;clear b;go_wp2_with fail;refine(CW.out _).mono ?_;rintro e w' ⟨rfl,rfl⟩;go_wp2_with fail;go_ret;exact⟨rfl,B1⟩
   ·have hB:(f==g)=false:=beq_false_of_ne hfg;have hN:¬f=g:=hfg;by_cases hle:n≤m
    ·rw[←sv_left hfg hle,← wiR_dig];have cw:=fun w=>rwith_any f (dig (m-n)) w (Nat.le_trans (Lt.mono l1 (Nat.sub_le m n)).len (by decide));have cc:=fun w=>rnCmp l1 l2 rfl w;have hz:=cmpN_ge hle;generalize cmpN m n=z at *;have CW:=zh cw;have CC:=zh cc;have HLE:=zh hle
     have C1:=zh c1;have C2:=zh c2;have M1:=zh m1;have M2:=zh m2;have L1:=zh l1;have L2:=zh l2
     clear c1 c2 m1 m2 l1 l2 cw cc hle hfg;go_enter Tryz.func52,Tryz.ntmps52;go_wp2_with fail;refine(M1.out _).mono ?_;rintro e w' ⟨rfl,rfl⟩;go_wp2_with fail;refine(M2.out _).mono ?_;rintro e w' ⟨rfl,rfl⟩;go_wp2_with fail;refine(C1.out _).mono ?_;rintro e w' ⟨rfl,rfl⟩;go_wp2_with fail;refine(C2.out _).mono ?_;rintro e w' ⟨rfl,rfl⟩;go_wp2_with fail;refine(CC.out _).mono ?_;rintro e w' ⟨rfl,rfl⟩;go_wp2_with fail;refine(rnSub L1.out L2.out HLE.out rfl _).mono ?_;rintro e w1 ⟨rfl,b⟩;have B1:=b;clear b;go_wp2_with fail;refine(CW.out _).mono ?_;rintro e w' ⟨rfl,rfl⟩;go_wp2_with fail;go_ret;exact⟨rfl,B1⟩
    ·have hlt:m<n:=by omega
     rw[←sv_right hfg (Nat.le_of_lt hlt),← wiR_dig];have cw:=fun w=>rwith_any g (dig (n-m)) w (Nat.le_trans (Lt.mono l2 (Nat.sub_le n m)).len (by decide));have cc:=fun w=>rnCmp l1 l2 (cmpN_lt hlt) w;have CW:=zh cw;have CC:=zh cc;have HLE:=zh (Nat.le_of_lt hlt)
     have C1:=zh c1;have C2:=zh c2;have M1:=zh m1;have M2:=zh m2;have L1:=zh l1;have L2:=zh l2
     clear c1 c2 m1 m2 l1 l2 cw cc hle hlt hfg;go_enter Tryz.func52,Tryz.ntmps52;go_wp2_with fail;refine(M1.out _).mono ?_;rintro e w' ⟨rfl,rfl⟩;go_wp2_with fail;refine(M2.out _).mono ?_;rintro e w' ⟨rfl,rfl⟩;go_wp2_with fail;refine(C1.out _).mono ?_;rintro e w' ⟨rfl,rfl⟩;go_wp2_with fail;refine(C2.out _).mono ?_;rintro e w' ⟨rfl,rfl⟩;go_wp2_with fail;refine(CC.out _).mono ?_;rintro e w' ⟨rfl,rfl⟩;go_wp2_with fail;refine(rnSub L2.out L1.out HLE.out rfl _).mono ?_;rintro e w1 ⟨rfl,b⟩;have B1:=b;clear b;go_wp2_with fail;refine(CW.out _).mono ?_;rintro e w' ⟨rfl,rfl⟩;go_wp2_with fail;go_ret;exact⟨rfl,B1⟩
theorem wd_length(z:Int):(wd z).length≤(dig z.natAbs).length+1:=by
 unfold wd;split
 ·rw[List.length_cons];exact Nat.le_refl _
 ·omega
theorem sv_mul(a b:Int):sv (decide (a<0) != decide (b<0)) (a.natAbs*b.natAbs)=a*b:=by
 rw[←Int.natAbs_mul];unfold sv;by_cases h1:a<0<;>by_cases h2:b<0<;>simp only[h1,h2,decide_true,decide_false,bne_self_eq_false,Bool.false_eq_true,if_false,Bool.bne_true,Bool.bne_false,Bool.not_false,if_true]
 ·have:=Int.mul_nonneg_of_nonpos_of_nonpos (Int.le_of_lt h1) (Int.le_of_lt h2);omega
 ·have:=Int.mul_nonpos_of_nonpos_of_nonneg (Int.le_of_lt h1) (Int.le_of_not_gt h2);omega
 ·have:=Int.mul_nonpos_of_nonneg_of_nonpos (Int.le_of_not_gt h1) (Int.le_of_lt h2);omega
 ·have:=Int.mul_nonneg (Int.le_of_not_gt h1) (Int.le_of_not_gt h2);omega
theorem rwmul_any(s t:ByteArray)(w:World)(hs:s.size≤400000)(ht:t.size≤400000) :
  Calls Tryz.prog 53 #[.string s,.string t] w (GiveS w (mulW s.data.toList t.data.toList)):=by
 have m1:=fun w=>rwmay_any s w hs;have m2:=fun w=>rwmay_any t w ht
 cases h1:isW s.data.toList with
 | false =>
  have hr:mulW s.data.toList t.data.toList=[]:=by unfold mulW;rw[h1];rfl
  rw[hr];rw[h1]at m1;have M1:=zh m1;clear m1 m2 hs ht h1 hr;go_enter Tryz.func53,Tryz.ntmps53;go_wp2_with fail;refine(M1.out _).mono ?_;rintro e w' ⟨rfl,rfl⟩;go_wp2_with fail;go_ret;exact⟨rfl,Below.refl _ _⟩
 | true=>cases h2:isW t.data.toList with
  | false =>
   have hr:mulW s.data.toList t.data.toList=[]:=by unfold mulW;rw[h1,h2];rfl
   rw[hr];rw[h1]at m1;rw[h2]at m2;have M1:=zh m1;have M2:=zh m2
   clear m1 m2 hs ht h1 h2 hr;go_enter Tryz.func53,Tryz.ntmps53;go_wp2_with fail;refine(M1.out _).mono ?_;rintro e w' ⟨rfl,rfl⟩;go_wp2_with fail;refine(M2.out _).mono ?_;rintro e w' ⟨rfl,rfl⟩;go_wp2_with fail;go_ret;exact⟨rfl,Below.refl _ _⟩
  | true =>
   have hr:mulW s.data.toList t.data.toList=wd (valW s.data.toList*valW t.data.toList):=by unfold mulW;rw[h1,h2];rfl
   rw[hr];have c1:=fun w=>ramount_any s w (by omega);have c2:=fun w=>ramount_any t w (by omega);rw[am_of h1]at c1;rw[am_of h2]at c2;rw[h1]at m1;rw[h2]at m2;have l1:Lt (valW s.data.toList).natAbs 400000:=Lt.of_len (Nat.le_trans (wd_len h1) hs) (by decide) (by decide);have l2:Lt (valW t.data.toList).natAbs 400000:=Lt.of_len (Nat.le_trans (wd_len h2) ht) (by decide) (by decide);rw[←sv_mul,← wiR_dig];clear hr h1 h2 hs ht;generalize decide (valW s.data.toList<0)=f at *;generalize decide (valW t.data.toList<0)=g at *;generalize (valW s.data.toList).natAbs=m at *;generalize (valW t.data.toList).natAbs=n at *;have cw:=fun w=>rwith_any (f != g) (dig (m*n)) w (Nat.le_trans (Lt.mul l1 l2 (by decide)).len (by decide));have CW:=zh cw;have C1:=zh c1;have C2:=zh c2;have M1:=zh m1;have M2:=zh m2;have L1:=zh l1;have L2:=zh l2
   clear c1 c2 m1 m2 l1 l2 cw;go_enter Tryz.func53,Tryz.ntmps53;go_wp2_with fail;refine(M1.out _).mono ?_;rintro e w' ⟨rfl,rfl⟩;go_wp2_with fail;refine(M2.out _).mono ?_;rintro e w' ⟨rfl,rfl⟩;go_wp2_with fail;refine(C1.out _).mono ?_;rintro e w' ⟨rfl,rfl⟩;go_wp2_with fail;refine(C2.out _).mono ?_;rintro e w' ⟨rfl,rfl⟩;go_wp2_with fail;refine(rnMul L1.out L2.out rfl _).mono ?_;rintro e w1 ⟨rfl,b⟩;have B1:=b;clear b;go_wp2_with fail;refine(CW.out _).mono ?_;rintro e w' ⟨rfl,rfl⟩;go_wp2_with fail;go_ret;exact⟨rfl,B1⟩
theorem rwdiv_any(s t:ByteArray)(w:World)(hs:s.size≤400000)(ht:t.size≤400000) :
  Calls Tryz.prog 87 #[.string s,.string t] w (GiveSSB w (divW s.data.toList t.data.toList)):=by
 have m1:=fun w=>rwmay_any s w hs;have m2:=fun w=>rwmay_any t w ht
 cases h1:isW s.data.toList with
 | false =>
  have hr:divW s.data.toList t.data.toList=([],[],false):=by unfold divW;rw[h1];rfl
  rw[hr];rw[h1]at m1;have M1:=zh m1;clear m1 m2 hs ht h1 hr;go_enter Tryz.func87,Tryz.ntmps87;go_wp2_with fail;refine(M1.out _).mono ?_;rintro e w' ⟨rfl,rfl⟩;go_wp2_with fail
  go_ret3
  exact⟨rfl,Below.refl _ _⟩
 | true=>cases h2:isW t.data.toList with
  | false =>
   have hr:divW s.data.toList t.data.toList=([],[],false):=by unfold divW;rw[h1,h2];rfl
   rw[hr];rw[h1]at m1;rw[h2]at m2;have M1:=zh m1;have M2:=zh m2
   clear m1 m2 hs ht h1 h2 hr;go_enter Tryz.func87,Tryz.ntmps87;go_wp2_with fail;refine(M1.out _).mono ?_;rintro e w' ⟨rfl,rfl⟩;go_wp2_with fail;refine(M2.out _).mono ?_;rintro e w' ⟨rfl,rfl⟩;go_wp2_with fail
   go_ret3
   exact⟨rfl,Below.refl _ _⟩
  | true =>
   by_cases hb:valW t.data.toList=0
   ·rw[divW_no (by rw[hb];simp)];have ht48:t.data.toList=[48]:=by rw[←wd_valW h2,hb,wd_pos (by decide)];exact dig_0
    have e1:=eqB_true ht48;have e2:=toList_is ht48;rw[h1]at m1;rw[h2]at m2;have M1:=zh m1;have M2:=zh m2
    clear m1 m2 hs ht h1 h2 hb ht48;go_enter Tryz.func87,Tryz.ntmps87;go_wp2_with fail;refine(M1.out _).mono ?_;rintro e w' ⟨rfl,rfl⟩;go_wp2_with fail;refine(M2.out _).mono ?_;rintro e w' ⟨rfl,rfl⟩;go_wp2_with fail
    go_ret3
    exact⟨rfl,Below.refl _ _⟩
   ·have hr:divW s.data.toList t.data.toList=(wd (valW s.data.toList / valW t.data.toList),wd (valW s.data.toList % valW t.data.toList),true):=by
     unfold divW;rw[h1,h2,beq_false_of_ne hb];rfl
    rw[hr];have hne:t.data.toList≠[48]:=fun e=>hb (by rw[e];rfl);have e1:=eqB_false hne;have e2:=eqS_false hne;have c1:=fun w=>ramount_any s w (by omega);have c2:=fun w=>ramount_any t w (by omega);rw[am_of h1]at c1;rw[am_of h2]at c2;rw[h1]at m1;rw[h2]at m2;have l1:Lt (valW s.data.toList).natAbs 400000:=Lt.of_len (Nat.le_trans (wd_len h1) hs) (by decide) (by decide);have l2:Lt (valW t.data.toList).natAbs 400000:=Lt.of_len (Nat.le_trans (wd_len h2) ht) (by decide) (by decide);clear hr h1 h2 hs ht hne;generalize valW s.data.toList=a at *;generalize valW t.data.toList=b at *;have hb0:0<b.natAbs:=by omega
    obtain⟨q,hq⟩:∃q,a.natAbs / b.natAbs=q:=⟨_,rfl⟩;obtain⟨r,hrr⟩:∃r,a.natAbs % b.natAbs=r:=⟨_,rfl⟩;have hrb:r<b.natAbs:=by rw[←hrr];exact Nat.mod_lt _ hb0
    have lq:Lt q 400000:=Lt.mono l1 (by rw[←hq];exact Nat.div_le_self _ _);have lr:Lt r 400000:=Lt.mono l1 (by rw[←hrr];exact Nat.mod_le _ _);have l1':Lt 1 1:=⟨by decide,by decide,by decide⟩;have LQ:=zh lq;have LR:=zh lr;have HB:=zh hb0;have HQ:=zh hq;have HR:=zh hrr
    by_cases hm:a<0∧r≠0
    ·obtain⟨ha,hr0⟩:=hm;have hd:=div_more hb ha (by rw[hrr];exact hr0);rw[hq,hrr]at hd;rw[hd.1,hd.2,wd_nat,← wiR_dig];rw[decide_eq_true ha]at c1;rw[Bool.true_bne];generalize decide (b<0)=g at *;have cA:∀w,Calls Tryz.prog 89 #[.string ⟨(dig q).toArray⟩,.string ⟨#[49]⟩] w (GiveS w (dig (q+1))):=fun w=>by
      have c:=rnAdd lq l1' (show q+1=q+1 from rfl) w;rw[dig_1]at c;exact c
     have cS:=fun w=>rnSub l2 lr (Nat.le_of_lt hrb) (show b.natAbs-r=b.natAbs-r from rfl) w;have cG:=fun w=>rwith_any (!g) (dig (q+1)) w (Nat.le_trans (Lt.add lq l1' (by decide)).len (by decide));have f1:=dig_neB hr0;have f2:=dig_ne48 hr0;have CA:=zh cA;have CS:=zh cS;have CG:=zh cG
     have C1:=zh c1;have C2:=zh c2;have M1:=zh m1;have M2:=zh m2;have L1:=zh l1;have L2:=zh l2
     clear cA cS cG c1 c2 m1 m2 hd ha hr0 hq hrr hrb lq lr l1 l2 l1' hb hb0;go_enter Tryz.func87,Tryz.ntmps87;go_wp2_with fail;refine(M1.out _).mono ?_;rintro e w' ⟨rfl,rfl⟩;go_wp2_with fail;refine(M2.out _).mono ?_;rintro e w' ⟨rfl,rfl⟩;go_wp2_with fail;refine(C1.out _).mono ?_;rintro e w' ⟨rfl,rfl⟩;go_wp2_with fail;refine(C2.out _).mono ?_;rintro e w' ⟨rfl,rfl⟩;go_wp2_with fail;refine(rnDiv L1.out L2.out HB.out HQ.out HR.out _).mono ?_;rintro e w1 ⟨rfl,b⟩;have B1:=b;clear b;go_wp2_with fail;refine(CA.out _).mono ?_;rintro e w2 ⟨rfl,b⟩;have B2:=Below.more B1 b;clear b;go_wp2_with fail;refine(CS.out _).mono ?_;rintro e w3 ⟨rfl,b⟩;have B3:=Below.more B2 b;clear b;go_wp2_with fail;refine(CG.out _).mono ?_;rintro e w' ⟨rfl,rfl⟩;go_wp2_with fail
     go_ret3
     exact⟨rfl,B3⟩
    ·have hd:=div_plain (a:=a) hb (by rw[hrr];omega);rw[hq,hrr]at hd;rw[hd.1,hd.2,wd_nat,← wiR_dig];have cG:=fun (f:Bool) w=>rwith_any f (dig q) w (Nat.le_trans lq.len (by decide));by_cases ha:a<0
     ·have hr0:r=0:=by omega
      rw[decide_eq_true ha]at c1 ⊢;rw[Bool.true_bne];generalize decide (b<0)=g at *;have f1:(dig r == [48])=true:=by rw[hr0,dig_0];rfl
      have CG:=zh cG;have C1:=zh c1;have C2:=zh c2;have M1:=zh m1;have M2:=zh m2;have L1:=zh l1;have L2:=zh l2
      clear cG c1 c2 m1 m2 hd ha hr0 hq hrr hrb lq lr l1 l2 l1' hb hb0 hm;go_enter Tryz.func87,Tryz.ntmps87;go_wp2_with fail;refine(M1.out _).mono ?_;rintro e w' ⟨rfl,rfl⟩;go_wp2_with fail;refine(M2.out _).mono ?_;rintro e w' ⟨rfl,rfl⟩;go_wp2_with fail;refine(C1.out _).mono ?_;rintro e w' ⟨rfl,rfl⟩;go_wp2_with fail;refine(C2.out _).mono ?_;rintro e w' ⟨rfl,rfl⟩;go_wp2_with fail;refine(rnDiv L1.out L2.out HB.out HQ.out HR.out _).mono ?_;rintro e w1 ⟨rfl,b⟩;have B1:=b;clear b;go_wp2_with fail;refine(CG.out _ _).mono ?_;rintro e w' ⟨rfl,rfl⟩;go_wp2_with fail
      go_ret3
      exact⟨rfl,B1⟩
     ·rw[decide_eq_false ha]at c1 ⊢;rw[Bool.false_bne];generalize decide (b<0)=g at *;have CG:=zh cG;have C1:=zh c1;have C2:=zh c2;have M1:=zh m1;have M2:=zh m2;have L1:=zh l1;have L2:=zh l2
      clear cG c1 c2 m1 m2 hd ha hq hrr hrb lq lr l1 l2 l1' hb hb0 hm;go_enter Tryz.func87,Tryz.ntmps87;go_wp2_with fail;refine(M1.out _).mono ?_;rintro e w' ⟨rfl,rfl⟩;go_wp2_with fail;refine(M2.out _).mono ?_;rintro e w' ⟨rfl,rfl⟩;go_wp2_with fail;refine(C1.out _).mono ?_;rintro e w' ⟨rfl,rfl⟩;go_wp2_with fail;refine(C2.out _).mono ?_;rintro e w' ⟨rfl,rfl⟩;go_wp2_with fail;refine(rnDiv L1.out L2.out HB.out HQ.out HR.out _).mono ?_;rintro e w1 ⟨rfl,b⟩;have B1:=b;clear b;go_wp2_with fail;refine(CG.out _ _).mono ?_;rintro e w' ⟨rfl,rfl⟩;go_wp2_with fail
      go_ret3
      exact⟨rfl,B1⟩
end Go.Proofs.YthgopcnagecbaaaGreatDoor
