/- Own work. -/
import Derived.Test.YtmllklfjngapiaaGreatDoorAllWholeM
set_option maxHeartbeats 2000000
set_option maxRecDepth 100000
namespace Go.Proofs.YtmllklfjngapiaaGreatDoor
open Go.RowKit
section
variable {a b j k : Nat}
theorem rnAdd{x:Nat}(ha:Lt a j)(hb:Lt b k)(h:a+b=x)(w:World) :
  Calls Tryz.prog 61 #[.string ⟨(dig a).toArray⟩,.string ⟨(dig b).toArray⟩] w (GiveS w (dig x)):=by
 have c:=radd_any ⟨(dig a).toArray⟩ ⟨(dig b).toArray⟩ w (Nat.le_trans ha.size (by decide)) (Nat.le_trans hb.size (by decide));have e:addS (⟨(dig a).toArray⟩:ByteArray).data.toList (⟨(dig b).toArray⟩:ByteArray).data.toList=dig x:=by
  show addS (dig a) (dig b)=_;unfold addS;rw[isNat_dig,isNat_dig,valS_dig,valS_dig,h];rfl
 rw[e]at c;exact c
theorem rnMul{x:Nat}(ha:Lt a j)(hb:Lt b k)(h:a*b=x)(w:World) :
  Calls Tryz.prog 170 #[.string ⟨(dig a).toArray⟩,.string ⟨(dig b).toArray⟩] w (GiveS w (dig x)):=by
 have c:=rmul_any ⟨(dig a).toArray⟩ ⟨(dig b).toArray⟩ w (Nat.le_trans ha.size (by decide)) (Nat.le_trans hb.size (by decide));have e:mulS (⟨(dig a).toArray⟩:ByteArray).data.toList (⟨(dig b).toArray⟩:ByteArray).data.toList=dig x:=by
  show mulS (dig a) (dig b)=_;unfold mulS;rw[isNat_dig,isNat_dig,valS_dig,valS_dig,h];rfl
 rw[e]at c;exact c
theorem rnSub{x:Nat}(ha:Lt a j)(hb:Lt b k)(hle:b≤a)(h:a-b=x)(w:World) :
  Calls Tryz.prog 167 #[.string ⟨(dig a).toArray⟩,.string ⟨(dig b).toArray⟩] w (GiveSB w (dig x,true)):=by
 have c:=rsub_any ⟨(dig a).toArray⟩ ⟨(dig b).toArray⟩ w (Nat.le_trans ha.size (by decide)) (Nat.le_trans hb.size (by decide));have e:subS (⟨(dig a).toArray⟩:ByteArray).data.toList (⟨(dig b).toArray⟩:ByteArray).data.toList=(dig x,true):=by
  show subS (dig a) (dig b)=_;unfold subS;rw[isNat_dig,isNat_dig,valS_dig,valS_dig,decide_eq_true hle,h];rfl
 rw[e]at c;exact c
theorem rnDiv{q r:Nat}(ha:Lt a j)(hb:Lt b k)(h0:0<b)(hq:a / b=q)(hr:a % b=r)(w:World) :
  Calls Tryz.prog 128 #[.string ⟨(dig a).toArray⟩,.string ⟨(dig b).toArray⟩] w (GiveSSB w (dig q,dig r,true)):=by
 have c:=rdiv_any ⟨(dig a).toArray⟩ ⟨(dig b).toArray⟩ w (Nat.le_trans ha.size (by decide)) (Nat.le_trans hb.size (by decide));have e:divS (⟨(dig a).toArray⟩:ByteArray).data.toList (⟨(dig b).toArray⟩:ByteArray).data.toList=(dig q,dig r,true):=by
  show divS (dig a) (dig b)=_;unfold divS;rw[isNat_dig,isNat_dig,valS_dig,valS_dig,decide_eq_true h0,hq,hr];rfl
 rw[e]at c;exact c
end
def amR(l:List UInt8):List UInt8×Bool:=if l.head?=some 45 then (l.tail,true) else (l,false)
theorem amR_yes(r:List UInt8):amR (45::r)=(r,true):=rfl
theorem amR_no{l:List UInt8}(h:l.head?≠some 45):amR l=(l,false):=by unfold amR;rw[if_neg h]
theorem amR_wd(z:Int):amR (wd z)=(dig z.natAbs,decide (z<0)):=by
 by_cases h:z<0
 ·rw[wd_neg h,amR_yes,decide_eq_true h]
 ·rw[wd_pos (by omega),decide_eq_false h,amR_no];obtain⟨c,r,e,hc⟩:=dig_cons z.natAbs;rw[e];simpa using hc
theorem amR_len(l:List UInt8):(amR l).1.length≤l.length:=by
 unfold amR;split
 ·rw[List.length_tail];omega
 ·exact Nat.le_refl _
theorem same_text(s:ByteArray):s=⟨s.data.toList.toArray⟩:=bytes_eq rfl
theorem ret_sb{s:ByteArray}{l:List UInt8}{b:Bool}(h:s.data.toList=l):Ending.returned (.tuple #[.string s,.bool b])=.returned (.tuple #[.string ⟨l.toArray⟩,.bool b]):=by
 rw[←h,← same_text]
theorem head_idx{s:ByteArray}(h:0<s.size):s.data.toList.head?=some s[0]:=by rw[List.head?_eq_getElem?,byte_at s 0 h]
theorem ramount_any(s:ByteArray)(w:World)(hs:s.size≤4611686018427387904) :
  Calls Tryz.prog 98 #[.string s] w fun e w'=>e=.returned (.tuple #[.string ⟨(amR s.data.toList).1.toArray⟩,.bool (amR s.data.toList).2])∧w=w':=by
 by_cases hm:s.data.toList.head?=some 45
 ·obtain⟨r,hr⟩:=minus_of hm;have h0:0<s.size:=by rw[←size_toList,hr,List.length_cons];omega
  have h1:(s[0].toNat:Int)=45:=by
   rw[head_idx h0]at hm;have e:s[0]=45:=by simpa using hm
   rw[e];rfl
  have ha:amR s.data.toList=(r,true):=by rw[hr];rfl
  have hx:=str_drop (s:=s) (k:=1) (l:=r) (by rw[hr];rfl);rw[ha];have HX:=zh hx;clear hm hr ha hx;go_enter Tryz.func98,Tryz.ntmps98
  go_wp2
  go_ret2
  exact⟨by rw[HX.out];rfl,rfl⟩
 ·rw[amR_no hm];have ht:s.data.toList=s.data.toList:=rfl;have HT:=zh ht;clear ht;by_cases h0:0<s.size
  ·have h1:¬(s[0].toNat:Int)=45:=by
    intro e;apply hm;rw[head_idx h0];exact congrArg some (UInt8.toNat_inj.1 (by show s[0].toNat=45;omega))
   clear hm;go_enter Tryz.func98,Tryz.ntmps98
   go_wp2
   go_ret2
   exact⟨ret_sb rfl,rfl⟩
  ·have h1:¬(0:Int)<(s.size:Int):=by omega
   clear hm;go_enter Tryz.func98,Tryz.ntmps98
   go_wp2
   go_ret2
   exact⟨ret_sb rfl,rfl⟩
def wiR(l:List UInt8)(b:Bool):List UInt8:=if b&&!(l == [48]) then 45::l else l
theorem wiR_dig(b:Bool)(n:Nat):wiR (dig n) b=wd (sv b n):=by
 rw[←sgW_dig];unfold wiR sgW;rw[show (dig n == [])=false from beq_false_of_ne (dig_ne n)]
 rfl
theorem rwith_any(b:Bool)(l:List UInt8)(w:World)(hl:l.length≤4611686018427387904) :
  Calls Tryz.prog 199 #[.string ⟨l.toArray⟩,.bool b] w fun e w'=>e=.returned (.string ⟨(wiR l b).toArray⟩)∧w=w':=by
 cases b with
 | false =>
  have hr:wiR l false=l:=rfl;rw[hr];clear hr;go_enter Tryz.func199,Tryz.ntmps199
  go_wp2
  go_ret;exact⟨rfl,rfl⟩
 | true =>
  by_cases h1:l=[48]
  ·subst h1;go_enter Tryz.func199,Tryz.ntmps199
   go_wp2
   go_ret;exact⟨rfl,rfl⟩
  ·have e2:(l == [48])=false:=beq_false_of_ne h1;have hr:wiR l true=45::l:=by unfold wiR;rw[e2];rfl
   rw[hr];have hadd:=fun w=>run_string_add_sum (P:=Tryz.prog) w (⟨#[45]⟩:ByteArray) ⟨l.toArray⟩ (by show 1+l.toArray.size≤_;rw[List.size_toArray];omega);rw[minus_add]at hadd;clear hr;go_enter Tryz.func199,Tryz.ntmps199
   go_wp2
   go_ret;exact⟨rfl,rfl⟩
theorem rwmay_any(s:ByteArray)(w:World)(hs:s.size≤400000) :
  Calls Tryz.prog 95 #[.string s] w fun e w'=>e=.returned (.bool (isW s.data.toList))∧w=w':=by
 have c1:=fun w=>ramount_any s w (by omega);have l1:=amR_len s.data.toList;rw[size_toList]at l1;have c2:=fun w=>rmay_any ⟨(amR s.data.toList).1.toArray⟩ w (by show (amR s.data.toList).1.toArray.size≤_;rw[List.size_toArray];omega);have er:isNat (⟨(amR s.data.toList).1.toArray⟩:ByteArray).data.toList=isNat (amR s.data.toList).1:=rfl;rw[er]at c2;clear er;by_cases hm:s.data.toList.head?=some 45
 ·obtain⟨r,hr⟩:=minus_of hm;rw[hr,isW_minus];rw[hr,amR_yes]at c1 c2
  cases h1:isNat r with
  | false =>
   simp only[h1]at c2;have C1:=zh c1;have C2:=zh c2
   clear c1 c2 hs l1 hm hr h1;go_enter Tryz.func95,Tryz.ntmps95;go_wp2_with fail;refine(C1.out _).mono ?_;rintro e w' ⟨rfl,rfl⟩;go_wp2_with fail;refine(C2.out _).mono ?_;rintro e w' ⟨rfl,rfl⟩;go_wp2_with fail;go_ret;exact⟨rfl,rfl⟩
  | true =>
   simp only[h1]at c2;have C1:=zh c1;have C2:=zh c2
   clear c1 c2 hs l1 hm hr h1;go_enter Tryz.func95,Tryz.ntmps95;go_wp2_with fail;refine(C1.out _).mono ?_;rintro e w' ⟨rfl,rfl⟩;go_wp2_with fail;refine(C2.out _).mono ?_;rintro e w' ⟨rfl,rfl⟩;go_wp2_with fail;go_ret;exact⟨rfl,rfl⟩
 ·rw[isW_plain hm];rw[amR_no hm]at c1 c2;generalize s.data.toList=l at *
  cases h1:isNat l with
  | false =>
   simp only[h1]at c2;have C1:=zh c1;have C2:=zh c2
   clear c1 c2 hs l1 hm h1;go_enter Tryz.func95,Tryz.ntmps95;go_wp2_with fail;refine(C1.out _).mono ?_;rintro e w' ⟨rfl,rfl⟩;go_wp2_with fail;refine(C2.out _).mono ?_;rintro e w' ⟨rfl,rfl⟩;go_wp2_with fail;go_ret;exact⟨rfl,rfl⟩
  | true =>
   simp only[h1]at c2;have C1:=zh c1;have C2:=zh c2
   clear c1 c2 hs l1 hm h1;go_enter Tryz.func95,Tryz.ntmps95;go_wp2_with fail;refine(C1.out _).mono ?_;rintro e w' ⟨rfl,rfl⟩;go_wp2_with fail;refine(C2.out _).mono ?_;rintro e w' ⟨rfl,rfl⟩;go_wp2_with fail;go_ret;exact⟨rfl,rfl⟩
theorem am_of{s:ByteArray}(h:isW s.data.toList=true):amR s.data.toList=(dig (valW s.data.toList).natAbs,decide (valW s.data.toList<0)):=by
 have e:=amR_wd (valW s.data.toList);rw[wd_valW h]at e;exact e
theorem rwabs_any(s:ByteArray)(w:World)(hs:s.size≤400000) :
  Calls Tryz.prog 58 #[.string s] w fun e w'=>e=.returned (.string ⟨(absW s.data.toList).toArray⟩)∧w=w':=by
 have c1:=fun w=>ramount_any s w (by omega);have c2:=fun w=>rwmay_any s w hs
 cases h:isW s.data.toList with
 | false =>
  have hr:absW s.data.toList=[]:=by unfold absW;rw[h];rfl
  rw[hr];rw[h]at c2;have C2:=zh c2;clear c1 c2 hs h hr;go_enter Tryz.func58,Tryz.ntmps58;go_wp2_with fail;refine(C2.out _).mono ?_;rintro e w' ⟨rfl,rfl⟩;go_wp2_with fail;go_ret;exact⟨rfl,rfl⟩
 | true =>
  have hr:absW s.data.toList=dig (valW s.data.toList).natAbs:=by unfold absW;rw[h];rfl
  rw[hr];rw[h]at c2;rw[am_of h]at c1;have l1:Lt (valW s.data.toList).natAbs 400000:=Lt.of_len (Nat.le_trans (wd_len h) hs) (by decide) (by decide);generalize valW s.data.toList=z at *;have C1:=zh c1;have C2:=zh c2
  clear c1 c2 hs h hr l1;go_enter Tryz.func58,Tryz.ntmps58;go_wp2_with fail;refine(C2.out _).mono ?_;rintro e w' ⟨rfl,rfl⟩;go_wp2_with fail;refine(C1.out _).mono ?_;rintro e w' ⟨rfl,rfl⟩;go_wp2_with fail;go_ret;exact⟨rfl,rfl⟩
theorem rwneg_any(s:ByteArray)(w:World)(hs:s.size≤400000) :
  Calls Tryz.prog 196 #[.string s] w fun e w'=>e=.returned (.string ⟨(negW s.data.toList).toArray⟩)∧w=w':=by
 have c1:=fun w=>ramount_any s w (by omega);have c2:=fun w=>rwmay_any s w hs
 cases h:isW s.data.toList with
 | false =>
  have hr:negW s.data.toList=[]:=by unfold negW;rw[h];rfl
  rw[hr];rw[h]at c2;have C2:=zh c2;clear c1 c2 hs h hr;go_enter Tryz.func196,Tryz.ntmps196;go_wp2_with fail;refine(C2.out _).mono ?_;rintro e w' ⟨rfl,rfl⟩;go_wp2_with fail;go_ret;exact⟨rfl,rfl⟩
 | true =>
  have hr:negW s.data.toList=wd (-valW s.data.toList):=by unfold negW;rw[h];rfl
  rw[hr];rw[h]at c2;rw[am_of h]at c1;have l1:Lt (valW s.data.toList).natAbs 400000:=Lt.of_len (Nat.le_trans (wd_len h) hs) (by decide) (by decide);have c3:=fun w=>rwith_any (!decide (valW s.data.toList<0)) (dig (valW s.data.toList).natAbs) w (Nat.le_trans l1.len (by decide));rw[wiR_dig,sv_neg]at c3;have C3:=zh c3;clear c3;generalize valW s.data.toList=z at *;have C1:=zh c1;have C2:=zh c2
  clear c1 c2 hs h hr l1;go_enter Tryz.func196,Tryz.ntmps196;go_wp2_with fail;refine(C2.out _).mono ?_;rintro e w' ⟨rfl,rfl⟩;go_wp2_with fail;refine(C1.out _).mono ?_;rintro e w' ⟨rfl,rfl⟩;go_wp2_with fail;refine(C3.out _).mono ?_;rintro e w' ⟨rfl,rfl⟩;go_wp2_with fail;go_ret;exact⟨rfl,rfl⟩
theorem rwsign_any(s:ByteArray)(w:World)(hs:s.size≤400000) :
  Calls Tryz.prog 129 #[.string s] w fun e w'=>e=.returned (.int .i64 (sgnW s.data.toList))∧w=w':=by
 have c1:=fun w=>ramount_any s w (by omega);have c2:=fun w=>rwmay_any s w hs
 cases h:isW s.data.toList with
 | false =>
  rw[sgnW_no h];rw[h]at c2;generalize amR s.data.toList=p at *;obtain⟨x,f⟩:=p;have C1:=zh c1;have C2:=zh c2
  clear c1 c2 hs h;go_enter Tryz.func129,Tryz.ntmps129;go_wp2_with fail;refine(C1.out _).mono ?_;rintro e w' ⟨rfl,rfl⟩;go_wp2_with fail;refine(C2.out _).mono ?_;rintro e w' ⟨rfl,rfl⟩;go_wp2_with fail;go_ret;exact⟨rfl,rfl⟩
 | true =>
  have hr:sgnW s.data.toList=if valW s.data.toList<0 then -1 else if valW s.data.toList=0 then 0 else 1:=by unfold sgnW;rw[h];rfl
  rw[hr];rw[h]at c2;rw[am_of h]at c1;generalize valW s.data.toList=z at *;by_cases h0:z=0
  ·rw[if_neg (by omega),if_pos h0];have e1:(dig z.natAbs == [48])=true:=by rw[h0];show (dig 0 == [48])=true;rw[dig_0];rfl
   rw[decide_eq_false (by omega)]at c1;have C1:=zh c1;have C2:=zh c2
   clear c1 c2 hs h hr h0;go_enter Tryz.func129,Tryz.ntmps129;go_wp2_with fail;refine(C1.out _).mono ?_;rintro e w' ⟨rfl,rfl⟩;go_wp2_with fail;refine(C2.out _).mono ?_;rintro e w' ⟨rfl,rfl⟩;go_wp2_with fail;go_ret;exact⟨rfl,rfl⟩
  ·have e4:=dig_ne48 (show z.natAbs≠0 by omega);have e5:=dig_neB (show z.natAbs≠0 by omega);rcases Int.lt_or_le z 0 with hz|hz
   ·rw[if_pos hz];rw[decide_eq_true hz]at c1;have C1:=zh c1;have C2:=zh c2
    clear c1 c2 hs h hr h0 hz;go_enter Tryz.func129,Tryz.ntmps129;go_wp2_with fail;refine(C1.out _).mono ?_;rintro e w' ⟨rfl,rfl⟩;go_wp2_with fail;refine(C2.out _).mono ?_;rintro e w' ⟨rfl,rfl⟩;go_wp2_with fail;go_ret;exact⟨rfl,rfl⟩
   ·rw[if_neg (by omega),if_neg h0];rw[decide_eq_false (by omega)]at c1;have C1:=zh c1;have C2:=zh c2
    clear c1 c2 hs h hr h0 hz;go_enter Tryz.func129,Tryz.ntmps129;go_wp2_with fail;refine(C1.out _).mono ?_;rintro e w' ⟨rfl,rfl⟩;go_wp2_with fail;refine(C2.out _).mono ?_;rintro e w' ⟨rfl,rfl⟩;go_wp2_with fail;go_ret;exact⟨rfl,rfl⟩
end Go.Proofs.YtmllklfjngapiaaGreatDoor
namespace Go.Proofs.YtmllklfjngapiaaGreatDoor
open Go.RowKit
theorem wd_length(z:Int):(wd z).length≤(dig z.natAbs).length+1:=by
 unfold wd;split
 ·rw[List.length_cons];exact Nat.le_refl _
 ·omega
theorem sv_mul(a b:Int):sv (decide (a<0) != decide (b<0)) (a.natAbs*b.natAbs)=a*b:=by
 rw[←Int.natAbs_mul];unfold sv;by_cases h1:a<0<;>by_cases h2:b<0<;>simp only[h1,h2,decide_true,decide_false,bne_self_eq_false,Bool.false_eq_true,if_false,Bool.bne_true,Bool.bne_false,Bool.not_false,if_true]
 ·have:=Int.mul_nonneg_of_nonpos_of_nonpos (Int.le_of_lt h1) (Int.le_of_lt h2);omega
 ·have:=Int.mul_nonpos_of_nonpos_of_nonneg (Int.le_of_lt h1) (Int.le_of_not_gt h2);omega
 ·have:=Int.mul_nonpos_of_nonneg_of_nonpos (Int.le_of_not_gt h1) (Int.le_of_lt h2);omega
 ·have:=Int.mul_nonneg (Int.le_of_not_gt h1) (Int.le_of_not_gt h2);omega
theorem rwmul_any(s t:ByteArray)(w:World)(hs:s.size≤400000)(ht:t.size≤400000) :
  Calls Tryz.prog 169 #[.string s,.string t] w (GiveS w (mulW s.data.toList t.data.toList)):=by
 have m1:=fun w=>rwmay_any s w hs;have m2:=fun w=>rwmay_any t w ht
 cases h1:isW s.data.toList with
 | false =>
  have hr:mulW s.data.toList t.data.toList=[]:=by unfold mulW;rw[h1];rfl
  rw[hr];rw[h1]at m1;have M1:=zh m1;clear m1 m2 hs ht h1 hr;go_enter Tryz.func169,Tryz.ntmps169;go_wp2_with fail;refine(M1.out _).mono ?_;rintro e w' ⟨rfl,rfl⟩;go_wp2_with fail;go_ret;exact⟨rfl,Below.refl _ _⟩
 | true=>cases h2:isW t.data.toList with
  | false =>
   have hr:mulW s.data.toList t.data.toList=[]:=by unfold mulW;rw[h1,h2];rfl
   rw[hr];rw[h1]at m1;rw[h2]at m2;have M1:=zh m1;have M2:=zh m2
   clear m1 m2 hs ht h1 h2 hr;go_enter Tryz.func169,Tryz.ntmps169;go_wp2_with fail;refine(M1.out _).mono ?_;rintro e w' ⟨rfl,rfl⟩;go_wp2_with fail;refine(M2.out _).mono ?_;rintro e w' ⟨rfl,rfl⟩;go_wp2_with fail;go_ret;exact⟨rfl,Below.refl _ _⟩
  | true =>
   have hr:mulW s.data.toList t.data.toList=wd (valW s.data.toList*valW t.data.toList):=by unfold mulW;rw[h1,h2];rfl
   rw[hr];have c1:=fun w=>ramount_any s w (by omega);have c2:=fun w=>ramount_any t w (by omega);rw[am_of h1]at c1;rw[am_of h2]at c2;rw[h1]at m1;rw[h2]at m2;have l1:Lt (valW s.data.toList).natAbs 400000:=Lt.of_len (Nat.le_trans (wd_len h1) hs) (by decide) (by decide);have l2:Lt (valW t.data.toList).natAbs 400000:=Lt.of_len (Nat.le_trans (wd_len h2) ht) (by decide) (by decide);rw[←sv_mul,← wiR_dig];clear hr h1 h2 hs ht;generalize decide (valW s.data.toList<0)=f at *;generalize decide (valW t.data.toList<0)=g at *;generalize (valW s.data.toList).natAbs=m at *;generalize (valW t.data.toList).natAbs=n at *;have cw:=fun w=>rwith_any (f != g) (dig (m*n)) w (Nat.le_trans (Lt.mul l1 l2 (by decide)).len (by decide));have CW:=zh cw;have C1:=zh c1;have C2:=zh c2;have M1:=zh m1;have M2:=zh m2;have L1:=zh l1;have L2:=zh l2
   clear c1 c2 m1 m2 l1 l2 cw;go_enter Tryz.func169,Tryz.ntmps169;go_wp2_with fail;refine(M1.out _).mono ?_;rintro e w' ⟨rfl,rfl⟩;go_wp2_with fail;refine(M2.out _).mono ?_;rintro e w' ⟨rfl,rfl⟩;go_wp2_with fail;refine(C1.out _).mono ?_;rintro e w' ⟨rfl,rfl⟩;go_wp2_with fail;refine(C2.out _).mono ?_;rintro e w' ⟨rfl,rfl⟩;go_wp2_with fail;refine(rnMul L1.out L2.out rfl _).mono ?_;rintro e w1 ⟨rfl,b⟩;have B1:=b;clear b;go_wp2_with fail;refine(CW.out _).mono ?_;rintro e w' ⟨rfl,rfl⟩;go_wp2_with fail;go_ret;exact⟨rfl,B1⟩
theorem rwdiv_any(s t:ByteArray)(w:World)(hs:s.size≤400000)(ht:t.size≤400000) :
  Calls Tryz.prog 198 #[.string s,.string t] w (GiveSSB w (divW s.data.toList t.data.toList)):=by
 have m1:=fun w=>rwmay_any s w hs;have m2:=fun w=>rwmay_any t w ht
 cases h1:isW s.data.toList with
 | false =>
  have hr:divW s.data.toList t.data.toList=([],[],false):=by unfold divW;rw[h1];rfl
  rw[hr];rw[h1]at m1;have M1:=zh m1;clear m1 m2 hs ht h1 hr;go_enter Tryz.func198,Tryz.ntmps198;go_wp2_with fail;refine(M1.out _).mono ?_;rintro e w' ⟨rfl,rfl⟩;go_wp2_with fail
  go_ret3
  exact⟨rfl,Below.refl _ _⟩
 | true=>cases h2:isW t.data.toList with
  | false =>
   have hr:divW s.data.toList t.data.toList=([],[],false):=by unfold divW;rw[h1,h2];rfl
   rw[hr];rw[h1]at m1;rw[h2]at m2;have M1:=zh m1;have M2:=zh m2
   clear m1 m2 hs ht h1 h2 hr;go_enter Tryz.func198,Tryz.ntmps198;go_wp2_with fail;refine(M1.out _).mono ?_;rintro e w' ⟨rfl,rfl⟩;go_wp2_with fail;refine(M2.out _).mono ?_;rintro e w' ⟨rfl,rfl⟩;go_wp2_with fail
   go_ret3
   exact⟨rfl,Below.refl _ _⟩
  | true =>
   by_cases hb:valW t.data.toList=0
   ·rw[divW_no (by rw[hb];simp)];have ht48:t.data.toList=[48]:=by rw[←wd_valW h2,hb,wd_pos (by decide)];exact dig_0
    have e1:=eqB_true ht48;have e2:=toList_is ht48;rw[h1]at m1;rw[h2]at m2;have M1:=zh m1;have M2:=zh m2
    clear m1 m2 hs ht h1 h2 hb ht48;go_enter Tryz.func198,Tryz.ntmps198;go_wp2_with fail;refine(M1.out _).mono ?_;rintro e w' ⟨rfl,rfl⟩;go_wp2_with fail;refine(M2.out _).mono ?_;rintro e w' ⟨rfl,rfl⟩;go_wp2_with fail
    go_ret3
    exact⟨rfl,Below.refl _ _⟩
   ·have hr:divW s.data.toList t.data.toList=(wd (valW s.data.toList / valW t.data.toList),wd (valW s.data.toList % valW t.data.toList),true):=by
     unfold divW;rw[h1,h2,beq_false_of_ne hb];rfl
    rw[hr];have hne:t.data.toList≠[48]:=fun e=>hb (by rw[e];rfl);have e1:=eqB_false hne;have e2:=eqS_false hne;have c1:=fun w=>ramount_any s w (by omega);have c2:=fun w=>ramount_any t w (by omega);rw[am_of h1]at c1;rw[am_of h2]at c2;rw[h1]at m1;rw[h2]at m2;have l1:Lt (valW s.data.toList).natAbs 400000:=Lt.of_len (Nat.le_trans (wd_len h1) hs) (by decide) (by decide);have l2:Lt (valW t.data.toList).natAbs 400000:=Lt.of_len (Nat.le_trans (wd_len h2) ht) (by decide) (by decide);clear hr h1 h2 hs ht hne;generalize valW s.data.toList=a at *;generalize valW t.data.toList=b at *;have hb0:0<b.natAbs:=by omega
    obtain⟨q,hq⟩:∃q,a.natAbs / b.natAbs=q:=⟨_,rfl⟩;obtain⟨r,hrr⟩:∃r,a.natAbs % b.natAbs=r:=⟨_,rfl⟩;have hrb:r<b.natAbs:=by rw[←hrr];exact Nat.mod_lt _ hb0
    have lq:Lt q 400000:=Lt.mono l1 (by rw[←hq];exact Nat.div_le_self _ _);have lr:Lt r 400000:=Lt.mono l1 (by rw[←hrr];exact Nat.mod_le _ _);have l1':Lt 1 1:=⟨by decide,by decide,by decide⟩;have LQ:=zh lq;have LR:=zh lr;have HB:=zh hb0;have HQ:=zh hq;have HR:=zh hrr
    by_cases hm:a<0∧r≠0
    ·obtain⟨ha,hr0⟩:=hm;have hd:=div_more hb ha (by rw[hrr];exact hr0);rw[hq,hrr]at hd;rw[hd.1,hd.2,wd_nat,← wiR_dig];rw[decide_eq_true ha]at c1;rw[Bool.true_bne];generalize decide (b<0)=g at *;have cA:∀w,Calls Tryz.prog 61 #[.string ⟨(dig q).toArray⟩,.string ⟨#[49]⟩] w (GiveS w (dig (q+1))):=fun w=>by
      have c:=rnAdd lq l1' (show q+1=q+1 from rfl) w;rw[dig_1]at c;exact c
     have cS:=fun w=>rnSub l2 lr (Nat.le_of_lt hrb) (show b.natAbs-r=b.natAbs-r from rfl) w;have cG:=fun w=>rwith_any (!g) (dig (q+1)) w (Nat.le_trans (Lt.add lq l1' (by decide)).len (by decide));have f1:=dig_neB hr0;have f2:=dig_ne48 hr0;have CA:=zh cA;have CS:=zh cS;have CG:=zh cG
     have C1:=zh c1;have C2:=zh c2;have M1:=zh m1;have M2:=zh m2;have L1:=zh l1;have L2:=zh l2
     clear cA cS cG c1 c2 m1 m2 hd ha hr0 hq hrr hrb lq lr l1 l2 l1' hb hb0;go_enter Tryz.func198,Tryz.ntmps198;go_wp2_with fail;refine(M1.out _).mono ?_;rintro e w' ⟨rfl,rfl⟩;go_wp2_with fail;refine(M2.out _).mono ?_;rintro e w' ⟨rfl,rfl⟩;go_wp2_with fail;refine(C1.out _).mono ?_;rintro e w' ⟨rfl,rfl⟩;go_wp2_with fail;refine(C2.out _).mono ?_;rintro e w' ⟨rfl,rfl⟩;go_wp2_with fail;refine(rnDiv L1.out L2.out HB.out HQ.out HR.out _).mono ?_;rintro e w1 ⟨rfl,b⟩;have B1:=b;clear b;go_wp2_with fail;refine(CA.out _).mono ?_;rintro e w2 ⟨rfl,b⟩;have B2:=Below.more B1 b;clear b;go_wp2_with fail;refine(CS.out _).mono ?_;rintro e w3 ⟨rfl,b⟩;have B3:=Below.more B2 b;clear b;go_wp2_with fail;refine(CG.out _).mono ?_;rintro e w' ⟨rfl,rfl⟩;go_wp2_with fail
     go_ret3
     exact⟨rfl,B3⟩
    ·have hd:=div_plain (a:=a) hb (by rw[hrr];omega);rw[hq,hrr]at hd;rw[hd.1,hd.2,wd_nat,← wiR_dig];have cG:=fun (f:Bool) w=>rwith_any f (dig q) w (Nat.le_trans lq.len (by decide));by_cases ha:a<0
     ·have hr0:r=0:=by omega
      rw[decide_eq_true ha]at c1 ⊢;rw[Bool.true_bne];generalize decide (b<0)=g at *;have f1:(dig r == [48])=true:=by rw[hr0,dig_0];rfl
      have CG:=zh cG;have C1:=zh c1;have C2:=zh c2;have M1:=zh m1;have M2:=zh m2;have L1:=zh l1;have L2:=zh l2
      clear cG c1 c2 m1 m2 hd ha hr0 hq hrr hrb lq lr l1 l2 l1' hb hb0 hm;go_enter Tryz.func198,Tryz.ntmps198;go_wp2_with fail;refine(M1.out _).mono ?_;rintro e w' ⟨rfl,rfl⟩;go_wp2_with fail;refine(M2.out _).mono ?_;rintro e w' ⟨rfl,rfl⟩;go_wp2_with fail;refine(C1.out _).mono ?_;rintro e w' ⟨rfl,rfl⟩;go_wp2_with fail;refine(C2.out _).mono ?_;rintro e w' ⟨rfl,rfl⟩;go_wp2_with fail;refine(rnDiv L1.out L2.out HB.out HQ.out HR.out _).mono ?_;rintro e w1 ⟨rfl,b⟩;have B1:=b;clear b;go_wp2_with fail;refine(CG.out _ _).mono ?_;rintro e w' ⟨rfl,rfl⟩;go_wp2_with fail
      go_ret3
      exact⟨rfl,B1⟩
     ·rw[decide_eq_false ha]at c1 ⊢;rw[Bool.false_bne];generalize decide (b<0)=g at *;have CG:=zh cG;have C1:=zh c1;have C2:=zh c2;have M1:=zh m1;have M2:=zh m2;have L1:=zh l1;have L2:=zh l2
      clear cG c1 c2 m1 m2 hd ha hq hrr hrb lq lr l1 l2 l1' hb hb0 hm;go_enter Tryz.func198,Tryz.ntmps198;go_wp2_with fail;refine(M1.out _).mono ?_;rintro e w' ⟨rfl,rfl⟩;go_wp2_with fail;refine(M2.out _).mono ?_;rintro e w' ⟨rfl,rfl⟩;go_wp2_with fail;refine(C1.out _).mono ?_;rintro e w' ⟨rfl,rfl⟩;go_wp2_with fail;refine(C2.out _).mono ?_;rintro e w' ⟨rfl,rfl⟩;go_wp2_with fail;refine(rnDiv L1.out L2.out HB.out HQ.out HR.out _).mono ?_;rintro e w1 ⟨rfl,b⟩;have B1:=b;clear b;go_wp2_with fail;refine(CG.out _ _).mono ?_;rintro e w' ⟨rfl,rfl⟩;go_wp2_with fail
      go_ret3
      exact⟨rfl,B1⟩
end Go.Proofs.YtmllklfjngapiaaGreatDoor
namespace Go.Proofs.YtmllklfjngapiaaGreatDoor
open Go.RowKit
structure Ltw(a:Int)(k:Nat):Prop where
 len:(wd a).length≤k
 le:k≤100000
theorem Ltw.size{a:Int}{k:Nat}(h:Ltw a k):(⟨(wd a).toArray⟩:ByteArray).size≤100000:=by show (wd a).toArray.size≤_;rw[List.size_toArray];exact Nat.le_trans h.len h.le
theorem str_wd{s:ByteArray}(h:isW s.data.toList=true):s=⟨(wd (valW s.data.toList)).toArray⟩:=bytes_eq (wd_valW h).symm
theorem Ltw.of_text{s:ByteArray}{k:Nat}(h:isW s.data.toList=true)(hs:s.size≤k)(hk:k≤100000):Ltw (valW s.data.toList) k:=⟨by rw[wd_valW h];exact hs,hk⟩
theorem wd_abs_len(a:Int):(dig a.natAbs).length≤(wd a).length:=by
 unfold wd;split
 ·rw[List.length_cons];omega
 ·exact Nat.le_refl _
theorem Ltw.abs{a:Int}{k:Nat}(h:Ltw a k):a.natAbs<10 ^ k:=by
 have h1:=valS_lt (dig_all a.natAbs);rw[valS_dig]at h1;exact Nat.lt_of_lt_of_le h1 (Nat.pow_le_pow_right (by decide) (Nat.le_trans (wd_abs_len a) h.len))
theorem Ltw.mk'{a:Int}{k:Nat}(h:a.natAbs<10 ^ k)(h0:0<k)(hk:k+1≤100000):Ltw a (k+1) :=
 ⟨Nat.le_trans (wd_length a) (Nat.succ_le_succ (dig_length h0 h)),hk⟩
theorem Ltw.neg{a:Int}{k:Nat}(ha:Ltw a k)(h:k+1≤100000)(h0:0<k):Ltw (-a) (k+1):=Ltw.mk' (by rw[Int.natAbs_neg];exact ha.abs) h0 h
theorem Ltw.mul{a b:Int}{j k:Nat}(ha:Ltw a j)(hb:Ltw b k)(h:j+k+1≤100000)(h0:0<j):Ltw (a*b) (j+k+1) :=
 Ltw.mk' (by rw[Int.natAbs_mul];exact mul_lt ha.abs hb.abs) (Nat.add_pos_left h0 _) h
section
variable {a b : Int} {j k : Nat}
theorem zDiv{q r:Int}(ha:Ltw a j)(hb:Ltw b k)(h0:b≠0)(hq:a / b=q)(hr:a % b=r)(w:World) :
  Calls Tryz.prog 143 #[.string ⟨(wd a).toArray⟩,.string ⟨(wd b).toArray⟩] w (GiveSSB w (wd q,wd r,true)):=by
 have c:=wdiv_any ⟨(wd a).toArray⟩ ⟨(wd b).toArray⟩ w (Nat.le_trans ha.size (by decide)) (Nat.le_trans hb.size (by decide));have e:divW (⟨(wd a).toArray⟩:ByteArray).data.toList (⟨(wd b).toArray⟩:ByteArray).data.toList=(wd q,wd r,true):=by
  show divW (wd a) (wd b)=_;unfold divW;rw[isW_wd,isW_wd,valW_wd,valW_wd,beq_false_of_ne h0,hq,hr];rfl
 rw[e]at c;exact c
theorem zNeg{x:Int}(ha:Ltw a j)(h:-a=x)(w:World) :
  Calls Tryz.prog 108 #[.string ⟨(wd a).toArray⟩] w fun e w'=>e=.returned (.string ⟨(wd x).toArray⟩)∧w=w':=by
 have c:=wneg_any ⟨(wd a).toArray⟩ w (Nat.le_trans ha.size (by decide));have e:negW (⟨(wd a).toArray⟩:ByteArray).data.toList=wd x:=by
  show negW (wd a)=_;unfold negW;rw[isW_wd,valW_wd,h];rfl
 rw[e]at c;exact c
theorem zAbs{x:Int}(ha:Ltw a j)(h:(a.natAbs:Int)=x)(w:World) :
  Calls Tryz.prog 142 #[.string ⟨(wd a).toArray⟩] w fun e w'=>e=.returned (.string ⟨(wd x).toArray⟩)∧w=w':=by
 have c:=wabs_any ⟨(wd a).toArray⟩ w (Nat.le_trans ha.size (by decide));have e:absW (⟨(wd a).toArray⟩:ByteArray).data.toList=wd x:=by
  show absW (wd a)=_;unfold absW;rw[isW_wd,valW_wd,← h,wd_nat];rfl
 rw[e]at c;exact c
end
theorem wd_0:wd 0=[48]:=by rw[wd_pos (by decide)];exact dig_0
theorem wd_ne48{a:Int}(h:a≠0):¬wd a=[48]:=fun e=>h (wd_inj (e.trans wd_0.symm))
theorem wd_neB{a:Int}(h:a≠0):(wd a == [48])=false:=beq_false_of_ne (wd_ne48 h)
def rdN(q:Rat):List UInt8:=wd q.num
def rdD(q:Rat):List UInt8:=dig q.den
def rd(q:Rat):List UInt8×List UInt8:=(rdN q,rdD q)
def isR(p:List UInt8×List UInt8):Bool:=(isW p.1&&isNat p.2)&&(!(valS p.2==0)&&decide (Nat.gcd (valW p.1).natAbs (valS p.2)=1))
def valR(p:List UInt8×List UInt8):Rat:=mkRat (valW p.1) (valS p.2)
theorem isR_parts{p:List UInt8×List UInt8}(h:isR p=true):isW p.1=true∧isNat p.2=true∧valS p.2≠0∧Nat.gcd (valW p.1).natAbs (valS p.2)=1:=by
 unfold isR at h;simp only[Bool.and_eq_true,decide_eq_true_eq,Bool.not_eq_true',beq_eq_false_iff_ne,ne_eq]at h;exact⟨h.1.1,h.1.2,h.2.1,h.2.2⟩
theorem isR_of{p:List UInt8×List UInt8}(h1:isW p.1=true)(h2:isNat p.2=true)(h3:valS p.2≠0)(h4:Nat.gcd (valW p.1).natAbs (valS p.2)=1):isR p=true:=by
 unfold isR;rw[h1,h2,beq_false_of_ne h3,decide_eq_true h4];rfl
theorem isR_rd(q:Rat):isR (rd q)=true:=by
 refine isR_of (isW_wd _) (isNat_dig _) ?_ ?_
 ·show valS (dig q.den)≠0;rw[valS_dig];exact q.den_nz
 ·show Nat.gcd (valW (wd q.num)).natAbs (valS (dig q.den))=1;rw[valW_wd,valS_dig];exact q.reduced
theorem valR_rd(q:Rat):valR (rd q)=q:=by
 show mkRat (valW (wd q.num)) (valS (dig q.den))=q;rw[valW_wd,valS_dig,Rat.mkRat_self]
theorem rd_mk{n:Int}{d:Nat}(h:d≠0)(hc:Nat.gcd n.natAbs d=1):rd (mkRat n d)=(wd n,dig d):=by
 have e:mkRat n d=⟨n,d,h,hc⟩:=(Rat.mk_eq_mkRat n d h hc).symm;unfold rd rdN rdD;rw[e]
theorem rd_valR{p:List UInt8×List UInt8}(h:isR p=true):rd (valR p)=p:=by
 obtain⟨h1,h2,h3,h4⟩:=isR_parts h;unfold valR;rw[rd_mk h3 h4,wd_valW h1,dig_valS h2]
theorem valR_num{p:List UInt8×List UInt8}(h:isR p=true):(valR p).num=valW p.1:=by
 have e:=congrArg (fun x=>valW x.1) (rd_valR h);have e':valW (wd (valR p).num)=valW p.1:=e
 rwa[valW_wd]at e'
theorem valR_den{p:List UInt8×List UInt8}(h:isR p=true):(valR p).den=valS p.2:=by
 have e:=congrArg (fun x=>valS x.2) (rd_valR h);have e':valS (dig (valR p).den)=valS p.2:=e
 rwa[valS_dig]at e'
def makeR(n d:List UInt8):(List UInt8×List UInt8)×Bool:=if (isW n&&isW d)&&!(valW d==0) then (rd (Rat.divInt (valW n) (valW d)),true) else (([],[]),false)
def negR(p:List UInt8×List UInt8):List UInt8×List UInt8:=if isR p then rd (-valR p) else ([],[])
def sgnQ(q:Rat):Int:=if q.num<0 then -1 else if q.num=0 then 0 else 1
def sgnR(p:List UInt8×List UInt8):Int:=if isR p then sgnQ (valR p) else 0
def mulR(p q:List UInt8×List UInt8):List UInt8×List UInt8:=if isR p&&isR q then rd (valR p*valR q) else ([],[])
theorem divInt_pos{n d:Int}(hd:0<d):(Rat.divInt n d).num=n / (Nat.gcd n.natAbs d.natAbs:Int)∧((Rat.divInt n d).den:Int)=d / (Nat.gcd n.natAbs d.natAbs:Int):=by
 obtain⟨e,rfl⟩:∃e:Nat,d=(e:Int):=⟨d.toNat,by omega⟩;have he:e≠0:=by omega
 rw[Rat.divInt_ofNat,Rat.num_mkRat,Rat.den_mkRat,if_neg he,if_neg he];have:((e:Int)).natAbs=e:=rfl;rw[this,Nat.gcd_comm e];exact⟨rfl,by rw[Int.natCast_ediv]⟩
theorem divInt_swap(n d:Int):Rat.divInt (-n) (-d)=Rat.divInt n d:=Rat.neg_divInt_neg n d
theorem divInt_cross_mul(p q:Rat):p*q=Rat.divInt (p.num*q.num) ((p.den:Int)*(q.den:Int)):=by
 rw[Rat.mul_def',← Rat.divInt_ofNat,Int.natCast_mul]
theorem ofInt_eq(n:Int):(n:Rat)=Rat.divInt n 1:=by
 rw[show (1:Int)=((1:Nat):Int) from rfl,Rat.divInt_ofNat];have h:=Rat.mkRat_self (n:Rat);rw[Rat.num_intCast,Rat.den_intCast]at h;exact h.symm
theorem nat48{d:List UInt8}(h:isNat d=true):(d == [48])=(valS d==0):=by
 by_cases e:valS d=0
 ·rw[nat_zero h e];rfl
 ·rw[beq_false_of_ne e];refine beq_false_of_ne (fun e2=>e ?_);rw[e2];rfl
theorem dig49(g:Nat):(dig g == [49])=decide (g=1):=by
 by_cases e:g=1
 ·subst e;rw[dig_1];rfl
 ·rw[decide_eq_false e];refine beq_false_of_ne (fun e2=>e (dig_inj ?_));rw[e2,dig_1]
theorem may_eq{n d:List UInt8}(h:d≠[48]):(gcdS (absW n) d == [49])=isR (n,d):=by
 unfold isR;show _=((isW n&&isNat d)&&(!(valS d==0)&&decide (Nat.gcd (valW n).natAbs (valS d)=1)))
 cases hn:isW n with
 | false =>
  have e:absW n=[]:=by unfold absW;rw[hn];rfl
  rw[e];rfl
 | true =>
  have e:absW n=dig (valW n).natAbs:=by unfold absW;rw[hn];rfl
  rw[e]
  cases hd:isNat d with
  | false=>unfold gcdS;rw[hd,Bool.and_false];rfl
  | true =>
   have h0:(valS d==0)=false:=by rw[←nat48 hd];exact beq_false_of_ne h
   unfold gcdS;rw[isNat_dig,hd,h0,valS_dig];exact dig49 _
theorem may_48(n:List UInt8):isR (n,[48])=false:=by
 unfold isR;show ((isW n&&isNat [48])&&(!(valS [48]==0)&&_))=false;rw[show (valS [48]==0)=true from rfl,Bool.not_true,Bool.false_and,Bool.and_false]
theorem absW_len(l:List UInt8):(absW l).length≤l.length:=by
 unfold absW
 cases h:isW l with
 | false=>exact Nat.zero_le _
 | true=>exact wd_len h
theorem sgnW_zero{d:List UInt8}:sgnW d=0↔(isW d&&!(valW d==0))=false:=by
 unfold sgnW
 cases isW d with
 | false=>simp
 | true =>
  rcases Int.lt_trichotomy (valW d) 0 with h|h|h
  ·rw[if_pos rfl,if_pos h,beq_false_of_ne (by omega)];decide
  ·rw[h];decide
  ·rw[if_pos rfl,if_neg (by omega),if_neg (by omega),beq_false_of_ne (by omega)];decide
theorem makeR_no{n d:List UInt8}(h:((isW n&&isW d)&&!(valW d==0))=false):makeR n d=(([],[]),false):=by unfold makeR;rw[h];rfl
theorem makeR_yes{n d:List UInt8}(h1:isW n=true)(h2:isW d=true)(h3:valW d≠0):makeR n d=(rd (Rat.divInt (valW n) (valW d)),true):=by
 unfold makeR;rw[h1,h2,beq_false_of_ne h3];rfl
theorem rd_divInt{n:Int}{d:Nat}(hd:d≠0):rd (Rat.divInt n (d:Int))=(wd (n / (Nat.gcd n.natAbs d:Int)),dig (d / Nat.gcd n.natAbs d)):=by
 have h:=divInt_pos (n:=n) (d:=(d:Int)) (by omega);rw[Int.natAbs_natCast]at h;unfold rd rdN rdD;rw[h.1]
 congr 2
 have h2:=h.2;rw[←Int.natCast_ediv]at h2;exact Int.ofNat.inj h2
theorem den_pos(q:Rat):0<(q.den:Int):=by have:=q.den_nz;omega
theorem den_mul_pos(p q:Rat):0<(p.den:Int)*(q.den:Int):=Int.mul_pos (den_pos p) (den_pos q)
theorem isR_den{p:List UInt8×List UInt8}(h:isR p=true):p.2=dig (valR p).den∧p.1=wd (valR p).num:=by
 have e:=rd_valR h;exact⟨(congrArg Prod.snd e).symm,(congrArg Prod.fst e).symm⟩
theorem isR_isW{p:List UInt8×List UInt8}(h:isR p=true):isW p.1=true:=(isR_parts h).1
theorem mulW_ww(a b:Int):mulW (wd a) (wd b)=wd (a*b):=by unfold mulW;rw[isW_wd,isW_wd,valW_wd,valW_wd];rfl
theorem mulW_dd(a b:Nat):mulW (dig a) (dig b)=wd ((a:Int)*(b:Int)):=by unfold mulW;rw[isW_dig,isW_dig,valW_dig,valW_dig];rfl
theorem mulS_dd(a b:Nat):mulS (dig a) (dig b)=wd ((a:Int)*(b:Int)):=by unfold mulS;rw[isNat_dig,isNat_dig,valS_dig,valS_dig,← Int.natCast_mul,wd_nat];rfl
theorem makeR_ww{a b:Int}(h:b≠0):makeR (wd a) (wd b)=(rd (Rat.divInt a b),true):=by rw[makeR_yes (isW_wd a) (isW_wd b) (by rw[valW_wd];exact h),valW_wd,valW_wd]
theorem makeR_nil(d:List UInt8):makeR [] d=(([],[]),false):=makeR_no rfl
theorem al_mul{p q:List UInt8×List UInt8}(hp:isR p=true)(hq:isR q=true):(makeR (mulW p.1 q.1) (mulW p.2 q.2)).1=mulR p q:=by
 unfold mulR;rw[hp,hq];have e:makeR (mulW p.1 q.1) (mulW p.2 q.2)=(rd (Rat.divInt ((valR p).num*(valR q).num) (((valR p).den:Int)*((valR q).den:Int))),true):=by
  conv=>lhs;rw[(isR_den hp).1,(isR_den hp).2,(isR_den hq).1,(isR_den hq).2,mulW_dd,mulW_ww]
  exact makeR_ww (Int.ne_of_gt (den_mul_pos _ _))
 rw[e,divInt_cross_mul];rfl
theorem mulR_no{p q:List UInt8×List UInt8}(h:(isR p&&isR q)=false):mulR p q=([],[]):=by unfold mulR;rw[h];rfl
end Go.Proofs.YtmllklfjngapiaaGreatDoor
