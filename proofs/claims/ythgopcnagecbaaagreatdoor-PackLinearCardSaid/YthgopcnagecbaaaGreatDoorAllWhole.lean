/- Own work. -/
import Derived.Lib.Strings
import Derived.Test.YthgopcnagecbaaaGreatDoorAllApi
set_option maxHeartbeats 2000000
set_option maxRecDepth 100000
namespace Go.Proofs.YthgopcnagecbaaaGreatDoor
def wd(z:Int):List UInt8:=if z<0 then 45::dig z.natAbs else dig z.natAbs
def isW:List UInt8→Bool
 | []=>false
 | c::r=>if c=45 then isNat r&&!(r == [48]) else isNat (c::r)
def valW:List UInt8→Int
 | []=>0
 | c::r=>if c=45 then -(valS r:Int) else (valS (c::r):Int)
theorem isW_cons(c:UInt8)(r:List UInt8):isW (c::r)=if c=45 then isNat r&&!(r == [48]) else isNat (c::r):=rfl
theorem valW_cons(c:UInt8)(r:List UInt8):valW (c::r)=if c=45 then -(valS r:Int) else (valS (c::r):Int):=rfl
theorem wd_neg{z:Int}(h:z<0):wd z=45::dig z.natAbs:=by unfold wd;rw[if_pos h]
theorem wd_pos{z:Int}(h:0≤z):wd z=dig z.natAbs:=by unfold wd;rw[if_neg (by omega)]
theorem wd_nat(n:Nat):wd (n:Int)=dig n:=by rw[wd_pos (by omega)];rfl
theorem dig_cons(n:Nat):∃c r,dig n=c::r∧c≠45:=by
 have ha:=dig_all n;have hn:=dig_ne n
 cases h:dig n with
 | nil=>exact absurd h hn
 | cons c r =>
  refine⟨c,r,rfl,?_⟩;rw[h,List.all_cons,Bool.and_eq_true]at ha;intro e;subst e;exact absurd ha.1 (by decide)
theorem isW_dig(n:Nat):isW (dig n)=true:=by
 obtain⟨c,r,h,hc⟩:=dig_cons n;have:=isNat_dig n;rw[h]at this ⊢;rw[isW_cons];rw[if_neg hc,this]
theorem valW_dig(n:Nat):valW (dig n)=(n:Int):=by
 obtain⟨c,r,h,hc⟩:=dig_cons n;have:=valS_dig n;rw[h]at this ⊢;rw[valW_cons];rw[if_neg hc,this]
theorem isW_wd(z:Int):isW (wd z)=true:=by
 rcases Int.lt_or_le z 0 with h|h
 ·rw[wd_neg h];rw[isW_cons];rw[if_pos rfl,isNat_dig,dig_neB (by omega)];rfl
 ·rw[wd_pos h];exact isW_dig _
theorem valW_wd(z:Int):valW (wd z)=z:=by
 rcases Int.lt_or_le z 0 with h|h
 ·rw[wd_neg h];rw[valW_cons];rw[if_pos rfl,valS_dig];omega
 ·rw[wd_pos h,valW_dig];omega
theorem isW_cases{l:List UInt8}(h:isW l=true):(isNat l=true∧valW l=(valS l:Int))∨∃r,l=45::r∧isNat r=true∧r≠[48]∧valW l=-(valS r:Int):=by
 cases l with
 | nil=>cases h
 | cons c r =>
  by_cases hc:c=45
  ·subst hc;rw[isW_cons]at h;rw[if_pos rfl,Bool.and_eq_true]at h;refine .inr ⟨r,rfl,h.1,?_,?_⟩
   ·intro e;subst e;exact absurd h.2 (by decide)
   ·rw[valW_cons,if_pos rfl]
  ·rw[isW_cons]at h;rw[if_neg hc]at h;refine .inl ⟨h,?_⟩;rw[valW_cons,if_neg hc]
theorem wd_valW{l:List UInt8}(h:isW l=true):wd (valW l)=l:=by
 rcases isW_cases h with ⟨h1,h2⟩|⟨r,rfl,h1,h2,h3⟩
 ·rw[h2,wd_nat,dig_valS h1]
 ·have h0:valS r≠0:=fun e=>h2 (nat_zero h1 e);rw[h3,wd_neg (by omega)]
  congr 1
  rw[show (-(valS r:Int)).natAbs=valS r from by omega,dig_valS h1]
theorem wd_inj{a b:Int}(h:wd a=wd b):a=b:=by rw[←valW_wd a,h,valW_wd]
theorem wd_len{l:List UInt8}(h:isW l=true):(dig (valW l).natAbs).length≤l.length:=by
 have e:=wd_valW h;rcases Int.lt_or_le (valW l) 0 with h0|h0
 ·rw[wd_neg h0]at e;have:=congrArg List.length e;rw[List.length_cons]at this;omega
 ·rw[wd_pos h0]at e;rw[e];exact Nat.le_refl _
def apW(l:List UInt8):Bool×List UInt8:=if isW l then (decide (valW l<0),dig (valW l).natAbs) else (false,[])
def sgW(b:Bool)(l:List UInt8):List UInt8:=if b&&(!(l == [])&&!(l == [48])) then 45::l else l
def sv(b:Bool)(n:Nat):Int:=if b then -(n:Int) else (n:Int)
theorem sgW_dig(b:Bool)(n:Nat):sgW b (dig n)=wd (sv b n):=by
 unfold sgW sv;have h1:(dig n == [])=false:=beq_false_of_ne (dig_ne n);rw[h1]
 cases b with
 | false=>simp[wd_nat]
 | true =>
  by_cases h0:n=0
  ·subst h0;rw[dig_0];simp;unfold wd;simp[dig_0]
  ·rw[dig_neB h0];simp only[Bool.not_false,Bool.and_self,if_true];rw[wd_neg (by omega)]
   congr 2
   omega
theorem sgW_nil(b:Bool):sgW b []=[]:=by cases b<;>rfl
theorem apW_no{l:List UInt8}(h:isW l=false):apW l=(false,[]):=by unfold apW;rw[h];rfl
theorem apW_yes{l:List UInt8}(h:isW l=true):apW l=(decide (valW l<0),dig (valW l).natAbs):=by unfold apW;rw[h,if_pos rfl]
theorem sv_val(z:Int):sv (decide (z<0)) z.natAbs=z:=by
 unfold sv;by_cases h:z<0
 ·rw[decide_eq_true h,if_pos rfl];omega
 ·rw[decide_eq_false h];simp;omega
theorem sv_neg(z:Int):sv (!decide (z<0)) z.natAbs=-z:=by
 unfold sv;by_cases h:z<0
 ·rw[decide_eq_true h];simp;omega
 ·rw[decide_eq_false h];simp;omega
def negW(l:List UInt8):List UInt8:=if isW l then wd (-valW l) else []
def absW(l:List UInt8):List UInt8:=if isW l then dig (valW l).natAbs else []
def sgnW(l:List UInt8):Int:=if isW l then (if valW l<0 then -1 else if valW l=0 then 0 else 1) else 0
def cmpZ(a b:Int):Int:=if a<b then -1 else if a=b then 0 else 1
def addW(l r:List UInt8):List UInt8:=if isW l&&isW r then wd (valW l+valW r) else []
def mulW(l r:List UInt8):List UInt8:=if isW l&&isW r then wd (valW l*valW r) else []
def divW(l r:List UInt8):List UInt8×List UInt8×Bool:=if (isW l&&isW r)&&!(valW r==0) then (wd (valW l / valW r),wd (valW l % valW r),true) else ([],[],false)
end Go.Proofs.YthgopcnagecbaaaGreatDoor
namespace Go.Proofs.YthgopcnagecbaaaGreatDoor
open Go.RowKit
theorem isW_minus(r:List UInt8):isW (45::r)=(isNat r&&!(r == [48])):=by rw[isW_cons,if_pos rfl]
theorem isW_plain{l:List UInt8}(h:l.head?≠some 45):isW l=isNat l:=by
 cases l with
 | nil=>rfl
 | cons c r=>rw[isW_cons,if_neg (by simpa using h)]
theorem hp_yes(r:List UInt8):Lib.hasPrefix (45::r) [45]=true:=by unfold Lib.hasPrefix;simp
theorem tp_yes(r:List UInt8):Lib.trimPrefix (45::r) [45]=r:=by unfold Lib.trimPrefix;rw[hp_yes];rfl
theorem hp_no{l:List UInt8}(h:l.head?≠some 45):Lib.hasPrefix l [45]=false:=by
 unfold Lib.hasPrefix
 cases l with
 | nil=>rfl
 | cons c r =>
  have hc:c≠45:=by simpa using h
  simp[List.isPrefixOf,Ne.symm hc]
theorem tp_no{l:List UInt8}(h:l.head?≠some 45):Lib.trimPrefix l [45]=l:=by unfold Lib.trimPrefix;rw[hp_no h];rfl
theorem minus_of{l:List UInt8}(h:l.head?=some 45):∃r,l=45::r:=by
 cases l with
 | nil=>cases h
 | cons c r=>exact⟨r,by rw[show c=45 from by simpa using h]⟩
theorem apart_any(s:ByteArray)(w:World)(hs:s.size≤4611686018427387904) :
  Calls Tryz.prog 103 #[.string s] w fun e w'=>e=.returned (.tuple #[.bool (apW s.data.toList).1,.string ⟨(apW s.data.toList).2.toArray⟩])∧w=w':=by
 have c0:=fun w=>Tryz.strings_CutPrefix s ⟨#[45]⟩ w;have e45:(⟨#[45]⟩:ByteArray).data.toList=[45]:=rfl;rw[e45]at c0;have hl:s.data.toList.length=s.size:=size_toList s;by_cases hm:s.data.toList.head?=some 45
 ·obtain⟨r,hr⟩:=minus_of hm;rw[hr,hp_yes,tp_yes]at c0;rw[hr]at hl ⊢;have hrl:(⟨r.toArray⟩:ByteArray).size≤4611686018427387904:=by show r.toArray.size≤_;rw[List.size_toArray];rw[List.length_cons]at hl;omega
  have c1:=fun w=>may_any ⟨r.toArray⟩ w hrl;have er:(⟨r.toArray⟩:ByteArray).data.toList=r:=rfl;rw[er]at c1
  cases h1:isNat r with
  | false =>
   have ha:apW (45::r)=(false,[]):=apW_no (by rw[isW_minus,h1];rfl);rw[ha];rw[h1]at c1;have C0:=zh c0;have C1:=zh c1
   clear c0 c1 ha h1 hr hm hl hrl;go_enter Tryz.func103,Tryz.ntmps103;go_wp2_with fail;refine(C0.out _).mono ?_;rintro e w' ⟨rfl,rfl⟩;go_wp2_with fail;refine(C1.out _).mono ?_;rintro e w' ⟨rfl,rfl⟩;go_wp2_with fail
   go_ret2
   exact⟨rfl,rfl⟩
  | true =>
   rw[h1]at c1;by_cases h2:r=[48]
   ·have ha:apW (45::r)=(false,[]):=apW_no (by rw[h2];rfl);rw[ha];have e1:(r == [48])=true:=by rw[h2];rfl
    have C0:=zh c0;have C1:=zh c1
    clear c0 c1 ha h1 hr hm hl hrl h2;go_enter Tryz.func103,Tryz.ntmps103;go_wp2_with fail;refine(C0.out _).mono ?_;rintro e w' ⟨rfl,rfl⟩;go_wp2_with fail;refine(C1.out _).mono ?_;rintro e w' ⟨rfl,rfl⟩;go_wp2_with fail
    go_ret2
    exact⟨rfl,rfl⟩
   ·have hw:isW (45::r)=true:=by rw[isW_minus,h1,beq_false_of_ne h2];rfl
    have h0:valS r≠0:=fun e=>h2 (nat_zero h1 e);have ha:apW (45::r)=(true,r):=by
     rw[apW_yes hw,valW_cons,if_pos rfl,decide_eq_true (by omega),show (-(valS r:Int)).natAbs=valS r from by omega,dig_valS h1]
    rw[ha];have e1:(r == [48])=false:=beq_false_of_ne h2;have C0:=zh c0;have C1:=zh c1
    clear c0 c1 ha h1 hr hm hl hrl hw h0;go_enter Tryz.func103,Tryz.ntmps103;go_wp2_with fail;refine(C0.out _).mono ?_;rintro e w' ⟨rfl,rfl⟩;go_wp2_with fail;refine(C1.out _).mono ?_;rintro e w' ⟨rfl,rfl⟩;go_wp2_with fail
    go_ret2
    exact⟨rfl,rfl⟩
 ·rw[hp_no hm,tp_no hm]at c0;have c1:=fun w=>may_any ⟨s.data.toList.toArray⟩ w (by show s.data.toList.toArray.size≤_;rw[List.size_toArray,hl];exact hs);have er:(⟨s.data.toList.toArray⟩:ByteArray).data.toList=s.data.toList:=rfl;rw[er]at c1
  cases h1:isNat s.data.toList with
  | false =>
   have ha:apW s.data.toList=(false,[]):=apW_no (by rw[isW_plain hm,h1]);rw[ha];rw[h1]at c1;generalize s.data.toList=l at *;have C0:=zh c0;have C1:=zh c1
   clear c0 c1 ha h1 hm hl;go_enter Tryz.func103,Tryz.ntmps103;go_wp2_with fail;refine(C0.out _).mono ?_;rintro e w' ⟨rfl,rfl⟩;go_wp2_with fail;refine(C1.out _).mono ?_;rintro e w' ⟨rfl,rfl⟩;go_wp2_with fail
   go_ret2
   exact⟨rfl,rfl⟩
  | true =>
   have hw:isW s.data.toList=true:=by rw[isW_plain hm,h1]
   have ha:apW s.data.toList=(false,s.data.toList):=by
    rcases isW_cases hw with ⟨_,h2⟩|⟨r,hr,_⟩
    ·rw[apW_yes hw,h2,decide_eq_false (by omega),show (valS s.data.toList:Int).natAbs=valS s.data.toList from rfl,dig_valS h1]
    ·rw[hr]at hm;exact absurd rfl hm
   rw[ha];rw[h1]at c1;generalize s.data.toList=l at *;have C0:=zh c0;have C1:=zh c1
   clear c0 c1 ha h1 hm hl hw;go_enter Tryz.func103,Tryz.ntmps103;go_wp2_with fail;refine(C0.out _).mono ?_;rintro e w' ⟨rfl,rfl⟩;go_wp2_with fail;refine(C1.out _).mono ?_;rintro e w' ⟨rfl,rfl⟩;go_wp2_with fail
   go_ret2
   exact⟨rfl,rfl⟩
theorem minus_add(l:List UInt8):(⟨#[45]⟩:ByteArray)++⟨l.toArray⟩=⟨(45::l).toArray⟩:=bytes_eq (by rw[ba_append];rfl)
theorem signed_any(b:Bool)(l:List UInt8)(w:World)(hl:l.length≤4611686018427387904) :
  Calls Tryz.prog 104 #[.bool b,.string ⟨l.toArray⟩] w fun e w'=>e=.returned (.string ⟨(sgW b l).toArray⟩)∧w=w':=by
 cases b with
 | false =>
  have hr:sgW false l=l:=rfl;rw[hr];clear hr;go_enter Tryz.func104,Tryz.ntmps104
  go_wp2
  go_ret;exact⟨rfl,rfl⟩
 | true =>
  by_cases h0:l=[]
  ·subst h0;go_enter Tryz.func104,Tryz.ntmps104
   go_wp2
   go_ret;exact⟨rfl,rfl⟩
  ·have e0:(l == [])=false:=beq_false_of_ne h0;have e1:l.isEmpty=false:=by rw[List.isEmpty_eq_false_iff];exact h0
   by_cases h1:l=[48]
   ·subst h1;go_enter Tryz.func104,Tryz.ntmps104
    go_wp2
    go_ret;exact⟨rfl,rfl⟩
   ·have e2:(l == [48])=false:=beq_false_of_ne h1;have hr:sgW true l=45::l:=by unfold sgW;rw[e0,e2];rfl
    rw[hr];have hadd:=fun w=>run_string_add_sum (P:=Tryz.prog) w (⟨#[45]⟩:ByteArray) ⟨l.toArray⟩ (by show 1+l.toArray.size≤_;rw[List.size_toArray];omega);rw[minus_add]at hadd;clear hr;go_enter Tryz.func104,Tryz.ntmps104
    go_wp2
    go_ret;exact⟨rfl,rfl⟩
end Go.Proofs.YthgopcnagecbaaaGreatDoor
namespace Go.Proofs.YthgopcnagecbaaaGreatDoor
open Go.RowKit
theorem cmpN_ge'{m n:Nat}(h:¬m<n):¬cmpN m n<0:=by have:=cmpN_ge (Nat.le_of_not_lt h);omega
theorem cmpN_lt'{m n:Nat}(h:m<n):cmpN m n<0:=by rw[cmpN_lt h];decide
theorem sum_num(f g:Bool)(m n:Nat){j k:Nat}(lm:Lt m j)(ln:Lt n k)(hjk:j+k+1≤900000)(w:World) :
  Calls Tryz.prog 108 #[.bool f,.string ⟨(dig m).toArray⟩,.bool g,.string ⟨(dig n).toArray⟩] w (GiveS w (wd (sv f m+sv g n))):=by
 cases f<;>cases g
 ·skip
  have hs:sgW false (dig (m+n))=wd (sv false m+sv false n):=by rw[sgW_dig];congr 1<;>(simp[sv];try omega)
  rw[←hs];have HL:=zh (Nat.le_trans (Lt.add lm ln hjk).len (by decide:900000≤4611686018427387904));have HM:=zh lm;have HN:=zh ln
  clear hs lm ln hjk;go_enter Tryz.func108,Tryz.ntmps108;go_wp2_with fail;refine(nAdd HM.out HN.out rfl _).mono ?_;rintro e w1 ⟨rfl,b⟩;have B1:=b;clear b;go_wp2_with fail;refine(signed_any _ _ _ HL.out).mono ?_;rintro e w' ⟨rfl,rfl⟩;go_wp2_with fail;go_ret;exact⟨rfl,B1⟩
 ·by_cases h:m<n
  ·skip
   have hs:sgW true (dig (n-m))=wd (sv false m+sv true n):=by rw[sgW_dig];congr 1;simp[sv];omega
   rw[←hs];have hz:=cmpN_lt' h;have HL:=zh (Nat.le_trans (Lt.mono ln (Nat.sub_le n m)).len (by decide:900000≤4611686018427387904));have HM:=zh lm;have HN:=zh ln;have HLE:Hid (m≤n):=zh (by omega)
   have HC:=zh (fun w=>nCmp lm ln rfl w);clear hs lm ln hjk h;generalize cmpN m n=z at *;go_enter Tryz.func108,Tryz.ntmps108;go_wp2_with fail;refine(HC.out _).mono ?_;rintro e w' ⟨rfl,rfl⟩;go_wp2_with fail;refine(nSub HN.out HM.out HLE.out rfl _).mono ?_;rintro e w1 ⟨rfl,b⟩;have B1:=b;clear b;go_wp2_with fail;refine(signed_any _ _ _ HL.out).mono ?_;rintro e w' ⟨rfl,rfl⟩;go_wp2_with fail;go_ret;exact⟨rfl,B1⟩
  ·skip
   have hs:sgW false (dig (m-n))=wd (sv false m+sv true n):=by rw[sgW_dig];congr 1;simp[sv];omega
   rw[←hs];have hz:=cmpN_ge' h;have HL:=zh (Nat.le_trans (Lt.mono lm (Nat.sub_le m n)).len (by decide:900000≤4611686018427387904));have HM:=zh lm;have HN:=zh ln;have HLE:Hid (n≤m):=zh (by omega)
   have HC:=zh (fun w=>nCmp lm ln rfl w);clear hs lm ln hjk h;generalize cmpN m n=z at *;go_enter Tryz.func108,Tryz.ntmps108;go_wp2_with fail;refine(HC.out _).mono ?_;rintro e w' ⟨rfl,rfl⟩;go_wp2_with fail;refine(nSub HM.out HN.out HLE.out rfl _).mono ?_;rintro e w1 ⟨rfl,b⟩;have B1:=b;clear b;go_wp2_with fail;refine(signed_any _ _ _ HL.out).mono ?_;rintro e w' ⟨rfl,rfl⟩;go_wp2_with fail;go_ret;exact⟨rfl,B1⟩
 ·by_cases h:m<n
  ·skip
   have hs:sgW false (dig (n-m))=wd (sv true m+sv false n):=by rw[sgW_dig];congr 1;simp[sv];omega
   rw[←hs];have hz:=cmpN_lt' h;have HL:=zh (Nat.le_trans (Lt.mono ln (Nat.sub_le n m)).len (by decide:900000≤4611686018427387904));have HM:=zh lm;have HN:=zh ln;have HLE:Hid (m≤n):=zh (by omega)
   have HC:=zh (fun w=>nCmp lm ln rfl w);clear hs lm ln hjk h;generalize cmpN m n=z at *;go_enter Tryz.func108,Tryz.ntmps108;go_wp2_with fail;refine(HC.out _).mono ?_;rintro e w' ⟨rfl,rfl⟩;go_wp2_with fail;refine(nSub HN.out HM.out HLE.out rfl _).mono ?_;rintro e w1 ⟨rfl,b⟩;have B1:=b;clear b;go_wp2_with fail;refine(signed_any _ _ _ HL.out).mono ?_;rintro e w' ⟨rfl,rfl⟩;go_wp2_with fail;go_ret;exact⟨rfl,B1⟩
  ·skip
   have hs:sgW true (dig (m-n))=wd (sv true m+sv false n):=by rw[sgW_dig];congr 1;simp[sv];omega
   rw[←hs];have hz:=cmpN_ge' h;have HL:=zh (Nat.le_trans (Lt.mono lm (Nat.sub_le m n)).len (by decide:900000≤4611686018427387904));have HM:=zh lm;have HN:=zh ln;have HLE:Hid (n≤m):=zh (by omega)
   have HC:=zh (fun w=>nCmp lm ln rfl w);clear hs lm ln hjk h;generalize cmpN m n=z at *;go_enter Tryz.func108,Tryz.ntmps108;go_wp2_with fail;refine(HC.out _).mono ?_;rintro e w' ⟨rfl,rfl⟩;go_wp2_with fail;refine(nSub HM.out HN.out HLE.out rfl _).mono ?_;rintro e w1 ⟨rfl,b⟩;have B1:=b;clear b;go_wp2_with fail;refine(signed_any _ _ _ HL.out).mono ?_;rintro e w' ⟨rfl,rfl⟩;go_wp2_with fail;go_ret;exact⟨rfl,B1⟩
 ·skip
  have hs:sgW true (dig (m+n))=wd (sv true m+sv true n):=by rw[sgW_dig];congr 1<;>(simp[sv];try omega)
  rw[←hs];have HL:=zh (Nat.le_trans (Lt.add lm ln hjk).len (by decide:900000≤4611686018427387904));have HM:=zh lm;have HN:=zh ln
  clear hs lm ln hjk;go_enter Tryz.func108,Tryz.ntmps108;go_wp2_with fail;refine(nAdd HM.out HN.out rfl _).mono ?_;rintro e w1 ⟨rfl,b⟩;have B1:=b;clear b;go_wp2_with fail;refine(signed_any _ _ _ HL.out).mono ?_;rintro e w' ⟨rfl,rfl⟩;go_wp2_with fail;go_ret;exact⟨rfl,B1⟩
theorem sum_no(f g:Bool)(x y:List UInt8)(h:(isNat x&&isNat y)=false)(hx:x.length≤900000)(hy:y.length≤900000)(w:World) :
  Calls Tryz.prog 108 #[.bool f,.string ⟨x.toArray⟩,.bool g,.string ⟨y.toArray⟩] w (GiveS w []):=by
 have sx:(⟨x.toArray⟩:ByteArray).size≤1000000000:=by show x.toArray.size≤_;rw[List.size_toArray];omega
 have sy:(⟨y.toArray⟩:ByteArray).size≤1000000000:=by show y.toArray.size≤_;rw[List.size_toArray];omega
 have c1:=fun w=>add_any ⟨x.toArray⟩ ⟨y.toArray⟩ w sx sy;have c2:=fun w=>cmp_any ⟨x.toArray⟩ ⟨y.toArray⟩ w sx sy;have c3:=fun w=>sub_any ⟨x.toArray⟩ ⟨y.toArray⟩ w sx sy;have e1:addS (⟨x.toArray⟩:ByteArray).data.toList (⟨y.toArray⟩:ByteArray).data.toList=[]:=by show addS x y=_;unfold addS;rw[h];rfl
 have e2:cmpS (⟨x.toArray⟩:ByteArray).data.toList (⟨y.toArray⟩:ByteArray).data.toList=0:=by show cmpS x y=_;unfold cmpS;rw[h];rfl
 have e3:subS (⟨x.toArray⟩:ByteArray).data.toList (⟨y.toArray⟩:ByteArray).data.toList=([],false):=by show subS x y=_;unfold subS;rw[h];rfl
 rw[e1]at c1;rw[e2]at c2;rw[e3]at c3;have C1:=zh c1;have C2:=zh c2;have C3:=zh c3
 have C4:=fun (b:Bool) w=>signed_any b [] w (by decide);simp only[sgW_nil]at C4;have HC4:=zh C4;clear c1 c2 c3 C4 e1 e2 e3 sx sy hx hy h
 cases f<;>cases g
 ·go_enter Tryz.func108,Tryz.ntmps108;go_wp2_with fail;refine(C1.out _).mono ?_;rintro e w1 ⟨rfl,b⟩;have B1:=b;clear b;go_wp2_with fail;refine(HC4.out _ _).mono ?_;rintro e w' ⟨rfl,rfl⟩;go_wp2_with fail;go_ret;exact⟨rfl,B1⟩
 ·go_enter Tryz.func108,Tryz.ntmps108;go_wp2_with fail;refine(C2.out _).mono ?_;rintro e w' ⟨rfl,rfl⟩;go_wp2_with fail;refine(C3.out _).mono ?_;rintro e w1 ⟨rfl,b⟩;have B1:=b;clear b;go_wp2_with fail;refine(HC4.out _ _).mono ?_;rintro e w' ⟨rfl,rfl⟩;go_wp2_with fail;go_ret;exact⟨rfl,B1⟩
 ·go_enter Tryz.func108,Tryz.ntmps108;go_wp2_with fail;refine(C2.out _).mono ?_;rintro e w' ⟨rfl,rfl⟩;go_wp2_with fail;refine(C3.out _).mono ?_;rintro e w1 ⟨rfl,b⟩;have B1:=b;clear b;go_wp2_with fail;refine(HC4.out _ _).mono ?_;rintro e w' ⟨rfl,rfl⟩;go_wp2_with fail;go_ret;exact⟨rfl,B1⟩
 ·go_enter Tryz.func108,Tryz.ntmps108;go_wp2_with fail;refine(C1.out _).mono ?_;rintro e w1 ⟨rfl,b⟩;have B1:=b;clear b;go_wp2_with fail;refine(HC4.out _ _).mono ?_;rintro e w' ⟨rfl,rfl⟩;go_wp2_with fail;go_ret;exact⟨rfl,B1⟩
theorem apW_len(l:List UInt8)(k:Nat)(h:l.length≤k):(apW l).2.length≤k:=by
 cases hw:isW l with
 | false=>rw[apW_no hw];exact Nat.zero_le _
 | true=>rw[apW_yes hw];exact Nat.le_trans (wd_len hw) h
theorem Lt.of_len{n k:Nat}(h:(dig n).length≤k)(h0:0<k)(hk:k≤900000):Lt n k:=by
 refine⟨?_,h0,hk⟩;have h1:=valS_lt (dig_all n);rw[valS_dig]at h1;exact Nat.lt_of_lt_of_le h1 (Nat.pow_le_pow_right (by decide) h)
theorem apW_nat(l:List UInt8):isNat (apW l).2=isW l:=by
 cases hw:isW l with
 | false=>rw[apW_no hw];rfl
 | true=>rw[apW_yes hw];exact isNat_dig _
theorem sum_ap(l r:List UInt8)(hl:l.length≤400000)(hr:r.length≤400000)(w:World) :
  Calls Tryz.prog 108 #[.bool (apW l).1,.string ⟨(apW l).2.toArray⟩,.bool (apW r).1,.string ⟨(apW r).2.toArray⟩] w (GiveS w (addW l r)):=by
 cases h:isW l&&isW r with
 | false =>
  have e:addW l r=[]:=by unfold addW;rw[h];rfl
  rw[e];exact sum_no _ _ _ _ (by rw[apW_nat,apW_nat,h]) (apW_len _ _ (by omega)) (apW_len _ _ (by omega)) w
 | true =>
  have e:addW l r=wd (valW l+valW r):=by unfold addW;rw[h];rfl
  rw[Bool.and_eq_true]at h;rw[e,apW_yes h.1,apW_yes h.2];have c:=sum_num (decide (valW l<0)) (decide (valW r<0)) (valW l).natAbs (valW r).natAbs (Lt.of_len (k:=400000) (Nat.le_trans (wd_len h.1) hl) (by decide) (by decide)) (Lt.of_len (k:=400000) (Nat.le_trans (wd_len h.2) hr) (by decide) (by decide)) (by decide) w;rw[sv_val,sv_val]at c;exact c
theorem wadd_any(s t:ByteArray)(w:World)(hs:s.size≤400000)(ht:t.size≤400000) :
  Calls Tryz.prog 76 #[.string s,.string t] w (GiveS w (addW s.data.toList t.data.toList)):=by
 have c1:=fun w=>apart_any s w (by omega);have c2:=fun w=>apart_any t w (by omega);have c3:=fun w=>sum_ap s.data.toList t.data.toList hs ht w;generalize addW s.data.toList t.data.toList=x at *;generalize apW s.data.toList=p at *;generalize apW t.data.toList=q at *;obtain⟨f,x1⟩:=p;obtain⟨g,x2⟩:=q;have C1:=zh c1;have C2:=zh c2;have C3:=zh c3
 clear c1 c2 c3 hs ht;go_enter Tryz.func76,Tryz.ntmps76;go_wp2_with fail;refine(C1.out _).mono ?_;rintro e w' ⟨rfl,rfl⟩;go_wp2_with fail;refine(C2.out _).mono ?_;rintro e w' ⟨rfl,rfl⟩;go_wp2_with fail;refine(C3.out _).mono ?_;rintro e w1 ⟨rfl,b⟩;have B1:=b;clear b;go_wp2_with fail;go_ret;exact⟨rfl,B1⟩
theorem wmul_any(s t:ByteArray)(w:World)(hs:s.size≤400000)(ht:t.size≤400000) :
  Calls Tryz.prog 70 #[.string s,.string t] w (GiveS w (mulW s.data.toList t.data.toList)):=by
 have c1:=fun w=>apart_any s w (by omega);have c2:=fun w=>apart_any t w (by omega);have l1:=apW_len s.data.toList 400000 hs;have l2:=apW_len t.data.toList 400000 ht;have c3:∀w,Calls Tryz.prog 105 #[.string ⟨(apW s.data.toList).2.toArray⟩,.string ⟨(apW t.data.toList).2.toArray⟩] w (GiveS w (mulS (apW s.data.toList).2 (apW t.data.toList).2)):=fun w =>
  mul_any ⟨(apW s.data.toList).2.toArray⟩ ⟨(apW t.data.toList).2.toArray⟩ w (by show (apW s.data.toList).2.toArray.size≤_;rw[List.size_toArray];omega) (by show (apW t.data.toList).2.toArray.size≤_;rw[List.size_toArray];omega)
 have hm:sgW ((apW s.data.toList).1 != (apW t.data.toList).1) (mulS (apW s.data.toList).2 (apW t.data.toList).2)=mulW s.data.toList t.data.toList:=by
  cases h:isW s.data.toList&&isW t.data.toList with
  | false =>
   have e:mulW s.data.toList t.data.toList=[]:=by unfold mulW;rw[h];rfl
   have e2:mulS (apW s.data.toList).2 (apW t.data.toList).2=[]:=by unfold mulS;rw[apW_nat,apW_nat,h];rfl
   rw[e,e2,sgW_nil]
  | true =>
   have e:mulW s.data.toList t.data.toList=wd (valW s.data.toList*valW t.data.toList):=by unfold mulW;rw[h];rfl
   rw[Bool.and_eq_true]at h;rw[e,apW_yes h.1,apW_yes h.2];unfold mulS;rw[isNat_dig,isNat_dig,valS_dig,valS_dig];simp only[Bool.and_self,if_true];rw[sgW_dig]
   congr 1
   generalize valW s.data.toList=a;generalize valW t.data.toList=b;rw[←Int.natAbs_mul];unfold sv;by_cases h1:a<0<;>by_cases h2:b<0<;>simp only[h1,h2,decide_true,decide_false,bne_self_eq_false,Bool.false_eq_true,if_false,Bool.bne_true,Bool.bne_false,Bool.not_false,if_true]
   ·have:=Int.mul_nonneg_of_nonpos_of_nonpos (Int.le_of_lt h1) (Int.le_of_lt h2);omega
   ·have:=Int.mul_nonpos_of_nonpos_of_nonneg (Int.le_of_lt h1) (Int.le_of_not_gt h2);omega
   ·have:=Int.mul_nonpos_of_nonneg_of_nonpos (Int.le_of_not_gt h1) (Int.le_of_lt h2);omega
   ·have:=Int.mul_nonneg (Int.le_of_not_gt h1) (Int.le_of_not_gt h2);omega
 have hml:(mulS (apW s.data.toList).2 (apW t.data.toList).2).length≤4611686018427387904:=by
  unfold mulS;split
  ·rename_i hn
   rw[Bool.and_eq_true]at hn;have k1:=valS_lt (isNat_all hn.1);have k2:=valS_lt (isNat_all hn.2);have k3:=dig_length (Nat.add_pos_left (isNat_pos hn.1) _) (mul_lt k1 k2);omega
  ·exact Nat.zero_le _
 have c4:=fun w=>signed_any ((apW s.data.toList).1 != (apW t.data.toList).1) _ w hml;rw[hm]at c4;generalize mulW s.data.toList t.data.toList=x at *;generalize mulS (apW s.data.toList).2 (apW t.data.toList).2=y at *;generalize apW s.data.toList=p at *;generalize apW t.data.toList=q at *;obtain⟨f,x1⟩:=p;obtain⟨g,x2⟩:=q;have C1:=zh c1;have C2:=zh c2;have C3:=zh c3;have C4:=zh c4
 clear c1 c2 c3 c4 hs ht l1 l2 hm hml;go_enter Tryz.func70,Tryz.ntmps70;go_wp2_with fail;refine(C1.out _).mono ?_;rintro e w' ⟨rfl,rfl⟩;go_wp2_with fail;refine(C2.out _).mono ?_;rintro e w' ⟨rfl,rfl⟩;go_wp2_with fail;refine(C3.out _).mono ?_;rintro e w1 ⟨rfl,b⟩;have B1:=b;clear b;go_wp2_with fail;refine(C4.out _).mono ?_;rintro e w' ⟨rfl,rfl⟩;go_wp2_with fail;go_ret;exact⟨rfl,B1⟩
end Go.Proofs.YthgopcnagecbaaaGreatDoor
namespace Go.Proofs.YthgopcnagecbaaaGreatDoor
open Go.RowKit
theorem absW_ap(l:List UInt8):absW l=(apW l).2:=by
 unfold absW
 cases h:isW l with
 | false=>rw[apW_no h];rfl
 | true=>rw[apW_yes h];rfl
theorem negW_ap(l:List UInt8):negW l=sgW (!(apW l).1) (apW l).2:=by
 unfold negW
 cases h:isW l with
 | false=>rw[apW_no h,sgW_nil];rfl
 | true =>
  rw[apW_yes h,sgW_dig,sv_neg];rfl
theorem wabs_any(s:ByteArray)(w:World)(hs:s.size≤400000) :
  Calls Tryz.prog 82 #[.string s] w fun e w'=>e=.returned (.string ⟨(absW s.data.toList).toArray⟩)∧w=w':=by
 have c1:=fun w=>apart_any s w (by omega);rw[absW_ap];generalize apW s.data.toList=p at *;obtain⟨f,x1⟩:=p;have C1:=zh c1;clear c1 hs;go_enter Tryz.func82,Tryz.ntmps82;go_wp2_with fail;refine(C1.out _).mono ?_;rintro e w' ⟨rfl,rfl⟩;go_wp2_with fail;go_ret;exact⟨rfl,rfl⟩
theorem wneg_any(s:ByteArray)(w:World)(hs:s.size≤400000) :
  Calls Tryz.prog 100 #[.string s] w fun e w'=>e=.returned (.string ⟨(negW s.data.toList).toArray⟩)∧w=w':=by
 have c1:=fun w=>apart_any s w (by omega);have l1:=apW_len s.data.toList 400000 hs;rw[negW_ap];have c2:=fun w=>signed_any (!(apW s.data.toList).1) (apW s.data.toList).2 w (by omega);generalize sgW (!(apW s.data.toList).1) (apW s.data.toList).2=y at *;generalize apW s.data.toList=p at *;obtain⟨f,x1⟩:=p;have C1:=zh c1;have C2:=zh c2
 clear c1 c2 hs l1;go_enter Tryz.func100,Tryz.ntmps100;go_wp2_with fail;refine(C1.out _).mono ?_;rintro e w' ⟨rfl,rfl⟩;go_wp2_with fail;refine(C2.out _).mono ?_;rintro e w' ⟨rfl,rfl⟩;go_wp2_with fail;go_ret;exact⟨rfl,rfl⟩
theorem wmay_any(s:ByteArray)(w:World)(hs:s.size≤400000) :
  Calls Tryz.prog 99 #[.string s] w fun e w'=>e=.returned (.bool (isW s.data.toList))∧w=w':=by
 have c1:=fun w=>wabs_any s w hs;have l1:=apW_len s.data.toList 400000 hs;have hm:isNat (absW s.data.toList)=isW s.data.toList:=by rw[absW_ap,apW_nat]
 have c2:=fun w=>may_any ⟨(absW s.data.toList).toArray⟩ w (by show (absW s.data.toList).toArray.size≤_;rw[List.size_toArray,absW_ap];omega);have er:isNat (⟨(absW s.data.toList).toArray⟩:ByteArray).data.toList=isW s.data.toList:=hm;rw[er]at c2;generalize absW s.data.toList=x at *;generalize isW s.data.toList=b at *;have C1:=zh c1;have C2:=zh c2
 clear c1 c2 hs l1 hm er;go_enter Tryz.func99,Tryz.ntmps99;go_wp2_with fail;refine(C1.out _).mono ?_;rintro e w' ⟨rfl,rfl⟩;go_wp2_with fail;refine(C2.out _).mono ?_;rintro e w' ⟨rfl,rfl⟩;go_wp2_with fail;go_ret;exact⟨rfl,rfl⟩
theorem itoa_wd(n:Int):Lib.itoa n=wd n:=by
 unfold Lib.itoa wd;split
 ·rw[decDigits_dig]
 ·rw[decDigits_dig];congr 1;omega
theorem below_moreW{B:Nat}{a w:World}(h:Below B a w)(k:Nat)(os:Array Obj)(hB:B≤w.heap.size):Below B a (Sort.grow (w.drewN k) os):=by
 refine⟨h.os,h.tape,h.output,?_,fun i hi=>?_⟩
 ·show a.heap.size≤(w.heap++os).size;have:=h.size;rw[Array.size_append];omega
 ·show (w.heap++os)[i]?=_;rw[Array.getElem?_append_left (by omega)];exact h.block i hi
theorem wof_any(n:Int)(w:World)(h0:-9223372036854775808≤n)(h1:n≤9223372036854775807)(ht:GoodT w) :
  Calls Tryz.prog 78 #[.int .i64 n] w (GiveS w (wd n)):=by
 have c1:=Tryz.strconv_Itoa n h0 h1 w ht;rw[itoa_wd]at c1;generalize wd n=l at *;have C1:=zh c1;clear c1 ht;go_enter Tryz.func78,Tryz.ntmps78;go_wp2_with fail;refine C1.out.mono ?_;rintro e w' ⟨rfl,k,os,rfl⟩;have hb:=below_moreW (Below.refl w.heap.size w) k os (Nat.le_refl _);generalize Sort.grow (w.drewN k) os=w2 at *;go_wp2_with fail;go_ret;exact⟨rfl,hb⟩
theorem sgnW_no{l:List UInt8}(h:isW l=false):sgnW l=0:=by unfold sgnW;rw[h];rfl
theorem wsign_any(s:ByteArray)(w:World)(hs:s.size≤400000) :
  Calls Tryz.prog 80 #[.string s] w fun e w'=>e=.returned (.int .i64 (sgnW s.data.toList))∧w=w':=by
 have c1:=fun w=>apart_any s w (by omega)
 cases h:isW s.data.toList with
 | false =>
  rw[sgnW_no h];rw[apW_no h]at c1;have C1:=zh c1;clear c1 hs h;go_enter Tryz.func80,Tryz.ntmps80;go_wp2_with fail;refine(C1.out _).mono ?_;rintro e w' ⟨rfl,rfl⟩;go_wp2_with fail;go_ret;exact⟨rfl,rfl⟩
 | true =>
  have hr:sgnW s.data.toList=if valW s.data.toList<0 then -1 else if valW s.data.toList=0 then 0 else 1:=by unfold sgnW;rw[h];rfl
  rw[hr];rw[apW_yes h]at c1;generalize valW s.data.toList=z at *;have e1:=dig_eB z.natAbs;have e2:=dig_ne z.natAbs;have e3:=dig_e z.natAbs;by_cases h0:z=0
  ·rw[if_neg (by omega),if_pos h0];rw[h0]at c1;have C1:Hid (∀w,Calls Tryz.prog 103 #[.string s] w fun e w'=>e=.returned (.tuple #[.bool false,.string ⟨#[48]⟩])∧w=w'):=zh (fun w=>by have:=c1 w;rw[show (0:Int).natAbs=0 from rfl,dig_0]at this;exact this);clear c1 hs h hr h0 e1 e2 e3;go_enter Tryz.func80,Tryz.ntmps80;go_wp2_with fail;refine(C1.out _).mono ?_;rintro e w' ⟨rfl,rfl⟩;go_wp2_with fail;go_ret;exact⟨rfl,rfl⟩
  ·have e4:=dig_ne48 (show z.natAbs≠0 by omega);have e5:=dig_neB (show z.natAbs≠0 by omega);rcases Int.lt_or_le z 0 with hz|hz
   ·rw[if_pos hz];rw[decide_eq_true hz]at c1;have C1:=zh c1;clear c1 hs h hr h0 hz;generalize dig z.natAbs=x at *;go_enter Tryz.func80,Tryz.ntmps80;go_wp2_with fail;refine(C1.out _).mono ?_;rintro e w' ⟨rfl,rfl⟩;go_wp2_with fail;go_ret;exact⟨rfl,rfl⟩
   ·rw[if_neg (by omega),if_neg h0];rw[decide_eq_false (by omega)]at c1;have C1:=zh c1;clear c1 hs h hr h0 hz;generalize dig z.natAbs=x at *;go_enter Tryz.func80,Tryz.ntmps80;go_wp2_with fail;refine(C1.out _).mono ?_;rintro e w' ⟨rfl,rfl⟩;go_wp2_with fail;go_ret;exact⟨rfl,rfl⟩
end Go.Proofs.YthgopcnagecbaaaGreatDoor
namespace Go.Proofs.YthgopcnagecbaaaGreatDoor
open Go.RowKit
theorem ediv_uni{a b q r:Int}(h:r+b*q=a)(h0:0≤r)(h1:r<(b.natAbs:Int)):a / b=q∧a % b=r:=by
 have hb:b≠0:=by omega
 have e1:r / b=0∧r % b=r:=by
  rcases Int.lt_or_le b 0 with hn|hp
  ·have h2:b=-(-b):=by omega
   rw[h2,Int.ediv_neg,Int.emod_neg,Int.ediv_eq_zero_of_lt h0 (by omega),Int.emod_eq_of_lt h0 (by omega)];exact⟨rfl,rfl⟩
  ·exact⟨Int.ediv_eq_zero_of_lt h0 (by omega),Int.emod_eq_of_lt h0 (by omega)⟩
 rw[←h,Int.add_mul_ediv_left _ _ hb,Int.add_mul_emod_self_left,e1.1,e1.2];exact⟨by omega,rfl⟩
theorem abs_div(a b:Int):(a.natAbs:Int)=(b.natAbs:Int)*((a.natAbs / b.natAbs:Nat):Int)+((a.natAbs % b.natAbs:Nat):Int):=by
 have h:=Nat.div_add_mod a.natAbs b.natAbs;rw[←Int.natCast_mul,← Int.natCast_add,h]
theorem div_plain{a b:Int}(hb:b≠0)(h:0≤a∨a.natAbs % b.natAbs=0) :
  a / b=sv (decide (a<0) != decide (b<0)) (a.natAbs / b.natAbs)∧a % b=((a.natAbs % b.natAbs:Nat):Int):=by
 have hA:=abs_div a b;have hlt:=Nat.mod_lt a.natAbs (show 0<b.natAbs by omega);refine ediv_uni ?_ (Int.natCast_nonneg _) (by omega);generalize a.natAbs / b.natAbs=q at *;generalize a.natAbs % b.natAbs=r at *;unfold sv;by_cases h1:a<0<;>by_cases h2:b<0
 ·have e1:a=-(a.natAbs:Int):=by omega
  have e2:b=-(b.natAbs:Int):=by omega
  have hr:r=0:=by omega
  rw[decide_eq_true h1,decide_eq_true h2,bne_self_eq_false,if_neg (by decide)];generalize (a.natAbs:Int)=A at *;generalize (b.natAbs:Int)=B at *;subst hr
  grind
 ·have e1:a=-(a.natAbs:Int):=by omega
  have e2:b=(b.natAbs:Int):=by omega
  have hr:r=0:=by omega
  rw[decide_eq_true h1,decide_eq_false h2,if_pos (by decide)];generalize (a.natAbs:Int)=A at *;generalize (b.natAbs:Int)=B at *;subst hr
  grind
 ·have e1:a=(a.natAbs:Int):=by omega
  have e2:b=-(b.natAbs:Int):=by omega
  rw[decide_eq_false h1,decide_eq_true h2,if_pos (by decide)];generalize (a.natAbs:Int)=A at *;generalize (b.natAbs:Int)=B at *
  grind
 ·have e1:a=(a.natAbs:Int):=by omega
  have e2:b=(b.natAbs:Int):=by omega
  rw[decide_eq_false h1,decide_eq_false h2,if_neg (by decide)];generalize (a.natAbs:Int)=A at *;generalize (b.natAbs:Int)=B at *
  grind
theorem div_more{a b:Int}(hb:b≠0)(h1:a<0)(h:a.natAbs % b.natAbs≠0) :
  a / b=sv (true != decide (b<0)) (a.natAbs / b.natAbs+1)∧a % b=((b.natAbs-a.natAbs % b.natAbs:Nat):Int):=by
 have hA:=abs_div a b;have hlt:=Nat.mod_lt a.natAbs (show 0<b.natAbs by omega);refine ediv_uni ?_ (Int.natCast_nonneg _) (by omega);have hc:((b.natAbs-a.natAbs % b.natAbs:Nat):Int)=(b.natAbs:Int)-((a.natAbs % b.natAbs:Nat):Int):=by omega
 rw[hc];generalize a.natAbs / b.natAbs=q at *;generalize a.natAbs % b.natAbs=r at *;unfold sv;have e1:a=-(a.natAbs:Int):=by omega
 by_cases h2:b<0
 ·have e2:b=-(b.natAbs:Int):=by omega
  rw[decide_eq_true h2,bne_self_eq_false,if_neg (by decide)];have hq:((q+1:Nat):Int)=(q:Int)+1:=by omega
  rw[hq];clear hc hlt;generalize (a.natAbs:Int)=A at *;generalize (b.natAbs:Int)=B at *
  grind
 ·have e2:b=(b.natAbs:Int):=by omega
  rw[decide_eq_false h2,if_pos (by decide)];have hq:((q+1:Nat):Int)=(q:Int)+1:=by omega
  rw[hq];clear hc hlt;generalize (a.natAbs:Int)=A at *;generalize (b.natAbs:Int)=B at *
  grind
theorem divW_no{l r:List UInt8}(h:((isW l&&isW r)&&!(valW r==0))=false):divW l r=([],[],false):=by unfold divW;rw[h];rfl
theorem wdiv_any(s t:ByteArray)(w:World)(hs:s.size≤400000)(ht:t.size≤400000) :
  Calls Tryz.prog 101 #[.string s,.string t] w (GiveSSB w (divW s.data.toList t.data.toList)):=by
 have c1:=fun w=>apart_any s w (by omega);have c2:=fun w=>apart_any t w (by omega)
 cases h:(isW s.data.toList&&isW t.data.toList)&&!(valW t.data.toList==0) with
 | false =>
  rw[divW_no h];have l1:=apW_len s.data.toList 400000 hs;have l2:=apW_len t.data.toList 400000 ht;have c3:=fun w=>div_any ⟨(apW s.data.toList).2.toArray⟩ ⟨(apW t.data.toList).2.toArray⟩ w (by show (apW s.data.toList).2.toArray.size≤_;rw[List.size_toArray];omega) (by show (apW t.data.toList).2.toArray.size≤_;rw[List.size_toArray];omega);have e3:divS (⟨(apW s.data.toList).2.toArray⟩:ByteArray).data.toList (⟨(apW t.data.toList).2.toArray⟩:ByteArray).data.toList=([],[],false):=by
   show divS (apW s.data.toList).2 (apW t.data.toList).2=_;refine divS_none ?_;rw[apW_nat,apW_nat]
   cases hw:isW s.data.toList&&isW t.data.toList with
   | false=>rfl
   | true =>
    rw[hw]at h;rw[Bool.and_eq_true]at hw;have h0:valW t.data.toList=0:=by simpa using h
    rw[apW_yes hw.2,h0];show (true&&decide (0<valS (dig 0)))=false;rw[valS_dig];rfl
  rw[e3]at c3;generalize apW s.data.toList=p at *;generalize apW t.data.toList=q at *;obtain⟨f,x1⟩:=p;obtain⟨g,x2⟩:=q;have C1:=zh c1;have C2:=zh c2;have C3:=zh c3
  clear c1 c2 c3 hs ht l1 l2 e3 h;go_enter Tryz.func101,Tryz.ntmps101;go_wp2_with fail;refine(C1.out _).mono ?_;rintro e w' ⟨rfl,rfl⟩;go_wp2_with fail;refine(C2.out _).mono ?_;rintro e w' ⟨rfl,rfl⟩;go_wp2_with fail;refine(C3.out _).mono ?_;rintro e w1 ⟨rfl,b⟩;have B1:=b;clear b;go_wp2_with fail
  go_ret3
  exact⟨rfl,B1⟩
 | true =>
  have hr:divW s.data.toList t.data.toList=(wd (valW s.data.toList / valW t.data.toList),wd (valW s.data.toList % valW t.data.toList),true):=by unfold divW;rw[h];rfl
  rw[hr];rw[Bool.and_eq_true,Bool.and_eq_true]at h;obtain⟨⟨h1,h2⟩,h3⟩:=h;have hb:valW t.data.toList≠0:=by simpa using h3
  have l1:Lt (valW s.data.toList).natAbs 400000:=Lt.of_len (Nat.le_trans (wd_len h1) hs) (by decide) (by decide);have l2:Lt (valW t.data.toList).natAbs 400000:=Lt.of_len (Nat.le_trans (wd_len h2) ht) (by decide) (by decide);rw[apW_yes h1]at c1;rw[apW_yes h2]at c2;generalize valW s.data.toList=a at *;generalize valW t.data.toList=b at *;have hb0:0<b.natAbs:=by omega
  obtain⟨q,hq⟩:∃q,a.natAbs / b.natAbs=q:=⟨_,rfl⟩;obtain⟨r,hrr⟩:∃r,a.natAbs % b.natAbs=r:=⟨_,rfl⟩;have hrb:r<b.natAbs:=by rw[←hrr];exact Nat.mod_lt _ hb0
  have lq:Lt q 400000:=Lt.mono l1 (by rw[←hq];exact Nat.div_le_self _ _);have lr:Lt r 400000:=Lt.mono l1 (by rw[←hrr];exact Nat.mod_le _ _);have l1':Lt 1 1:=⟨by decide,by decide,by decide⟩;have L1:=zh l1;have L2:=zh l2;have LQ:=zh lq;have LR:=zh lr;have HB:=zh hb0;have HQ:=zh hq;have HR:=zh hrr
  by_cases hm:a<0∧r≠0
  ·obtain⟨ha,hr0⟩:=hm;have hd:=div_more hb ha (by rw[hrr];exact hr0);rw[hq,hrr]at hd;rw[hd.1,hd.2,wd_nat,← sgW_dig];rw[decide_eq_true ha]at c1;rw[Bool.true_bne];generalize decide (b<0)=g at *;have cA:∀w,Calls Tryz.prog 117 #[.string ⟨(dig q).toArray⟩,.string ⟨#[49]⟩] w (GiveS w (dig (q+1))):=fun w=>by
    have c:=nAdd lq l1' (show q+1=q+1 from rfl) w;rw[dig_1]at c;exact c
   have cS:=fun w=>nSub l2 lr (Nat.le_of_lt hrb) (show b.natAbs-r=b.natAbs-r from rfl) w;have cG:=fun w=>signed_any (!g) (dig (q+1)) w (Nat.le_trans (Lt.add lq l1' (by decide)).len (by decide));have e1:=dig_neB hr0;have e2:=dig_ne48 hr0;have CA:=zh cA;have CS:=zh cS;have CG:=zh cG;have C1:=zh c1;have C2:=zh c2
   clear cA cS cG c1 c2 hd ha hr0 hq hrr hrb lq lr l1 l2 l1' hb hb0 h1 h2 h3 hr hs ht;go_enter Tryz.func101,Tryz.ntmps101;go_wp2_with fail;refine(C1.out _).mono ?_;rintro e w' ⟨rfl,rfl⟩;go_wp2_with fail;refine(C2.out _).mono ?_;rintro e w' ⟨rfl,rfl⟩;go_wp2_with fail;refine(nDiv L1.out L2.out HB.out HQ.out HR.out _).mono ?_;rintro e w1 ⟨rfl,b⟩;have B1:=b;clear b;go_wp2_with fail;refine(CA.out _).mono ?_;rintro e w2 ⟨rfl,b⟩;have B2:=Below.more B1 b;clear b;go_wp2_with fail;refine(CS.out _).mono ?_;rintro e w3 ⟨rfl,b⟩;have B3:=Below.more B2 b;clear b;go_wp2_with fail;refine(CG.out _).mono ?_;rintro e w' ⟨rfl,rfl⟩;go_wp2_with fail
   go_ret3
   exact⟨rfl,B3⟩
  ·have hd:=div_plain (a:=a) hb (by rw[hrr];omega);rw[hq,hrr]at hd;rw[hd.1,hd.2,wd_nat,← sgW_dig];have cG:=fun (f:Bool) w=>signed_any f (dig q) w (Nat.le_trans lq.len (by decide));by_cases ha:a<0
   ·have hr0:r=0:=by omega
    rw[decide_eq_true ha]at c1 ⊢;rw[Bool.true_bne];generalize decide (b<0)=g at *;have e1:(dig r == [48])=true:=by rw[hr0,dig_0];rfl
    have CG:=zh cG;have C1:=zh c1;have C2:=zh c2
    clear cG c1 c2 hd ha hr0 hq hrr hrb lq lr l1 l2 l1' hb hb0 h1 h2 h3 hr hs ht hm;go_enter Tryz.func101,Tryz.ntmps101;go_wp2_with fail;refine(C1.out _).mono ?_;rintro e w' ⟨rfl,rfl⟩;go_wp2_with fail;refine(C2.out _).mono ?_;rintro e w' ⟨rfl,rfl⟩;go_wp2_with fail;refine(nDiv L1.out L2.out HB.out HQ.out HR.out _).mono ?_;rintro e w1 ⟨rfl,b⟩;have B1:=b;clear b;go_wp2_with fail;refine(CG.out _ _).mono ?_;rintro e w' ⟨rfl,rfl⟩;go_wp2_with fail
    go_ret3
    exact⟨rfl,B1⟩
   ·rw[decide_eq_false ha]at c1 ⊢;rw[Bool.false_bne];generalize decide (b<0)=g at *;have CG:=zh cG;have C1:=zh c1;have C2:=zh c2
    clear cG c1 c2 hd ha hq hrr hrb lq lr l1 l2 l1' hb hb0 h1 h2 h3 hr hs ht hm;go_enter Tryz.func101,Tryz.ntmps101;go_wp2_with fail;refine(C1.out _).mono ?_;rintro e w' ⟨rfl,rfl⟩;go_wp2_with fail;refine(C2.out _).mono ?_;rintro e w' ⟨rfl,rfl⟩;go_wp2_with fail;refine(nDiv L1.out L2.out HB.out HQ.out HR.out _).mono ?_;rintro e w1 ⟨rfl,b⟩;have B1:=b;clear b;go_wp2_with fail;refine(CG.out _ _).mono ?_;rintro e w' ⟨rfl,rfl⟩;go_wp2_with fail
    go_ret3
    exact⟨rfl,B1⟩
end Go.Proofs.YthgopcnagecbaaaGreatDoor
