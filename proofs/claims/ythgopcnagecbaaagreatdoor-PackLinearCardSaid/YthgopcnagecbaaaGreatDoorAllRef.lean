/- Own work. -/
import Derived.Lib.IndexBytes
import Derived.Laws.Concat
import Derived.StillTailTactics
import Derived.Test.YthgopcnagecbaaaGreatDoorAllNat
set_option maxHeartbeats 1000000
set_option maxRecDepth 100000
namespace Go.Proofs.YthgopcnagecbaaaGreatDoor
open Go.RowKit
theorem toList_is{s:ByteArray}{l:List UInt8}(h:s.data.toList=l):s.toList=l:=(ByteArray.toList_eq s).trans h
theorem eqB_true{s:ByteArray}{l:List UInt8}(h:s.data.toList=l):(s.toList==l)=true:=by rw[toList_is h];exact beq_self_eq_true l
theorem eqB_false{s:ByteArray}{l:List UInt8}(h:s.data.toList≠l):(s.toList==l)=false:=by
 rw[ByteArray.toList_eq];exact beq_false_of_ne h
theorem eqS_false{s:ByteArray}{l:List UInt8}(h:s.data.toList≠l):¬s.toList=l:=by
 rw[ByteArray.toList_eq];exact h
theorem gb_idx(s:ByteArray){j:Nat}(h:j<s.size):gb s.data.toList j=s[j]:=by
 unfold gb;rw[byte_at s j h];rfl
theorem rmay_any(s:ByteArray)(w:World)(hs:s.size≤4611686018427387904) :
  Calls Tryz.prog 48 #[.string s] w fun e w'=>e=.returned (.bool (isNat s.data.toList))∧w=w':=by
 go_enter Tryz.func48,Tryz.ntmps48
 go_wp2
 go_loop [3] (fun i=>∃k:Nat,k≤s.size∧i=.int .i64 k∧Hid (∀j (hj:j<s.size),j<k→48≤s[j].toNat∧s[j].toNat≤57)) (fun i=>s.size-(intOf i).toNat)
 case atStart=>exact⟨0,Nat.zero_le _,rfl,fun j _ h=>absurd h (Nat.not_lt_zero j)⟩
 case round =>
  obtain⟨k,hk,rfl,HJ⟩:=hrel;by_cases hlt:k<s.size
  ·by_cases hb:s[k].toNat<48∨57<s[k].toNat
   ·have hr:=isNat_bad hlt hb;have HR:=zh hr;clear hr;have hb':(s[k].toNat:Int)<48∨(¬(s[k].toNat:Int)<48∧(57:Int)<(s[k].toNat:Int)):=by omega
    clear hb;rcases hb' with hb|⟨hb,hb2⟩
    all_goals
     go_wp2
     go_ret;exact⟨ret_bool (by rw[HR.out]),rfl⟩
   ·have hb1:¬(s[k].toNat:Int)<48:=by omega
    have hb2:¬(57:Int)<(s[k].toNat:Int):=by omega
    have HB:=zh hb;clear hb
    go_wp2
    go_round
    case rel=>exact⟨k+1,by omega,by go_num,fun j hj h=>by
     by_cases e:j=k
     ·subst e;have:=HB.out;omega
     ·exact HJ.out j hj (by omega)⟩
    case measure=>simp[intOf];omega
  ·obtain rfl:k=s.size:=by omega
   rcases Nat.eq_zero_or_pos s.size with h0|h0
   ·have hr:=isNat_empty h0;have HR:=zh hr;clear hr HJ;have h1:¬(0:Int)<(s.size:Int):=by omega
    clear h0
    go_wp2
    go_ret;exact⟨ret_bool (by rw[HR.out]),rfl⟩
   ·have hgood:=isNat_good h0;have HG:=zh hgood;clear hgood;by_cases h1:s.data.toList=[48]
    ·have hsz:s.size=1:=by rw[←size_toList,h1];rfl
     have hr:isNat s.data.toList=true:=by rw[h1];decide
     have HR:=zh hr;clear hr;have e1:=eqB_true h1;have e2:=toList_is h1;clear h1 hsz HJ
     go_wp2
     go_ret;exact⟨ret_bool (by rw[HR.out]),rfl⟩
    ·have e1:=eqB_false h1;have e2:=eqS_false h1;by_cases hz:s[0].toNat=48
     ·have hl:1<s.size:=by
       rcases Nat.lt_or_ge 1 s.size with h|h
       ·exact h
       ·exfalso;apply h1;have hb:=byte_at s 0 h0;have hlen:s.data.toList.length=1:=by rw[size_toList];omega
        match hl:s.data.toList,hlen with
        | [c],_ =>
         rw[hl]at hb;have hc:c=s[0]:=by simpa using hb
         rw[hc,UInt8.toNat_inj.1 (show s[0].toNat=(48:UInt8).toNat from hz)]
      have hr:=isNat_lead h0 hz hl;have HR:=zh hr;clear hr HJ h1;have hz':(s[0].toNat:Int)=48:=by omega
      clear hz
      go_wp2
      go_ret;exact⟨ret_bool (by rw[HR.out]),rfl⟩
     ·have hr:=HG.out (fun h=>hz h.1) (fun j hj=>HJ.out j hj hj);have HR:=zh hr;clear hr HJ h1;have hz':¬(s[0].toNat:Int)=48:=by omega
      clear hz
      go_wp2
      go_ret;exact⟨ret_bool (by rw[HR.out];simpa using hz'),rfl⟩
theorem rat_any(s:ByteArray)(i:Nat)(w:World)(hs:s.size≤4611686018427387904)(hi:i≤4611686018427387904)(hd:s.data.toList.all isDig=true) :
  Calls Tryz.prog 92 #[.string s,.int .i64 (i:Int)] w fun e w'=>e=.returned (.int .i64 ((dgS s.data.toList i:Nat):Int))∧w=w':=by
 rcases Nat.lt_or_ge i s.size with h|h
 ·have hb:=gb_dig hd (j:=s.size-1-i) (by rw[size_toList];omega);have hr:dgS s.data.toList i=(gb s.data.toList (s.size-1-i)).toNat-48:=by
   unfold dgS;rw[if_pos (by rw[size_toList];exact h),size_toList]
  obtain⟨j,hj⟩:∃j,s.size-1-i=j:=⟨_,rfl⟩;rw[hj]at hb hr;have hj1:j<s.size:=by omega
  have hj2:(s.size:Int)-1-(i:Int)=(j:Int):=by omega
  rw[gb_idx s hj1]at hb hr;have hr2:((dgS s.data.toList i:Nat):Int)=(s[j].toNat:Int)-48:=by omega
  rw[hr2];obtain⟨hb1,hb2⟩:=hb;have h':¬(s.size:Int)≤(i:Int):=by omega
  clear hr hr2 hj hd;go_enter Tryz.func92,Tryz.ntmps92
  go_wp2
  go_ret;exact⟨rfl,rfl⟩
 ·have hr:dgS s.data.toList i=0:=dgS_beyond (by rw[size_toList];exact h);rw[hr];clear hr hd;go_enter Tryz.func92,Tryz.ntmps92
  go_wp2
  go_ret;exact⟨rfl,rfl⟩
theorem str_drop{s:ByteArray}{k:Nat}{l:List UInt8}(h:s.data.toList.drop k=l):s.extract k s.size=⟨l.toArray⟩:=by
 have:=Lib.extract_to_end s k;rw[h]at this
 cases he:s.extract k s.size with
 | mk d=>rw[he]at this;rw[←this]
theorem rtrim_any(s:ByteArray)(w:World)(hs:s.size≤4611686018427387904)(h0:0<s.size)(hd:s.data.toList.all isDig=true) :
  Calls Tryz.prog 93 #[.string s] w fun e w'=>e=.returned (.string ⟨(dig (valS s.data.toList)).toArray⟩)∧w=w':=by
 have HD:=zh hd;clear hd;go_enter Tryz.func93,Tryz.ntmps93
 go_wp2
 go_loop [3] (fun i=>∃k:Nat,k<s.size∧i=.int .i64 k∧Hid (∀j,j<k→gb s.data.toList j=48)) (fun i=>s.size-(intOf i).toNat)
 case atStart=>exact⟨0,h0,rfl,fun j h=>absurd h (Nat.not_lt_zero j)⟩
 case round =>
  obtain⟨k,hk,rfl,HJ⟩:=hrel;by_cases hlt:k+1<s.size
  ·by_cases hz:s[k].toNat=48
   ·have hz':(s[k].toNat:Int)=48:=by omega
    have HZ:=zh hz;clear hz
    go_wp2
    go_round
    case rel=>exact⟨k+1,hlt,by go_num,fun j h=>by
     by_cases e:j=k
     ·subst e;rw[gb_idx s hk];exact UInt8.toNat_inj.1 HZ.out
     ·exact HJ.out j (by omega)⟩
    case measure=>simp[intOf];omega
   ·have hz':¬(s[k].toNat:Int)=48:=by omega
    have hr:=str_drop (drop_zeros HD.out (i:=k) (by rw[size_toList];exact hk) HJ.out (.inr (by rw[gb_idx s hk];intro e;exact hz (by rw[e];rfl))));have HR:=zh hr;clear hr hz HJ
    go_wp2
    go_ret;exact⟨ret_str (by rw[HR.out]),rfl⟩
  ·have hr:=str_drop (drop_zeros HD.out (i:=k) (by rw[size_toList];exact hk) HJ.out (.inl (by rw[size_toList];omega)));have HR:=zh hr;clear hr HJ
   go_wp2
   go_ret;exact⟨ret_str (by rw[HR.out]),rfl⟩
end Go.Proofs.YthgopcnagecbaaaGreatDoor
namespace Go.Proofs.YthgopcnagecbaaaGreatDoor
open Go.RowKit
theorem less_same{l r:List UInt8}(hl:l.all isDig=true)(hr:r.all isDig=true)(h:l.length=r.length):Op.bytesLess l r=decide (valS l<valS r):=by
 induction l generalizing r with
 | nil =>
  obtain rfl:r=[]:=List.length_eq_zero_iff.1 (by simpa using h.symm)
  rfl
 | cons a l ih =>
  cases r with
  | nil=>simp at h
  | cons b r =>
   rw[List.all_cons,Bool.and_eq_true]at hl hr;have hlen:l.length=r.length:=by simpa using h
   have hi:=ih hl.2 hr.2 hlen;have v1:=valS_lt hl.2;have v2:=valS_lt hr.2;have d1:=hl.1;have d2:=hr.1;unfold isDig at d1 d2;simp only[Bool.and_eq_true,decide_eq_true_eq]at d1 d2;rw[valS_cons,valS_cons,hlen];rw[hlen]at v1;unfold Op.bytesLess;rw[hi];generalize 10 ^ r.length=P at *;have key:∀x y m n:Nat,x<y→m<P→x*P+m<y*P+n:=fun x y m n hxy hm=>by
    have:(x+1)*P≤y*P:=Nat.mul_le_mul_right _ hxy;rw[Nat.add_mul,Nat.one_mul]at this;omega
   rcases Nat.lt_trichotomy a.toNat b.toNat with h1|h1|h1
   ·have k:=key (a.toNat-48) (b.toNat-48) (valS l) (valS r) (by omega) v1;have e1:decide (a<b)=true:=decide_eq_true (show a.toNat<b.toNat from h1);rw[e1,decide_eq_true k];rfl
   ·have e:a=b:=UInt8.toNat_inj.1 h1;subst e;have e1:decide (a<a)=false:=decide_eq_false (fun h:a.toNat<a.toNat=>Nat.lt_irrefl _ h);rw[e1];simp
   ·have k:=key (b.toNat-48) (a.toNat-48) (valS r) (valS l) (by omega) v2;have e1:decide (a<b)=false:=decide_eq_false (fun h:a.toNat<b.toNat=>by omega);have e2:(a==b)=false:=beq_false_of_ne (fun e=>by subst e;omega);rw[e1,e2,decide_eq_false (p:=(a.toNat-48)*P+valS l<(b.toNat-48)*P+valS r) (by omega)];rfl
theorem nat_same{l r:List UInt8}(hl:isNat l=true)(hr:isNat r=true)(h:valS l=valS r):l=r:=by
 rw[←dig_valS hl,← dig_valS hr,h]
theorem bytes_eq{s t:ByteArray}(h:s.data.toList=t.data.toList):s=t:=by
 cases s;cases t
 simp only at h;rw[Array.toList_inj.1 h]
theorem rcmp_any(s t:ByteArray)(w:World)(hs:s.size≤1000000000)(ht:t.size≤1000000000) :
  Calls Tryz.prog 90 #[.string s,.string t] w fun e w'=>e=.returned (.int .i64 (cmpS s.data.toList t.data.toList))∧w=w':=by
 have c1:=fun w=>rmay_any s w (by omega);have c2:=fun w=>rmay_any t w (by omega)
 cases h1:isNat s.data.toList with
 | false =>
  have hr:cmpS s.data.toList t.data.toList=0:=by unfold cmpS;rw[h1];rfl
  rw[hr];simp only[h1]at c1;clear hr h1 c2;go_enter Tryz.func90,Tryz.ntmps90;go_wp2_with fail;refine(c1 _).mono ?_;rintro e w' ⟨rfl,rfl⟩;go_wp2_with fail;go_ret;exact⟨rfl,rfl⟩
 | true=>cases h2:isNat t.data.toList with
  | false =>
   have hr:cmpS s.data.toList t.data.toList=0:=by unfold cmpS;rw[h1,h2];rfl
   rw[hr];simp only[h1]at c1;simp only[h2]at c2;clear hr h1 h2;go_enter Tryz.func90,Tryz.ntmps90;go_wp2_with fail;refine(c1 _).mono ?_;rintro e w' ⟨rfl,rfl⟩;go_wp2_with fail;refine(c2 _).mono ?_;rintro e w' ⟨rfl,rfl⟩;go_wp2_with fail;go_ret;exact⟨rfl,rfl⟩
  | true =>
   rw[cmpS_nat h1 h2];by_cases he:s=t
   ·have hz:cmpN (valS s.data.toList) (valS t.data.toList)=0:=by rw[he];unfold cmpN;simp
    have eb:(s.toList==t.toList)=true:=by rw[he];exact beq_self_eq_true _
    have ep:s.toList=t.toList:=by rw[he]
    simp only[h1]at c1;simp only[h2]at c2;rw[hz];clear hz h1 h2 he;go_enter Tryz.func90,Tryz.ntmps90;go_wp2_with fail;refine(c1 _).mono ?_;rintro e w' ⟨rfl,rfl⟩;go_wp2_with fail;refine(c2 _).mono ?_;rintro e w' ⟨rfl,rfl⟩;go_wp2_with fail;go_ret;exact⟨rfl,rfl⟩
   ·have hne:valS s.data.toList≠valS t.data.toList:=fun h=>he (bytes_eq (nat_same h1 h2 h));have hne2:¬s.toList=t.toList:=fun h=>he (bytes_eq (by rw[ByteArray.toList_eq,ByteArray.toList_eq]at h;exact h));have eb:(s.toList==t.toList)=false:=beq_false_of_ne hne2;have ln:∀m n:Nat,m<n→cmpN m n=-1:=fun m n h=>by unfold cmpN;rw[if_pos h]
    have gn:∀m n:Nat,n<m→cmpN m n=1:=fun m n h=>by unfold cmpN;rw[if_neg (by omega),if_neg (by omega)]
    rcases(by omega:s.size<t.size∨(¬(s.size:Int)<t.size∧t.size<s.size)∨s.size=t.size) with h|h|h
    ·have hz:=ln _ _ (shorter_lt h1 h2 h);simp only[h1]at c1;simp only[h2]at c2;rw[hz];clear hz h1 h2 he hne ln gn;go_enter Tryz.func90,Tryz.ntmps90;go_wp2_with fail;refine(c1 _).mono ?_;rintro e w' ⟨rfl,rfl⟩;go_wp2_with fail;refine(c2 _).mono ?_;rintro e w' ⟨rfl,rfl⟩;go_wp2_with fail;go_ret;exact⟨rfl,rfl⟩
    ·obtain⟨h,h'⟩:=h;have hz:=gn _ _ (shorter_lt h2 h1 h');have hq:((s.size:Int)==(t.size:Int))=false:=beq_false_of_ne (by omega);simp only[h1]at c1;simp only[h2]at c2;rw[hz];clear hz h1 h2 he hne ln gn;go_enter Tryz.func90,Tryz.ntmps90;go_wp2_with fail;refine(c1 _).mono ?_;rintro e w' ⟨rfl,rfl⟩;go_wp2_with fail;refine(c2 _).mono ?_;rintro e w' ⟨rfl,rfl⟩;go_wp2_with fail;go_ret;exact⟨rfl,rfl⟩
    ·have hb:Op.bytesLess s.toList t.toList=decide (valS s.data.toList<valS t.data.toList):=by
      rw[ByteArray.toList_eq,ByteArray.toList_eq];exact less_same (isNat_all h1) (isNat_all h2) h
     have hlt:¬(s.size:Int)<t.size:=by omega
     have hq:((s.size:Int)==(t.size:Int))=true:=by rw[h];exact beq_self_eq_true _
     have hq2:(t.size:Int)=s.size:=by omega
     simp only[h1]at c1;simp only[h2]at c2;rcases Nat.lt_or_gt_of_ne hne with hl|hl
     all_goals
      first|rw[decide_eq_true hl]at hb;rw[ln _ _ hl]|rw[decide_eq_false (by omega)]at hb;rw[gn _ _ hl]
      clear h1 h2 he hne ln gn hl h;go_enter Tryz.func90,Tryz.ntmps90;go_wp2_with fail;refine(c1 _).mono ?_;rintro e w' ⟨rfl,rfl⟩;go_wp2_with fail;refine(c2 _).mono ?_;rintro e w' ⟨rfl,rfl⟩;go_wp2_with fail;go_ret;exact⟨rfl,rfl⟩
end Go.Proofs.YthgopcnagecbaaaGreatDoor
namespace Go.Proofs.YthgopcnagecbaaaGreatDoor
open Go.RowKit
theorem dig_length{n k:Nat}(hk:0<k)(h:n<10 ^ k):(dig n).length≤k:=by
 induction k generalizing n with
 | zero=>omega
 | succ k ih =>
  by_cases h10:n<10
  ·rw[dig_small h10];simp
  ·rw[dig_big h10,List.length_append,List.length_singleton];have hk0:0<k:=by
    rcases Nat.eq_zero_or_pos k with rfl|h0
    ·simp at h;omega
    ·exact h0
   have:=ih hk0 (n:=n / 10) (by rw[Nat.pow_succ]at h;omega);omega
theorem digs_extract{d:Nat}(h:d<10):ByteArray.extract ⟨#[48,49,50,51,52,53,54,55,56,57]⟩ d (d+1)=⟨#[digN d]⟩:=by
 revert d
 decide
theorem ba_append(s t:ByteArray):(s++t).data.toList=s.data.toList++t.data.toList:=by
 rw[ByteArray.data_append,Array.toList_append]
theorem digN_mod(m:Nat):digN (m % 10)=digN m:=by unfold digN;rw[Nat.mod_mod]
theorem rof_any(n:Int)(w:World)(h0:-9223372036854775808≤n)(h1:n≤9223372036854775807) :
  Calls Tryz.prog 94 #[.int .i64 n] w fun e w'=>e=.returned (.string ⟨(ofS n).toArray⟩)∧w=w':=by
 rcases(by omega:n<0∨0≤n) with h|h
 ·have hr:ofS n=[]:=by unfold ofS;rw[if_pos h]
  rw[hr];clear hr;go_enter Tryz.func94,Tryz.ntmps94
  go_wp2
  go_ret;exact⟨rfl,rfl⟩
 ·obtain⟨N,rfl⟩:∃N:Nat,n=(N:Int):=⟨n.toNat,by omega⟩;have hr:ofS (N:Int)=dig N:=by unfold ofS;rw[if_neg (by omega)];rfl
  rw[hr];have h19:(9223372036854775807:Nat)<10 ^ 19:=by decide
  have hlen:(dig N).length≤19:=dig_length (by decide) (by omega);clear h19;have HL:=zh hlen;have h':¬(N:Int)<0:=by omega
  clear hr hlen h;go_enter Tryz.func94,Tryz.ntmps94
  go_wp2
  go_loop [0,3] (fun n s=>∃ (m:Nat) (t:ByteArray),n=.int .i64 m∧s=.string t∧m≤N∧Hid (dig N=dig m++t.data.toList)) (fun n _=>(intOf n).toNat)
  case atStart=>exact⟨N,⟨#[]⟩,rfl,rfl,Nat.le_refl _,(List.append_nil _).symm⟩
  case round =>
   obtain⟨m,t,rfl,rfl,hm,HT⟩:=hrel;have hts:t.size≤19:=by
    have:=congrArg List.length HT.out;rw[List.length_append,size_toList]at this;have:=HL.out;omega
   by_cases hlt:m<10
   ·have hx:=digs_extract hlt;have hr:(⟨#[digN m]⟩:ByteArray)++t=⟨(dig N).toArray⟩:=bytes_eq (by rw[ba_append,HT.out,dig_small hlt]);have HR:=zh hr;clear hr
    go_wp2
    go_ret;exact⟨ret_str HR.out,rfl⟩
   ·have hr:((⟨#[48,49,50,51,52,53,54,55,56,57]⟩:ByteArray).extract (m % 10) (m % 10+1)++t).data.toList=digN m::t.data.toList:=by
     rw[digs_extract (Nat.mod_lt _ (by decide)),ba_append,digN_mod];rfl
    have HR:=zh hr;clear hr
    go_wp2
    go_round
    case rel=>exact⟨m / 10,_,by go_num,rfl,by omega,by rw[HR.out,HT.out,dig_big hlt,List.append_assoc];rfl⟩
    case measure=>simp[intOf];omega
end Go.Proofs.YthgopcnagecbaaaGreatDoor
namespace Go.Proofs.YthgopcnagecbaaaGreatDoor
open Go.RowKit
theorem valS_take_more(l:List UInt8){k:Nat}(h:k<l.length):valS (l.take (k+1))=10*valS (l.take k)+((gb l k).toNat-48):=by
 have h1:l[k]?=some (gb l k):=by unfold gb;rw[List.getElem?_eq_getElem h];rfl
 rw[List.take_add_one,h1,Option.toList_some,valS_snoc]
theorem trim_txt{f:Nat→Nat}{n m:Nat}(hf:∀q,f q<10)(h0:0<n)(hn:n≤4611686018427387904)(hm:dsum f n=m)(w:World) :
  Calls Tryz.prog 93 #[.string ⟨(txt f n).toArray⟩] w fun e w'=>e=.returned (.string ⟨(dig m).toArray⟩)∧w=w':=by
 have hsz:(⟨(txt f n).toArray⟩:ByteArray).size=n:=by show (txt f n).toArray.size=n;simp[txt_length]
 have h:=rtrim_any ⟨(txt f n).toArray⟩ w (by rw[hsz];exact hn) (by rw[hsz];exact h0) (txt_all hf n);have e:valS (⟨(txt f n).toArray⟩:ByteArray).data.toList=m:=(valS_txt hf n).trans hm;rw[e]at h;exact h
theorem radd_any(s t:ByteArray)(w:World)(hs:s.size≤1000000000)(ht:t.size≤1000000000) :
  Calls Tryz.prog 89 #[.string s,.string t] w (GiveS w (addS s.data.toList t.data.toList)):=by
 have c1:=fun w=>rmay_any s w (by omega);have c2:=fun w=>rmay_any t w (by omega)
 cases h1:isNat s.data.toList with
 | false =>
  have hr:addS s.data.toList t.data.toList=[]:=by unfold addS;rw[h1];rfl
  rw[hr];simp only[h1]at c1;clear hr h1 c2;go_enter Tryz.func89,Tryz.ntmps89;go_wp2_with fail;refine(c1 _).mono ?_;rintro e w' ⟨rfl,rfl⟩;go_wp2_with fail;go_ret;exact⟨rfl,Below.refl _ _⟩
 | true=>cases h2:isNat t.data.toList with
  | false =>
   have hr:addS s.data.toList t.data.toList=[]:=by unfold addS;rw[h1,h2];rfl
   rw[hr];simp only[h1]at c1;simp only[h2]at c2;clear hr h1 h2;go_enter Tryz.func89,Tryz.ntmps89;go_wp2_with fail;refine(c1 _).mono ?_;rintro e w' ⟨rfl,rfl⟩;go_wp2_with fail;refine(c2 _).mono ?_;rintro e w' ⟨rfl,rfl⟩;go_wp2_with fail;go_ret;exact⟨rfl,Below.refl _ _⟩
  | true =>
   have hr:addS s.data.toList t.data.toList=dig (valS s.data.toList+valS t.data.toList):=by unfold addS;rw[h1,h2];rfl
   rw[hr];have a1:=fun (k:Nat) (w:World) (hk:k≤1000000001)=>rat_any s k w (by omega) (by omega) (isNat_all h1);have a2:=fun (k:Nat) (w:World) (hk:k≤1000000001)=>rat_any t k w (by omega) (by omega) (isNat_all h2);have f1:=dgS_lt (isNat_all h1);have f2:=dgS_lt (isNat_all h2);have hmm:∃m,m≤1000000000∧s.size≤m∧t.size≤m∧((t.size=m∧s.size<m)∨(s.size=m∧t.size≤m)):=by
    rcases Nat.lt_or_ge s.size t.size with h|h
    ·exact⟨t.size,by omega,by omega,by omega,.inl ⟨rfl,by omega⟩⟩
    ·exact⟨s.size,by omega,by omega,by omega,.inr ⟨rfl,by omega⟩⟩
   obtain⟨m,hb,hx,hy,hcase⟩:=hmm;have hsum:dsum (adD (dgS s.data.toList) (dgS t.data.toList)) (m+1)=valS s.data.toList+valS t.data.toList:=by
    refine ad_done ?_ ?_
    ·rw[dsum_dgS (by rw[size_toList];omega),dsum_dgS (by rw[size_toList];omega)]
    ·have e1:=nat_lt h1;have e2:=nat_lt h2;have e3:10 ^ s.size≤10 ^ m:=Nat.pow_le_pow_right (by decide) hx;have e4:10 ^ t.size≤10 ^ m:=Nat.pow_le_pow_right (by decide) hy;rw[Nat.pow_succ];omega
   have hcl:=adC_le (f:=dgS s.data.toList) (g:=dgS t.data.toList) (B:=2) (fun i=>by have:=f1 i;have:=f2 i;omega);have HT:=zh (fun w=>trim_txt (adD_lt _ _) (Nat.succ_pos m) (by omega) hsum w);simp only[h1]at c1;simp only[h2]at c2;clear hr h1 h2 hsum hs ht;generalize valS s.data.toList+valS t.data.toList=M at *;generalize dgS s.data.toList=F at *;generalize dgS t.data.toList=G at *;have HF:=zh f1;have HG:=zh f2;have HA1:=zh a1;have HA2:=zh a2;have HC:=zh hcl
   have hx1:max (s.size:Int) (m:Int)=(m:Int):=by omega
   have hx2:max (m:Int) (t.size:Int)=(m:Int):=by omega
   clear f1 f2 a1 a2 hx hy hcl;rcases hcase with ⟨hm,hlt⟩|⟨hm,hlt⟩
   all_goals
    go_enter Tryz.func89,Tryz.ntmps89;go_wp2_with fail;refine(c1 _).mono ?_;rintro e w' ⟨rfl,rfl⟩;go_wp2_with fail;refine(c2 _).mono ?_;rintro e w' ⟨rfl,rfl⟩;go_wp2_with (at_make;refine wpList_make_bytes _ rfl _ _ rfl _ _ _ _ (m+1) rfl rfl (by omega) (by omega) (by omega) ?_;intro w1 hmade);clear hm hx1 hx2;have hmr:=hmade.row;have hmb:=hmade.below;clear hmade
    go_loopw [7,8] (fun c i W=>∃k:Nat,k≤m+1∧i=.int .i64 k∧c=.int .i64 (adC F G k:Nat)∧ByF W w.heap.size (m+1)∧Tx W w.heap.size (m+1) (adD F G) k∧Below w.heap.size w W) (fun _ i _=>m+1-(intOf i).toNat)
    case atStart=>exact⟨0,Nat.zero_le _,rfl,rfl,hmr,fun j _ h=>absurd h (by omega),hmb⟩
    case round =>
     obtain⟨k,hk,rfl,rfl,hrow,htx,hbw⟩:=hrel;by_cases hlt2:k<m+1
     ·obtain⟨i,hi⟩:∃i,i=m+1-1-k:=⟨_,rfl⟩;have hi1:i<m+1:=by omega
      have hi2:m+1-1-i=k:=by omega
      have hi3:(m:Int)-(k:Int)=(i:Int):=by omega
      obtain⟨⟨y,hy⟩,hfr⟩:=hrow i hi1;have hr2:=hrow.set ((48+adD F G k:Nat):Int) hi1;have ht2:=htx.set hrow hi1 hi2;have b1:=HF.out k;have b2:=HG.out k;have b3:=HC.out k;have hc:((48+adD F G k:Nat):Int)=48+((F k:Int)+(G k:Int)+(adC F G k:Int)) % 10:=by unfold adD;omega
      have hc2:((adC F G (k+1):Nat):Int)=((F k:Int)+(G k:Int)+(adC F G k:Int)) / 10:=by rw[adC];omega
      rw[hc]at hr2 ht2;have HR2:=zh hr2;have HT2:=zh ht2;have HI1:=zh hi1;have HC2:=zh hc2
      clear hr2 ht2 hi2 hi hc hc2;go_wp2_with fail;refine(HA1.out k _ (by omega)).mono ?_;rintro e w' ⟨rfl,rfl⟩;go_wp2_with fail;refine(HA2.out k _ (by omega)).mono ?_;rintro e w' ⟨rfl,rfl⟩;go_wp2_with fail;go_roundw
      case rel=>exact⟨k+1,by omega,by go_num,congrArg (Value.int .i64) HC2.out.symm,HR2.out,HT2.out,hbw.trans ((Wr.one wr w.heap.size i _).below (Nat.le_refl _) hbw.size)⟩
      case measure=>simp[intOf];omega
     ·obtain rfl:k=m+1:=by omega
      have hcv:=run_convert_bytes_back (P:=Tryz.prog) wr 89 9 5 ⟨w.heap.size,0,none⟩ (m+1) (txt (adD F G) (m+1)) Tryz.underlying89 Tryz.underlying5 Tryz.underlying9 (htx.cells (adD_lt F G));rw[txt_length]at hcv;go_wp2_with fail;refine(HT.out _).mono ?_;rintro e w' ⟨rfl,rfl⟩;go_wp2_with fail;go_ret;exact⟨rfl,hbw⟩
end Go.Proofs.YthgopcnagecbaaaGreatDoor
namespace Go.Proofs.YthgopcnagecbaaaGreatDoor
open Go.RowKit
theorem rsub_any(s t:ByteArray)(w:World)(hs:s.size≤1000000000)(ht:t.size≤1000000000) :
  Calls Tryz.prog 91 #[.string s,.string t] w (GiveSB w (subS s.data.toList t.data.toList)):=by
 have c1:=fun w=>rmay_any s w (by omega);have c2:=fun w=>rmay_any t w (by omega);have c3:=fun w=>rcmp_any s t w hs ht
 cases h1:isNat s.data.toList with
 | false =>
  have hr:subS s.data.toList t.data.toList=([],false):=by unfold subS;rw[h1];rfl
  rw[hr];simp only[h1]at c1;clear hr h1 c2 c3;go_enter Tryz.func91,Tryz.ntmps91;go_wp2_with fail;refine(c1 _).mono ?_;rintro e w' ⟨rfl,rfl⟩;go_wp2_with fail
  go_ret2
  exact⟨rfl,Below.refl _ _⟩
 | true=>cases h2:isNat t.data.toList with
  | false =>
   have hr:subS s.data.toList t.data.toList=([],false):=by unfold subS;rw[h1,h2];rfl
   rw[hr];simp only[h1]at c1;simp only[h2]at c2;clear hr h1 h2 c3;go_enter Tryz.func91,Tryz.ntmps91;go_wp2_with fail;refine(c1 _).mono ?_;rintro e w' ⟨rfl,rfl⟩;go_wp2_with fail;refine(c2 _).mono ?_;rintro e w' ⟨rfl,rfl⟩;go_wp2_with fail
   go_ret2
   exact⟨rfl,Below.refl _ _⟩
  | true =>
   rw[cmpS_nat h1 h2]at c3;by_cases hlt:valS s.data.toList<valS t.data.toList
   ·have hr:subS s.data.toList t.data.toList=([],false):=by
     unfold subS;rw[h1,h2];have:decide (valS t.data.toList≤valS s.data.toList)=false:=by simp;omega
     rw[this];rfl
    rw[hr];have hz:cmpN (valS s.data.toList) (valS t.data.toList)=-1:=by unfold cmpN;rw[if_pos hlt]
    rw[hz]at c3;simp only[h1]at c1;simp only[h2]at c2;clear hr h1 h2 hz hlt;go_enter Tryz.func91,Tryz.ntmps91;go_wp2_with fail;refine(c1 _).mono ?_;rintro e w' ⟨rfl,rfl⟩;go_wp2_with fail;refine(c2 _).mono ?_;rintro e w' ⟨rfl,rfl⟩;go_wp2_with fail;refine(c3 _).mono ?_;rintro e w' ⟨rfl,rfl⟩;go_wp2_with fail
    go_ret2
    exact⟨rfl,Below.refl _ _⟩
   ·have hle:valS t.data.toList≤valS s.data.toList:=by omega
    have hr:subS s.data.toList t.data.toList=(dig (valS s.data.toList-valS t.data.toList),true):=by
     unfold subS;rw[h1,h2];have:decide (valS t.data.toList≤valS s.data.toList)=true:=by simpa using hle
     rw[this];rfl
    rw[hr];have hz:¬cmpN (valS s.data.toList) (valS t.data.toList)<0:=by
     unfold cmpN;rw[if_neg hlt];split<;>omega
    have hst:t.size≤s.size:=by
     rcases Nat.lt_or_ge s.size t.size with h|h
     ·have:=shorter_lt h1 h2 h;omega
     ·exact h
    have h0:0<s.size:=nat_size h1;have a1:=fun (k:Nat) (w:World) (hk:k≤1000000001)=>rat_any s k w (by omega) (by omega) (isNat_all h1);have a2:=fun (k:Nat) (w:World) (hk:k≤1000000001)=>rat_any t k w (by omega) (by omega) (isNat_all h2);have f1:=dgS_lt (isNat_all h1);have f2:=dgS_lt (isNat_all h2);have hsum:dsum (sbD (dgS s.data.toList) (dgS t.data.toList)) s.size=valS s.data.toList-valS t.data.toList:=by
     refine sb_done f1 f2 ?_;rw[dsum_dgS (by rw[size_toList];omega),dsum_dgS (by rw[size_toList];omega)];omega
    have HT:=zh (fun w=>trim_txt (sbD_lt f1 f2) h0 (by omega) hsum w);simp only[h1]at c1;simp only[h2]at c2;clear hr h1 h2 hsum ht hle hlt hst;generalize valS s.data.toList-valS t.data.toList=M at *;generalize cmpN (valS s.data.toList) (valS t.data.toList)=z at *;generalize dgS s.data.toList=F at *;generalize dgS t.data.toList=G at *;have HF:=zh f1;have HG:=zh f2;have HA1:=zh a1;have HA2:=zh a2
    clear f1 f2 a1 a2;go_enter Tryz.func91,Tryz.ntmps91;go_wp2_with fail;refine(c1 _).mono ?_;rintro e w' ⟨rfl,rfl⟩;go_wp2_with fail;refine(c2 _).mono ?_;rintro e w' ⟨rfl,rfl⟩;go_wp2_with fail;refine(c3 _).mono ?_;rintro e w' ⟨rfl,rfl⟩;go_wp2_with (at_make;refine wpList_make_bytes _ rfl _ _ rfl _ _ _ _ s.size rfl rfl (by omega) (by omega) (by omega) ?_;intro w1 hmade);have hmr:=hmade.row;have hmb:=hmade.below;clear hmade
    go_loopw [7,8] (fun c i W=>∃k:Nat,k≤s.size∧i=.int .i64 k∧c=.int .i64 (sbC F G k:Nat)∧ByF W w.heap.size s.size∧Tx W w.heap.size s.size (sbD F G) k∧Below w.heap.size w W) (fun _ i _=>s.size-(intOf i).toNat)
    case atStart=>exact⟨0,Nat.zero_le _,rfl,rfl,hmr,fun j _ h=>absurd h (by omega),hmb⟩
    case round =>
     obtain⟨k,hk,rfl,rfl,hrow,htx,hbw⟩:=hrel;by_cases hlt2:k<s.size
     ·obtain⟨i,hi⟩:∃i,i=s.size-1-k:=⟨_,rfl⟩;have hi1:i<s.size:=by omega
      have hi2:s.size-1-i=k:=by omega
      have hi3:(s.size:Int)-1-(k:Int)=(i:Int):=by omega
      obtain⟨⟨y,hy⟩,hfr⟩:=hrow i hi1;have hr2:=hrow.set ((48+sbD F G k:Nat):Int) hi1;have ht2:=htx.set hrow hi1 hi2;have b1:=HF.out k;have b2:=HG.out k;have b3:=sbC_le F G k;have b4:=sb_one (f:=F) (HG.out k);have b5:=sbD_lt HF.out HG.out k;have hcc:(F k<G k+sbC F G k∧sbC F G (k+1)=1)∨(¬F k<G k+sbC F G k∧sbC F G (k+1)=0):=by
       rw[sbC];by_cases h:F k<G k+sbC F G k
       ·exact .inl ⟨h,if_pos h⟩
       ·exact .inr ⟨h,if_neg h⟩
      rcases hcc with ⟨hc1,hc2⟩|⟨hc1,hc2⟩
      ·have hc:((48+sbD F G k:Nat):Int)=48+((F k:Int)-(G k:Int)-(sbC F G k:Int)+10):=by omega
       have hneg:(F k:Int)-(G k:Int)-(sbC F G k:Int)<0:=by omega
       have hlo:0≤(F k:Int)-(G k:Int)-(sbC F G k:Int)+10:=by omega
       rw[hc]at hr2 ht2;have HR2:=zh hr2;have HT2:=zh ht2;have HI1:=zh hi1;have HC2:=zh hc2
       clear hr2 ht2 hi2 hi hc hc2 b4 hc1;go_wp2_with fail;refine(HA1.out k _ (by omega)).mono ?_;rintro e w' ⟨rfl,rfl⟩;go_wp2_with fail;refine(HA2.out k _ (by omega)).mono ?_;rintro e w' ⟨rfl,rfl⟩;go_wp2_with fail;go_roundw
       case rel=>exact⟨k+1,by omega,by go_num,congrArg (Value.int .i64) (by rw[HC2.out];rfl),HR2.out,HT2.out,hbw.trans ((Wr.one wr w.heap.size i _).below (Nat.le_refl _) hbw.size)⟩
       case measure=>simp[intOf];omega
      ·have hc:((48+sbD F G k:Nat):Int)=48+((F k:Int)-(G k:Int)-(sbC F G k:Int)):=by omega
       have hneg:¬(F k:Int)-(G k:Int)-(sbC F G k:Int)<0:=by omega
       rw[hc]at hr2 ht2;have HR2:=zh hr2;have HT2:=zh ht2;have HI1:=zh hi1;have HC2:=zh hc2
       clear hr2 ht2 hi2 hi hc hc2 b4 hc1;go_wp2_with fail;refine(HA1.out k _ (by omega)).mono ?_;rintro e w' ⟨rfl,rfl⟩;go_wp2_with fail;refine(HA2.out k _ (by omega)).mono ?_;rintro e w' ⟨rfl,rfl⟩;go_wp2_with fail;go_roundw
       case rel=>exact⟨k+1,by omega,by go_num,congrArg (Value.int .i64) (by rw[HC2.out];rfl),HR2.out,HT2.out,hbw.trans ((Wr.one wr w.heap.size i _).below (Nat.le_refl _) hbw.size)⟩
       case measure=>simp[intOf];omega
     ·obtain rfl:k=s.size:=by omega
      have hcv:=run_convert_bytes_back (P:=Tryz.prog) wr 89 9 5 ⟨w.heap.size,0,none⟩ s.size (txt (sbD F G) s.size) Tryz.underlying89 Tryz.underlying5 Tryz.underlying9 (htx.cells (sbD_lt HF.out HG.out));rw[txt_length]at hcv;go_wp2_with fail;refine(HT.out _).mono ?_;rintro e w' ⟨rfl,rfl⟩;go_wp2_with fail
      go_ret2
      exact⟨rfl,hbw⟩
end Go.Proofs.YthgopcnagecbaaaGreatDoor
namespace Go.Proofs.YthgopcnagecbaaaGreatDoor
open Go.RowKit
def Ci(w:World)(b n:Nat)(z:Nat→Nat):Prop:=∀j,j<n→w.cell? ⟨b,j,none⟩=some (.int .i64 ((z j:Nat):Int))∧w.frozen? ⟨b,j,none⟩=false
theorem Ci.below{B:Nat}{w w':World}{b n:Nat}{z:Nat→Nat}(h:Below B w w')(hb:b<B)(ha:Ci w b n z):Ci w' b n z :=
 fun j hj=>⟨(h.cell (p:=⟨b,j,none⟩) hb).trans (ha j hj).1,(h.frozen (p:=⟨b,j,none⟩) hb).trans (ha j hj).2⟩
theorem Ci.add{w:World}{b n:Nat}{z:Nat→Nat}(h:Ci w b n z){i:Nat}(hi:i<n)(d:Nat):Ci (w.setCell ⟨b,i,none⟩ (.int .i64 ((z i+d:Nat):Int))) b n (upd z i d):=fun j hj=>by
 refine⟨?_,(World.frozen?_setCell _ _ _ _).trans (h j hj).2⟩;unfold upd;by_cases e:j=i
 ·subst e;rw[if_pos rfl];exact World.cell?_setCell_same' _ _ _ (by rw[(h j hj).1];rfl)
 ·rw[if_neg e,cell?_setCell_ne _ _ _ _ _ (fun e'=>e e'.symm)];exact(h j hj).1
structure MadeI(w w':World)(n:Nat):Prop where
 size:w'.heap.size=w.heap.size+1
 row:Ci w' w.heap.size n (fun _=>0)
 below:Below w.heap.size w w'
theorem madeI(w:World)(n t:Nat):MadeI w (w.alloc (.cells (madeCells #[.int .i64 0] n) t)) n:=by
 have hb:=World.alloc_heap_new w (.cells (madeCells #[.int .i64 0] n) t);have hl:(madeCells #[Value.int .i64 0] n).toList=List.replicate n (.int .i64 0):=toList_madeCells_one _ _;refine⟨by simp,fun j hj=>⟨?_,?_⟩,(Below.refl _ _).alloc (Nat.le_refl _) _⟩
 ·rw[cell_of_row _ _ _ _ _ _ hb,← Array.getElem?_toList,hl];simp[hj]
 ·unfold World.frozen?;rw[hb];simp
theorem info_int:(Tryz.prog.info? 3).map (fun i=>(i.zero,i.size,i.bytes))=some (some (.int .i64 0),1,8):=by kernel_rfl
theorem wpList_make_ints(w:World){ops:Array Oper}{rest:List Oper}{o:Oper}{a:Act}{Q:Exit→Act→World→Prop}
  (hg:o.guard=none) (l c:Operand) (hop:o.op=Op.makeSlice 97 l c) (kl kc:IntKind) (L C:Int) (n:Nat) (hl:a.eval l=.int kl L) (hc:a.eval c=.int kc C) (hL:L=(n:Int)) (hC:C=(n:Int))
  (h:n≤4294967296) (hK:∀w',MadeI w w' n→wpList Tryz.prog ops Q rest (a.put o.dst (.slice (some ⟨w.heap.size,0,none⟩) n n)) w') :
  wpList Tryz.prog ops Q (o::rest) a w:=by
 obtain⟨i,hi,hz0,hz1,hz2⟩:=info_parts info_int;subst hL;subst hC;exact wpList_make_row w hg l c 97 hop 3 i (.int .i64 0) Tryz.underlying97 hi hz0 hz1 rfl kl kc n hl hc (by rw[hz2];omega) (by omega) (hK _ (madeI w n 3))
theorem rat_same(s:ByteArray)(i:Nat)(w:World)(hs:s.size≤4611686018427387904)(hi:i≤4611686018427387904)(hd:s.data.toList.all isDig=true) :
  Calls Tryz.prog 92 #[.string s,.int .i64 (i:Int)] w fun e w'=>e=.returned (.int .i64 ((dgS s.data.toList i:Nat):Int))∧w'=w :=
 (rat_any s i w hs hi hd).mono fun _ _ ⟨he,hw⟩=>⟨he,hw.symm⟩
def zr(_:Nat):Nat:=0
theorem dsum_zr(n:Nat):dsum zr n=0:=dsum_zero (fun _ _=>rfl)
theorem rmul_any(s t:ByteArray)(w:World)(hs:s.size≤1000000)(ht:t.size≤1000000) :
  Calls Tryz.prog 54 #[.string s,.string t] w (GiveS w (mulS s.data.toList t.data.toList)):=by
 have c1:=fun w=>rmay_any s w (by omega);have c2:=fun w=>rmay_any t w (by omega)
 cases h1:isNat s.data.toList with
 | false =>
  have hr:mulS s.data.toList t.data.toList=[]:=by unfold mulS;rw[h1];rfl
  rw[hr];simp only[h1]at c1;clear hr h1 c2;go_enter Tryz.func54,Tryz.ntmps54;go_wp2_with fail;refine(c1 _).mono ?_;rintro e w' ⟨rfl,rfl⟩;go_wp2_with fail;go_ret;exact⟨rfl,Below.refl _ _⟩
 | true=>cases h2:isNat t.data.toList with
  | false =>
   have hr:mulS s.data.toList t.data.toList=[]:=by unfold mulS;rw[h1,h2];rfl
   rw[hr];simp only[h1]at c1;simp only[h2]at c2;clear hr h1 h2;go_enter Tryz.func54,Tryz.ntmps54;go_wp2_with fail;refine(c1 _).mono ?_;rintro e w' ⟨rfl,rfl⟩;go_wp2_with fail;refine(c2 _).mono ?_;rintro e w' ⟨rfl,rfl⟩;go_wp2_with fail;go_ret;exact⟨rfl,Below.refl _ _⟩
  | true =>
   have hr:mulS s.data.toList t.data.toList=dig (valS s.data.toList*valS t.data.toList):=by unfold mulS;rw[h1,h2];rfl
   rw[hr];have a1:=fun (k:Nat) (w:World) (hk:k≤1000000001)=>rat_same s k w (by omega) (by omega) (isNat_all h1);have a2:=fun (k:Nat) (w:World) (hk:k≤1000000001)=>rat_same t k w (by omega) (by omega) (isNat_all h2);have f1:=dgS_lt (isNat_all h1);have f2:=dgS_lt (isNat_all h2);have h0:0<s.size:=nat_size h1;have hv:valS s.data.toList*valS t.data.toList<10 ^ (s.size+t.size):=mul_lt (nat_lt h1) (nat_lt h2);have d1:dsum (dgS s.data.toList) s.size=valS s.data.toList:=dsum_self _;have d2:dsum (dgS t.data.toList) t.size=valS t.data.toList:=dsum_self _;rw[←d1,← d2]at hv;rw[←d1,← d2];simp only[h1]at c1;simp only[h2]at c2;clear hr h1 h2 d1 d2;generalize dgS s.data.toList=F at *;generalize dgS t.data.toList=G at *;have HF:=zh f1;have HG:=zh f2;have HA1:=zh a1;have HA2:=zh a2;have HV:=zh hv
   obtain⟨N,hN⟩:∃N,s.size+t.size=N:=⟨_,rfl⟩;have hNi:(s.size:Int)+(t.size:Int)=(N:Int):=by omega
   have hN0:0<N:=by omega
   have hN1:N≤2000000:=by omega
   have HN:=zh hN;clear f1 f2 a1 a2 hN hv;go_enter Tryz.func54,Tryz.ntmps54;go_wp2_with fail;refine(c1 _).mono ?_;rintro e w' ⟨rfl,rfl⟩;go_wp2_with fail;refine(c2 _).mono ?_;rintro e w' ⟨rfl,rfl⟩;go_wp2_with (at_make;refine wpList_make_ints _ rfl _ _ rfl _ _ _ _ (N+1) rfl rfl (by omega) (by omega) (by omega) ?_;intro w1 hmade);clear hNi;have hmr:=hmade.row;have hmb:=hmade.below;have hmz:w.heap.size<w1.heap.size:=by rw[hmade.size];omega
   clear hmade
   go_loopw [7] (fun i W=>∃ (k:Nat) (z:Nat→Nat),k≤s.size∧i=.int .i64 k∧MulRel F G s.size t.size z k 0∧Ci W w.heap.size (N+1) z∧w.heap.size<W.heap.size∧Below w.heap.size w W) (fun i _=>s.size-(intOf i).toNat)
   case atStart=>exact⟨0,_,Nat.zero_le _,rfl,MulRel.start F G _ _,hmr,hmz,hmb⟩
   case round =>
    obtain⟨k,z,hk,rfl,hr,hci,hsz,hbw⟩:=hrel;by_cases hlt:k<s.size
    ·go_wp2
     go_loopw [8] (fun i W=>∃ (j:Nat) (z:Nat→Nat),j≤t.size∧i=.int .i64 j∧MulRel F G s.size t.size z k j∧Ci W w.heap.size (N+1) z∧w.heap.size<W.heap.size∧Below w.heap.size w W) (fun i _=>t.size-(intOf i).toNat)
     case atStart=>exact⟨0,z,Nat.zero_le _,rfl,hr,hci,hsz,hbw⟩
     case round =>
      obtain⟨j,z,hj,rfl,hr,hci,hsz,hbw⟩:=hrel;by_cases hlt2:j<t.size
      ·have b1:=HF.out k;have b2:=HG.out j;have hst:=hr.step (HF.out k) (HG.out j) hlt hlt2;have hkj:k+j<N+1:=by have:=HN.out;omega
       obtain⟨q1,q2⟩:=hci (k+j) hkj;have hzb:z (k+j)≤100000000000000:=by
        have h1:=hr.2.1 (k+j);have h2:k*t.size≤1000000*1000000:=Nat.mul_le_mul (by omega) (by omega);omega
       have hpb:F k*G j≤81:=Nat.le_trans (Nat.mul_le_mul (by omega:F k≤9) (by omega:G j≤9)) (by decide);have hcast:((z (k+j)+F k*G j:Nat):Int)=(z (k+j):Int)+(F k:Int)*(G j:Int):=by rw[Int.natCast_add,Int.natCast_mul]
       have hpb2:(F k:Int)*(G j:Int)≤81:=by rw[←Int.natCast_mul];omega
       have hpb3:0≤(F k:Int)*(G j:Int):=by rw[←Int.natCast_mul];omega
       have HST:=zh hst;clear hst hr;have A1:=zh (HA1.out k wr.drew (by omega));have A2:=zh (HA2.out j wr.drew (by omega));have hx1:IntKind.i64.wrap ((k:Int)+(j:Int))=(k:Int)+(j:Int):=IntWalk.i64_in _ (by omega);have hx2:((k:Int)+(j:Int)).toNat=k+j:=by omega
       have hx3:0≤(k:Int)+(j:Int)∧(k:Int)+(j:Int)<(N:Int)+1:=by omega
       have hx4:IntKind.i64.wrap ((F k:Int)*(G j:Int))=(F k:Int)*(G j:Int):=IntWalk.i64_in _ (by omega);have hx5:IntKind.i64.wrap ((z (k+j):Int)+(F k:Int)*(G j:Int))=(z (k+j):Int)+(F k:Int)*(G j:Int):=IntWalk.i64_in _ (by omega);go_wp2_with fail;refine wp_region_still_tail 15 (by kernel_rfl) (by kernel_rfl) ?_;simp only[List.take_succ_cons,List.take_zero,List.drop_succ_cons,List.drop_zero]
       repeat still_step
       still_call A1.out
       repeat still_step
       still_call A2.out
       repeat still_step
       refine wpStill_nil ?_
       change wpList _ _ _ _ _ wr.drew
       clear hx1 hx2 hx3 hx4 hx5;have q1d:wr.drew.cell? ⟨w.heap.size,k+j,none⟩=some (.int .i64 (z (k+j):Nat)):=q1;have q2d:wr.drew.frozen? ⟨w.heap.size,k+j,none⟩=false:=q2;have hszd:w.heap.size<wr.drew.heap.size:=hsz;have hbwd:Below w.heap.size w wr.drew:=hbw.drew;have hcid:Ci wr.drew w.heap.size (N+1) z:=hci;have HADD:=zh (by have h:=hcid.add hkj (F k*G j);rw[hcast]at h;exact h);clear q1 q2 hsz hbw hci hcid hcast;generalize wr.drew=w2 at *
       go_wp2
       go_roundw
       case rel=>exact⟨j+1,_,by omega,by go_num,HST.out,HADD.out,by rw[size_setCell];exact hszd,hbwd.trans ((Wr.one w2 w.heap.size (k+j) _).below (Nat.le_refl _) hbwd.size)⟩
       case measure=>simp[intOf];omega
      ·obtain rfl:j=t.size:=by omega
       have hrow:=hr.row;have HROW:=zh hrow;clear hrow
       go_wp2
       go_roundw
       case rel=>exact⟨k+1,z,by omega,by go_num,HROW.out,hci,hsz,hbw⟩
       case measure=>simp[intOf];omega
    ·obtain rfl:k=s.size:=by omega
     have hsum:dsum (adD z zr) N=dsum F s.size*dsum G t.size:=by
      refine ad_done ?_ ?_
      ·rw[dsum_zr,Nat.add_zero,← HN.out,hr.1];have:dsum G 0=0:=rfl;rw[this,Nat.mul_zero,Nat.add_zero]
      ·rw[←HN.out];exact HV.out
     have hzb:∀j,z j≤100000000000000:=fun j=>by
      have h1:=hr.2.1 j;have h2:s.size*t.size≤1000000*1000000:=Nat.mul_le_mul (by omega) (by omega);omega
     have hcl:=adC_le (f:=z) (g:=zr) (B:=100000000000000) (fun i=>by have:=hzb i;show z i+0≤_;omega);have HT:=zh (fun w=>trim_txt (adD_lt z zr) hN0 (by omega) hsum w);have HZB:=zh hzb;have HC:=zh hcl
     clear hr hzb hcl hsum;go_wp2_with (at_make;refine wpList_make_bytes _ rfl _ _ rfl _ _ _ _ N rfl rfl (by omega) (by omega) (by omega) ?_;intro w2 hmade2);have hmr2:=hmade2.row;have hmb2:=hmade2.below;clear hmade2;have hbw2:Below w.heap.size w w2:=hbw.trans (hmb2.mono hbw.size);have hci2:Ci w2 w.heap.size (N+1) z:=hci.below hmb2 hsz;have hB2:wr.heap.size≤w2.heap.size:=hmb2.size;clear hmb2 hci hbw;generalize wr.heap.size=B2 at *
     go_loopw [10,11] (fun c i W=>∃k:Nat,k≤N∧i=.int .i64 k∧c=.int .i64 (adC z zr k:Nat)∧ByF W B2 N∧Tx W B2 N (adD z zr) k∧Below B2 w2 W) (fun _ i _=>N-(intOf i).toNat)
     case atStart=>exact⟨0,Nat.zero_le _,rfl,rfl,hmr2,fun j _ h=>absurd h (by omega),Below.refl _ _⟩
     case round =>
      obtain⟨k,hk,rfl,rfl,hrow,htx,hbw3⟩:=hrel;by_cases hlt2:k<N
      ·obtain⟨i,hi⟩:∃i,i=N-1-k:=⟨_,rfl⟩;have hi1:i<N:=by omega
       have hi2:N-1-i=k:=by omega
       have hi3:(N:Int)-1-(k:Int)=(i:Int):=by omega
       obtain⟨⟨y,hy⟩,hfr⟩:=hrow i hi1;obtain⟨q1,q2⟩:=(hci2.below hbw3 hsz) k (by omega);have hr2:=hrow.set ((48+adD z zr k:Nat):Int) hi1;have ht2:=htx.set hrow hi1 hi2;have b1:=HZB.out k;have b3:=HC.out k;have hc:((48+adD z zr k:Nat):Int)=48+((z k:Int)+(adC z zr k:Int)) % 10:=by unfold adD zr;omega
       have hc2:((adC z zr (k+1):Nat):Int)=((z k:Int)+(adC z zr k:Int)) / 10:=by rw[adC];unfold zr;omega
       rw[hc]at hr2 ht2;have HR2:=zh hr2;have HT2:=zh ht2;have HI1:=zh hi1;have HC2:=zh hc2
       clear hr2 ht2 hi2 hi hc hc2;go_wp2_with fail;go_roundw
       case rel=>exact⟨k+1,by omega,by go_num,congrArg (Value.int .i64) HC2.out.symm,HR2.out,HT2.out,hbw3.trans ((Wr.one _ _ i _).below (Nat.le_refl _) (Nat.le_trans hB2 hbw3.size))⟩
       case measure=>simp[intOf];omega
      ·obtain rfl:k=N:=by omega
       have hcv:=run_convert_bytes_back (P:=Tryz.prog) wr 89 9 5 ⟨B2,0,none⟩ k (txt (adD z zr) k) Tryz.underlying89 Tryz.underlying5 Tryz.underlying9 (htx.cells (adD_lt z zr));rw[txt_length]at hcv;go_wp2_with fail;refine(HT.out _).mono ?_;rintro e w' ⟨rfl,rfl⟩;go_wp2_with fail;go_ret;exact⟨rfl,hbw2.trans (hbw3.mono (Nat.le_of_lt hsz))⟩
end Go.Proofs.YthgopcnagecbaaaGreatDoor
namespace Go.Proofs.YthgopcnagecbaaaGreatDoor
open Go.RowKit
theorem dig_len_le{m n:Nat}(h:m≤n):(dig m).length≤(dig n).length:=by
 have h1:=valS_lt (dig_all n);rw[valS_dig]at h1;refine dig_length (List.length_pos_iff.2 (dig_ne n)) (by omega)
theorem dig_len_more{m n:Nat}(h:m<10*n):(dig m).length≤(dig n).length+1:=by
 have h1:=valS_lt (dig_all n);rw[valS_dig]at h1;refine dig_length (by omega) (by rw[Nat.pow_succ];omega)
theorem dig_len{s:ByteArray}(h:isNat s.data.toList=true):(dig (valS s.data.toList)).length=s.size:=by rw[dig_valS h];rfl
theorem size_dig(n:Nat):(⟨(dig n).toArray⟩:ByteArray).size=(dig n).length:=by show (dig n).toArray.size=_;simp
theorem str_dig{s:ByteArray}(h:isNat s.data.toList=true):s=⟨(dig (valS s.data.toList)).toArray⟩:=bytes_eq (dig_valS h).symm
theorem step_div{X v d:Nat}(hv:0<v):(10*X+d) / v=10*(X / v)+(10*(X % v)+d) / v∧(10*X+d) % v=(10*(X % v)+d) % v:=by
 have h:10*X+d=v*(10*(X / v))+(10*(X % v)+d):=by
  have:=Nat.div_add_mod X v;have e:v*(10*(X / v))=10*(v*(X / v)):=Nat.mul_left_comm _ _ _;omega
 rw[h,Nat.mul_add_div hv,Nat.mul_add_mod];exact⟨rfl,rfl⟩
theorem div_of{Y v d:Nat}(h1:d*v≤Y)(h2:Y-d*v<v):Y / v=d∧Y % v=Y-d*v:=by
 have hv:0<v:=by omega
 have e:Y=v*d+(Y-d*v):=by rw[Nat.mul_comm v d];omega
 constructor
 ·rw[e,Nat.mul_add_div hv,Nat.div_eq_of_lt h2,Nat.add_zero]
 ·conv=>lhs;rw[e]
  rw[Nat.mul_add_mod,Nat.mod_eq_of_lt h2]
theorem cmpN_lt{m n:Nat}(h:m<n):cmpN m n=-1:=by unfold cmpN;rw[if_pos h]
theorem cmpN_ge{m n:Nat}(h:n≤m):0≤cmpN m n:=by unfold cmpN;rw[if_neg (by omega)];split<;>decide
theorem rdiv_any(s t:ByteArray)(w:World)(hs:s.size≤1000000)(ht:t.size≤1000000) :
  Calls Tryz.prog 85 #[.string s,.string t] w (GiveSSB w (divS s.data.toList t.data.toList)):=by
 have c1:=fun w=>rmay_any s w (by omega);have c2:=fun w=>rmay_any t w (by omega)
 cases h1:isNat s.data.toList with
 | false =>
  have hr:divS s.data.toList t.data.toList=([],[],false):=by unfold divS;rw[h1];rfl
  rw[hr];simp only[h1]at c1;clear hr h1 c2;go_enter Tryz.func85,Tryz.ntmps85;go_wp2_with fail;refine(c1 _).mono ?_;rintro e w' ⟨rfl,rfl⟩;go_wp2_with fail
  go_ret3
  exact⟨rfl,Below.refl _ _⟩
 | true=>cases h2:isNat t.data.toList with
  | false =>
   have hr:divS s.data.toList t.data.toList=([],[],false):=by unfold divS;rw[h1,h2];rfl
   rw[hr];simp only[h1]at c1;simp only[h2]at c2;clear hr h1 h2;go_enter Tryz.func85,Tryz.ntmps85;go_wp2_with fail;refine(c1 _).mono ?_;rintro e w' ⟨rfl,rfl⟩;go_wp2_with fail;refine(c2 _).mono ?_;rintro e w' ⟨rfl,rfl⟩;go_wp2_with fail
   go_ret3
   exact⟨rfl,Below.refl _ _⟩
  | true =>
   by_cases h0:valS t.data.toList=0
   ·have hr:divS s.data.toList t.data.toList=([],[],false):=by
     unfold divS;rw[h1,h2,h0];rfl
    rw[hr];have hz:=nat_zero h2 h0;have e1:=eqB_true hz;have e2:=toList_is hz;simp only[h1]at c1;simp only[h2]at c2;clear hr h1 h2 h0 hz;go_enter Tryz.func85,Tryz.ntmps85;go_wp2_with fail;refine(c1 _).mono ?_;rintro e w' ⟨rfl,rfl⟩;go_wp2_with fail;refine(c2 _).mono ?_;rintro e w' ⟨rfl,rfl⟩;go_wp2_with fail
    go_ret3
    exact⟨rfl,Below.refl _ _⟩
   ·have h0':0<valS t.data.toList:=by omega
    have hr:divS s.data.toList t.data.toList=(dig (valS s.data.toList / valS t.data.toList),dig (valS s.data.toList % valS t.data.toList),true):=by
     unfold divS;rw[h1,h2];have:decide (0<valS t.data.toList)=true:=by simpa using h0'
     rw[this];rfl
    rw[hr];have hne:t.data.toList≠[48]:=fun e=>h0 (by rw[e];rfl);have e1:=eqB_false hne;have e2:=eqS_false hne;have hsz0:0<s.size:=nat_size h1;have hx0:valS (s.data.toList.take 0)=0:=by rw[List.take_zero];rfl
    have hxs:∀k,k<s.size→valS (s.data.toList.take (k+1))=10*valS (s.data.toList.take k)+((gb s.data.toList k).toNat-48):=fun k hk=>valS_take_more _ hk;have hxd:∀k,k<s.size→48≤(gb s.data.toList k).toNat∧(gb s.data.toList k).toNat≤57:=fun k hk=>gb_dig (isNat_all h1) hk;have hxe:valS (s.data.toList.take s.size)=valS s.data.toList:=by rw[←size_toList,List.take_length]
    have hx1:∀k,k<s.size→(s.extract k (k+1)).data.toList=[gb s.data.toList k]:=fun k hk=>by
     rw[Lib.extract_data,show k+1-k=1 from by omega,List.drop_eq_getElem_cons (by rw[size_toList];exact hk)];unfold gb;rw[List.getElem?_eq_getElem (by rw[size_toList];exact hk)]
     rfl
    have htl:=dig_len h2;have hcmp:∀ (m:Nat) (w:World),(dig m).length≤1000001→Calls Tryz.prog 90 #[.string ⟨(dig m).toArray⟩,.string t] w fun e w'=>e=.returned (.int .i64 (cmpN m (valS t.data.toList)))∧w=w':=fun m w hm=>by
     have h:=rcmp_any ⟨(dig m).toArray⟩ t w (by rw[size_dig];omega) (by omega);have e:cmpS (⟨(dig m).toArray⟩:ByteArray).data.toList t.data.toList=cmpN m (valS t.data.toList):=by
      show cmpS (dig m) _=_;rw[cmpS_nat (isNat_dig m) h2,valS_dig]
     rw[e]at h;exact h
    have hsub:∀ (m:Nat) (w:World),(dig m).length≤1000001→valS t.data.toList≤m→Calls Tryz.prog 91 #[.string ⟨(dig m).toArray⟩,.string t] w (GiveSB w (dig (m-valS t.data.toList),true)):=fun m w hm hle=>by
     have h:=rsub_any ⟨(dig m).toArray⟩ t w (by rw[size_dig];omega) (by omega);have e:subS (⟨(dig m).toArray⟩:ByteArray).data.toList t.data.toList=(dig (m-valS t.data.toList),true):=by
      show subS (dig m) _=_;unfold subS;rw[isNat_dig,h2,valS_dig,decide_eq_true hle];rfl
     rw[e]at h;exact h
    simp only[h1]at c1;simp only[h2]at c2;generalize hX:(fun k=>valS (s.data.toList.take k))=X at *;have hXe:∀k,valS (s.data.toList.take k)=X k:=fun k=>by rw[←hX]
    simp only[hXe]at hx0 hxs hxe;rw[←hxe];have HX0:=zh hx0;have HXS:=zh hxs;have HXD:=zh hxd;have HX1:=zh hx1
    have HCMP:=zh hcmp;have HSUB:=zh hsub
    generalize valS t.data.toList=V at *;have HTL:Hid ((dig V).length≤1000000):=zh (by rw[htl];exact ht);clear hx0 hxs hxd hx1 hX hXe hxe hr h1 h2 h0 hne hcmp hsub htl;go_enter Tryz.func85,Tryz.ntmps85;go_wp2_with fail;refine(c1 _).mono ?_;rintro e w' ⟨rfl,rfl⟩;go_wp2_with fail;refine(c2 _).mono ?_;rintro e w' ⟨rfl,rfl⟩;go_wp2_with fail
    go_loopw [7,8,9] (fun q r i W=>∃ (k:Nat) (qs:ByteArray),k≤s.size∧i=.int .i64 k∧q=.string qs∧r=.string ⟨(dig (X k % V)).toArray⟩∧Hid (qs.data.toList.all isDig=true∧qs.size=k∧valS qs.data.toList=X k / V)∧Below w.heap.size w W) (fun _ _ i _=>s.size-(intOf i).toNat)
    case atStart=>exact⟨0,⟨#[]⟩,Nat.zero_le _,rfl,rfl,by rw[HX0.out,Nat.zero_mod,dig_zero],⟨rfl,rfl,by rw[HX0.out,Nat.zero_div];rfl⟩,Below.refl _ _⟩
    case round =>
     obtain⟨k,qs,hk,rfl,rfl,rfl,HQ,hbw⟩:=hrel;by_cases hlt:k<s.size
     ·obtain⟨d,hd⟩:∃d,d=(gb s.data.toList k).toNat-48:=⟨_,rfl⟩;have hd9:d≤9:=by have:=HXD.out k hlt;omega
      have hXk:=HXS.out k hlt;rw[←hd]at hXk;obtain⟨Y,hY⟩:∃Y,Y=10*(X k % V)+d:=⟨_,rfl⟩;have hR:=Nat.mod_lt (X k) h0';have hYV:Y<10*V:=by omega
      have hstep:=step_div (X:=X k) (d:=d) h0';rw[←hY]at hstep;have hlR:=dig_len_le (Nat.le_of_lt hR);have hlY:=dig_len_more hYV;have hLV:=HTL.out;have hall:((⟨(dig (X k % V)).toArray⟩:ByteArray)++s.extract k (k+1)).data.toList=dig (X k % V)++[gb s.data.toList k]:=by rw[ba_append,HX1.out k hlt]
      have hbd:=HXD.out k hlt;have hallD:(dig (X k % V)++[gb s.data.toList k]).all isDig=true:=by
       rw[List.all_append,dig_all,Bool.true_and];have:isDig (gb s.data.toList k)=true:=by unfold isDig;simp only[Bool.and_eq_true,decide_eq_true_eq];exact hbd
       simp[this]
      have hallV:valS (dig (X k % V)++[gb s.data.toList k])=Y:=by rw[valS_snoc,valS_dig,hY,hd]
      have hallL:((⟨(dig (X k % V)).toArray⟩:ByteArray)++s.extract k (k+1)).size=(dig (X k % V)).length+1:=by
       rw[←size_toList,hall,List.length_append];rfl
      have hes:(s.extract k (k+1)).size=1:=by rw[←size_toList,HX1.out k hlt];rfl
      have hds:(⟨(dig (X k % V)).toArray⟩:ByteArray).size≤1000000:=by rw[size_dig];omega
      have htr:=fun w=>rtrim_any ((⟨(dig (X k % V)).toArray⟩:ByteArray)++s.extract k (k+1)) w (by rw[hallL];omega) (by rw[hallL];omega) (by rw[hall];exact hallD);rw[hall,hallV]at htr;have HTR:=zh htr;have HSTEP:=zh hstep;have HXK:=zh hXk;have HLY:=zh hlY;have HYV:=zh hYV
      have hadd:=fun w=>run_string_add_sum (P:=Tryz.prog) w (⟨(dig (X k % V)).toArray⟩:ByteArray) (s.extract k (k+1)) (by omega);clear hd hXk hY hR hYV hstep hlR hlY hLV hall hbd hallD hallV hallL hes hds htr;go_wp2_with fail;refine(HTR.out _).mono ?_;rintro e w' ⟨rfl,rfl⟩;clear hadd;go_wp2_with fail
      go_loopw [8,10] (fun r c W=>∃m:Nat,r=.string ⟨(dig (Y-m*V)).toArray⟩∧m*V≤Y∧c=.int .i64 m∧Below w.heap.size w W) (fun _ c _=>10-(intOf c).toNat)
      case atStart=>exact⟨0,by rw[Nat.zero_mul,Nat.sub_zero],by rw[Nat.zero_mul];exact Nat.zero_le _,rfl,hbw⟩
      case round =>
       obtain⟨m,rfl,hm,rfl,hbw⟩:=hrel;have hm10:m<10:=by
        have h1:=HYV.out;rcases Nat.lt_or_ge m 10 with h|h
        ·exact h
        ·have:=Nat.mul_le_mul_right V h;omega
       have hlen:(dig (Y-m*V)).length≤1000001:=by
        have h1:=dig_len_le (Nat.sub_le Y (m*V));have h2:=HLY.out;have h3:=HTL.out;omega
       by_cases hge:V≤Y-m*V
       ·have hc:=cmpN_ge hge;have HC1:=zh (fun w=>HCMP.out (Y-m*V) w hlen);have HC2:=zh (fun w=>HSUB.out (Y-m*V) w hlen hge);have hnx:(m+1)*V≤Y:=by rw[Nat.add_mul,Nat.one_mul];omega
        have hns:Y-m*V-V=Y-(m+1)*V:=by rw[Nat.add_mul,Nat.one_mul];omega
        have HNX:=zh hnx;have HNS:=zh hns
        clear hnx hns hlen hge hm;generalize cmpN (Y-m*V) V=z at *;go_wp2_with fail;refine(HC1.out _).mono ?_;rintro e w' ⟨rfl,rfl⟩;go_wp2_with fail;refine(HC2.out _).mono ?_;rintro e w' ⟨rfl,hb⟩;go_wp2_with fail;go_roundw
        case rel=>exact⟨m+1,by rw[HNS.out],HNX.out,by go_num,hbw.trans (hb.mono hbw.size)⟩
        case measure=>simp[intOf];omega
       ·have hc:=cmpN_lt (Nat.lt_of_not_le hge);have HC1:=zh (fun w=>HCMP.out (Y-m*V) w hlen);rw[hc]at HC1;have hdv:=div_of hm (Nat.lt_of_not_le hge);have hk1:X (k+1) % V=Y-m*V:=by rw[HXK.out,HSTEP.out.2,hdv.2]
        have hqs:(qs++⟨#[digN m]⟩).data.toList.all isDig=true∧(qs++⟨#[digN m]⟩).size=k+1∧valS (qs++⟨#[digN m]⟩).data.toList=X (k+1) / V:=by
         obtain⟨q1,q2,q3⟩:=HQ.out;refine⟨?_,?_,?_⟩
         ·rw[ba_append,List.all_append,q1,Bool.true_and];simp[isDig_digN]
         ·rw[ByteArray.size_append,q2];rfl
         ·rw[ba_append,HXK.out,HSTEP.out.1,hdv.1,← q3];show valS (_++[digN m])=_;rw[valS_snoc,digN_toNat];omega
        have hqsz:qs.size=k:=HQ.out.2.1;have hex:=digs_extract hm10;have hadd:=fun w=>run_string_add_sum (P:=Tryz.prog) w qs (⟨#[digN m]⟩:ByteArray) (by rw[hqsz];show k+1≤_;omega);have HQS:=zh hqs;have HK1:=zh hk1
        clear hqs hk1 hdv hge hm hlen hqsz hc;go_wp2_with fail;refine(HC1.out _).mono ?_;rintro e w' ⟨rfl,rfl⟩;go_wp2_with fail;go_roundw
        case rel=>exact⟨k+1,_,by omega,by go_num,rfl,by rw[HK1.out],HQS.out,hbw⟩
        case measure=>simp[intOf];omega
     ·obtain rfl:k=s.size:=by omega
      have htr:=fun w=>rtrim_any qs w (by rw[HQ.out.2.1];omega) (by rw[HQ.out.2.1];exact hsz0) HQ.out.1;rw[HQ.out.2.2]at htr;have HTR:=zh htr;clear htr;go_wp2_with fail;refine(HTR.out _).mono ?_;rintro e w' ⟨rfl,rfl⟩;go_wp2_with fail
      go_ret3
      exact⟨rfl,hbw⟩
end Go.Proofs.YthgopcnagecbaaaGreatDoor
namespace Go.Proofs.YthgopcnagecbaaaGreatDoor
open Go.RowKit
def numOf:Value→Nat
 | .string s=>valS s.data.toList
 | _=>0
theorem numOf_dig(n:Nat):numOf (.string ⟨(dig n).toArray⟩)=n:=valS_dig n
theorem dig_ne48{n:Nat}(h:n≠0):¬dig n=[48]:=fun e=>h (by have:=valS_dig n;rw[e]at this;exact this.symm)
theorem dig_neB{n:Nat}(h:n≠0):(dig n == [48])=false:=beq_false_of_ne (dig_ne48 h)
theorem rgcd_any(s t:ByteArray)(w:World)(hs:s.size≤1000000)(ht:t.size≤1000000) :
  Calls Tryz.prog 49 #[.string s,.string t] w (GiveS w (gcdS s.data.toList t.data.toList)):=by
 have c1:=fun w=>rmay_any s w (by omega);have c2:=fun w=>rmay_any t w (by omega)
 cases h1:isNat s.data.toList with
 | false =>
  have hr:gcdS s.data.toList t.data.toList=[]:=by unfold gcdS;rw[h1];rfl
  rw[hr];simp only[h1]at c1;clear hr h1 c2;go_enter Tryz.func49,Tryz.ntmps49;go_wp2_with fail;refine(c1 _).mono ?_;rintro e w' ⟨rfl,rfl⟩;go_wp2_with fail;go_ret;exact⟨rfl,Below.refl _ _⟩
 | true=>cases h2:isNat t.data.toList with
  | false =>
   have hr:gcdS s.data.toList t.data.toList=[]:=by unfold gcdS;rw[h1,h2];rfl
   rw[hr];simp only[h1]at c1;simp only[h2]at c2;clear hr h1 h2;go_enter Tryz.func49,Tryz.ntmps49;go_wp2_with fail;refine(c1 _).mono ?_;rintro e w' ⟨rfl,rfl⟩;go_wp2_with fail;refine(c2 _).mono ?_;rintro e w' ⟨rfl,rfl⟩;go_wp2_with fail;go_ret;exact⟨rfl,Below.refl _ _⟩
  | true =>
   have hr:gcdS s.data.toList t.data.toList=dig (Nat.gcd (valS s.data.toList) (valS t.data.toList)):=by unfold gcdS;rw[h1,h2];rfl
   rw[hr];have hl1:=dig_len h1;have hl2:=dig_len h2;have hsd:=str_dig h1;have htd:=str_dig h2;simp only[h1]at c1;simp only[h2]at c2;generalize valS s.data.toList=M at *;generalize valS t.data.toList=N at *;have H1:Hid ((dig M).length≤1000000):=zh (by rw[hl1];exact hs);have H2:Hid ((dig N).length≤1000000):=zh (by rw[hl2];exact ht);clear hl1 hl2 h1 h2 hr hs ht;subst hsd;subst htd;go_enter Tryz.func49,Tryz.ntmps49;go_wp2_with fail;refine(c1 _).mono ?_;rintro e w' ⟨rfl,rfl⟩;go_wp2_with fail;refine(c2 _).mono ?_;rintro e w' ⟨rfl,rfl⟩;clear c1 c2;go_wp2_with fail
   go_loopw [0,1] (fun a b W=>∃m n:Nat,a=.string ⟨(dig m).toArray⟩∧b=.string ⟨(dig n).toArray⟩∧Hid ((dig m).length≤1000000∧(dig n).length≤1000000∧Nat.gcd m n=Nat.gcd M N)∧Below w.heap.size w W) (fun _ b _=>numOf b)
   case atStart=>exact⟨M,N,rfl,rfl,⟨H1.out,H2.out,rfl⟩,Below.refl _ _⟩
   case round =>
    obtain⟨m,n,rfl,rfl,HG,hbw⟩:=hrel;by_cases hn:n=0
    ·subst hn;have hm:m=Nat.gcd M N:=by rw[←HG.out.2.2,Nat.gcd_zero_right]
     have e2:dig 0=[48]:=by rw[dig_small (by decide)];rfl
     have HM:=zh hm;clear hm
     go_wp2
     go_ret;exact⟨by rw[HM.out];rfl,hbw⟩
    ·have e1:=dig_neB hn;have e2:=dig_ne48 hn;have hd:=fun w=>rdiv_any ⟨(dig m).toArray⟩ ⟨(dig n).toArray⟩ w (by rw[size_dig];exact HG.out.1) (by rw[size_dig];exact HG.out.2.1);have he:divS (⟨(dig m).toArray⟩:ByteArray).data.toList (⟨(dig n).toArray⟩:ByteArray).data.toList=(dig (m / n),dig (m % n),true):=by
      show divS (dig m) (dig n)=_;unfold divS;rw[isNat_dig,isNat_dig,valS_dig,valS_dig,decide_eq_true (Nat.pos_of_ne_zero hn)];rfl
     rw[he]at hd;have hlt:=Nat.mod_lt m (Nat.pos_of_ne_zero hn);have hl:=dig_len_le (Nat.le_of_lt hlt);have HD:=zh hd;have HLT:=zh hlt;have HL:=zh hl
     clear hd he hlt hl hn;go_wp2_with fail;refine(HD.out _).mono ?_;rintro e w' ⟨rfl,hb⟩;go_wp2_with fail;go_roundw
     case rel=>exact⟨n,m % n,rfl,rfl,⟨HG.out.2.1,Nat.le_trans HL.out HG.out.2.1,by rw[←HG.out.2.2,Nat.gcd_comm n,← Nat.gcd_rec,Nat.gcd_comm]⟩,hbw.trans (hb.mono hbw.size)⟩
     case measure=>show numOf (.string ⟨(dig (m % n)).toArray⟩)<numOf (.string ⟨(dig n).toArray⟩);rw[numOf_dig,numOf_dig];exact HLT.out
end Go.Proofs.YthgopcnagecbaaaGreatDoor
