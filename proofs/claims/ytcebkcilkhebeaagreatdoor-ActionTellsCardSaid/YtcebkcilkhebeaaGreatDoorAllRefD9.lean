/- Own work. -/
import Derived.Test.YtcebkcilkhebeaaGreatDoorAllRefD8
namespace Go.Proofs.YtcebkcilkhebeaaGreatDoor
open Go.RowKit
theorem rdig_is(s:ByteArray){b:Bool}(hs:s.size≤4000)(h:digs s.data.toList=b):Hid (∀w,Calls Tryz.prog 50 #[.string s] w fun e w'=>e=.returned (.bool b)∧w=w'):=zh fun w=>h▸rddigits_any s w (by omega)
theorem rpl_is(s:ByteArray){l:List UInt8}(hs:s.size≤4000)(hl:s.data.toList=l)(h:digs l=true):Hid (∀w,Calls Tryz.prog 52 #[.string s] w fun e w'=>e=.returned (.string ⟨(dig (valS l)).toArray⟩)∧w=w'):=zh fun w=>by
 subst hl;obtain⟨h1,h2⟩:=digs_parts h;have hp:0<s.size:=by rw[←size_toList];exact List.length_pos_iff.2 h2
 exact rdplain_any s w (by omega) hp h1
theorem rfd_is(s:ByteArray)(c:UInt8){i:Int}(hs:s.size≤4000)(h:fndS s.data.toList c=i):Hid (∀w,Calls Tryz.prog 49 #[.string s,.int .u8 (c.toNat:Int)] w fun e w'=>e=.returned (.int .i64 i)∧w=w'):=zh fun w=>h▸rdfind_any s c w (by omega)
theorem rng_is(n:Nat)(h:(dig n).length≤4000):Hid (∀w,Calls Tryz.prog 53 #[.string ⟨(dig n).toArray⟩] w fun e w'=>e=.returned (.string ⟨(ngD true (dig n)).toArray⟩)∧w=w'):=zh fun w=>rwneg_any ⟨(dig n).toArray⟩ w (by rw[size_of];omega)
theorem rmk_is(b:Bool)(n:Nat){d:Nat}(hd:d≠0)(h1:(dig n).length≤4000)(h2:(dig d).length≤4000):Hid (∀w,Calls Tryz.prog 42 #[.string ⟨(ngD b (dig n)).toArray⟩,.string ⟨(dig d).toArray⟩] w (GiveRB w ((rdN (sq b (mkRat (n:Int) d)),rdD (sq b (mkRat (n:Int) d))),true))):=zh fun w=>by
 have hl:=negW_len1 b (dig n);have c:=rqmake_any ⟨(ngD b (dig n)).toArray⟩ ⟨(dig d).toArray⟩ w (by rw[size_of];omega) (by rw[size_of];omega);have e:makeR (⟨(ngD b (dig n)).toArray⟩:ByteArray).data.toList (⟨(dig d).toArray⟩:ByteArray).data.toList=(rd (sq b (mkRat (n:Int) d)),true):=make_dd b n hd;rw[e]at c;exact c
theorem rmk_no(b:Bool)(n:Nat)(h1:(dig n).length≤4000):Hid (∀w,Calls Tryz.prog 42 #[.string ⟨(ngD b (dig n)).toArray⟩,.string ⟨(dig 0).toArray⟩] w (GiveRB w (([],[]),false))):=zh fun w=>by
 have hl:=negW_len1 b (dig n);have c:=rqmake_any ⟨(ngD b (dig n)).toArray⟩ ⟨(dig 0).toArray⟩ w (by rw[size_of];omega) (by rw[size_of,dig_small (by decide)];exact(by decide:1≤90000));have e:makeR (⟨(ngD b (dig n)).toArray⟩:ByteArray).data.toList (⟨(dig 0).toArray⟩:ByteArray).data.toList=(([],[]),false):=make_no0 _;rw[e]at c;exact c
theorem parS_is{l t:List UInt8}{b:Bool}(h:l.length≤1000)(hu:unD l=(b,t)):parS l=match partsD t with
  | some p=>(rd (sq b (mkRat (p.1:Int) p.2)),0)
  | none=>(([],[]),40):=by
 unfold parS parU;rw[if_neg (by omega),hu];show (match (partsD t).map (fun p=>sq b (mkRat (p.1:Int) p.2)) with|some q=>(rd q,(0:Int))|none=>(([],[]),40))=_
 cases partsD t<;>rfl
theorem pd_over{t:List UInt8}{i:Nat}(hi:t.idxOf 47=i)(h:i<t.length):partsD t=if digs (t.take i)&&(digs (t.drop (i+1))&&!(valS (t.drop (i+1))==0)) then some (valS (t.take i),valS (t.drop (i+1))) else none:=by
 unfold partsD;rw[hi,if_pos h]
theorem pd_point{t:List UInt8}{k:Nat}(h1:¬t.idxOf 47<t.length)(hk:t.idxOf 46=k)(h:k<t.length):partsD t=if digs (t.take k)&&digs (t.drop (k+1)) then some (valS (t.take k++t.drop (k+1)),10 ^ (t.length-k-1)) else none:=by
 unfold partsD;rw[if_neg h1,hk,if_pos h]
theorem pd_none{t:List UInt8}(h1:¬t.idxOf 47<t.length)(h2:¬t.idxOf 46<t.length):partsD t=if digs t then some (valS t,1) else none:=by
 unfold partsD;rw[if_neg h1,if_neg h2]
theorem fnd_is{t:List UInt8}{c:UInt8}{i:Nat}(hi:t.idxOf c=i)(h:i<t.length):fndS t c=(i:Int):=by unfold fndS;rw[hi,if_pos h]
theorem fnd_none{t:List UInt8}{c:UInt8}(h:¬t.idxOf c<t.length):fndS t c=-1:=by unfold fndS;rw[if_neg h]
theorem ext_take(s:ByteArray)(i:Nat):(s.extract 0 i).data.toList=s.data.toList.take i:=by rw[Lib.extract_data,List.drop_zero,Nat.sub_zero]
theorem ext_drop(s:ByteArray)(i:Nat):(s.extract i s.size).data.toList=s.data.toList.drop i:=by
 rw[Lib.extract_data,List.take_of_length_le];rw[List.length_drop,size_toList];exact Nat.le_refl _
theorem ext_size{s:ByteArray}{l:List UInt8}(h:s.data.toList=l):s.size=l.length:=by rw[←h];rfl
theorem dig_val_len{l:List UInt8}(h:digs l=true):(dig (valS l)).length≤l.length:=by have:=natD_len (l:=l);rwa[natD_yes h]at this
theorem parS_nil:parS []=(([],[]),40):=parS_none rfl
theorem rdparse_p(s:ByteArray)(w:World)(hs:s.size≤1000)(h0:0<s.size)(hc:¬(s[0].toNat:Int)=45) :
  Calls Tryz.prog 27 #[.string s] w (GiveRE w (parS s.data.toList)):=by
 have hu:unD s.data.toList=(false,s.data.toList):=by
  unfold unD;rw[head_idx h0,if_neg (fun e=>hc (by have:=Option.some.inj e;rw[this];rfl))]
 have hs':s.size≤1000:=hs;rw[parS_is (by rw[size_toList];exact hs) hu];by_cases h1:s.data.toList.idxOf 47<s.data.toList.length
 ·obtain⟨i,hi⟩:∃i,s.data.toList.idxOf 47=i:=⟨_,rfl⟩;rw[hi]at h1;have hi':i<s.size:=by rw[←size_toList];exact h1
  have f1:=rfd_is s 47 (by omega) (fnd_is hi h1);have f2:=rfd_is s 46 (by omega) rfl;have n1:=ext_take s i;have n2:=ext_drop s (i+1);have z1:(s.extract 0 i).size≤1000:=by rw[ext_size n1,List.length_take];omega
  have z2:(s.extract (i+1) s.size).size≤1000:=by rw[ext_size n2,List.length_drop,size_toList];omega
  rw[pd_over hi h1]
  cases ha:digs (s.data.toList.take i) with
  | false=>exact rdparse_p_over_nu s w hs h0 hc hi' rfl rfl f1 f2 (rdig_is _ (by omega) (by rw[n1];exact ha))
  | true =>
   have c3:=rdig_is (s.extract 0 i) (b:=true) (by omega) (by rw[n1];exact ha);have c5:=rpl_is (s.extract 0 i) (by omega) n1 ha;have l1:=dig_val_len ha;rw[←ext_size n1]at l1
   cases hb:digs (s.data.toList.drop (i+1)) with
   | false=>exact rdparse_p_over_de s w hs h0 hc hi' rfl rfl f1 f2 c3 (rdig_is _ (by omega) (by rw[n2];exact hb))
   | true =>
    have c4:=rdig_is (s.extract (i+1) s.size) (b:=true) (by omega) (by rw[n2];exact hb);have c6:=rpl_is (s.extract (i+1) s.size) (by omega) n2 hb;have l2:=dig_val_len hb;rw[←ext_size n2]at l2;by_cases h00:valS (s.data.toList.drop (i+1))=0
    ·rw[show (valS (s.data.toList.drop (i+1))==0)=true by rw[h00];rfl];rw[h00]at c6;exact rdparse_p_over_no s w hs h0 hc hi' rfl rfl f1 f2 c3 c4 c5 c6 (rmk_no false _ (by omega))
    ·rw[beq_false_of_ne h00];exact rdparse_p_over_yes s w hs h0 hc hi' rfl rfl f1 f2 c3 c4 c5 c6 (rmk_is false _ h00 (by omega) (by omega))
 ·have f1:=rfd_is s 47 (by omega) (fnd_none h1);by_cases h2:s.data.toList.idxOf 46<s.data.toList.length
  ·obtain⟨k,hk⟩:∃k,s.data.toList.idxOf 46=k:=⟨_,rfl⟩;rw[hk]at h2;have hk':k<s.size:=by rw[←size_toList];exact h2
   have f2:=rfd_is s 46 (by omega) (fnd_is hk h2);have n1:=ext_take s k;have n2:=ext_drop s (k+1);have z1:(s.extract 0 k).size=k:=by rw[ext_size n1,List.length_take];omega
   have z2:(s.extract (k+1) s.size).size=s.size-(k+1):=by rw[ext_size n2,List.length_drop,size_toList]
   rw[pd_point h1 hk h2]
   cases ha:digs (s.data.toList.take k) with
   | false=>exact rdparse_p_point_lo s w hs h0 hc hk' rfl f1 f2 (rdig_is _ (by omega) (by rw[n1];exact ha))
   | true =>
    have c3:=rdig_is (s.extract 0 k) (b:=true) (by omega) (by rw[n1];exact ha)
    cases hb:digs (s.data.toList.drop (k+1)) with
    | false=>exact rdparse_p_point_hi s w hs h0 hc hk' rfl rfl f1 f2 c3 (rdig_is _ (by omega) (by rw[n2];exact hb))
    | true =>
     have c4:=rdig_is (s.extract (k+1) s.size) (b:=true) (by omega) (by rw[n2];exact hb);obtain⟨m,hm⟩:∃m,s.data.toList.length-k-1=m:=⟨_,rfl⟩;have hm':(s.size:Int)-(k:Int)-1=(m:Int):=by rw[size_toList]at hm;omega
     have hm2:m≤1000:=by rw[size_toList]at hm;omega
     have c5:Hid (∀w,Calls Tryz.prog 51 #[.int .i64 ((s.size:Int)-(k:Int)-1)] w fun e w'=>e=.returned (.string ⟨(zerS (m:Int)).toArray⟩)∧w=w'):=zh fun w=>by
      rw[hm'];exact rdzeros_any m w (by omega) (by omega)
     have n3:(s.extract 0 k++s.extract (k+1) s.size).data.toList=s.data.toList.take k++s.data.toList.drop (k+1):=by rw[ba_append,n1,n2]
     have hd3:digs (s.data.toList.take k++s.data.toList.drop (k+1))=true:=by
      obtain⟨a1,a2⟩:=digs_parts ha;obtain⟨b1,b2⟩:=digs_parts hb;exact digs_of (by rw[List.all_append,a1,b1];rfl) (by simp[b2])
     have z3:(s.extract 0 k++s.extract (k+1) s.size).size≤2000:=by rw[ext_size n3,List.length_append,List.length_take,List.length_drop,size_toList];omega
     have c6:=rdig_is (s.extract 0 k++s.extract (k+1) s.size) (b:=true) (by omega) (by rw[n3];exact hd3);have n4:=ten_text m;have z4:((⟨#[49]⟩:ByteArray)++⟨(zerS (m:Int)).toArray⟩).size=m+1:=by rw[ext_size n4,dig_ten,List.length_cons,List.length_replicate]
     have c7:=rdig_is ((⟨#[49]⟩:ByteArray)++⟨(zerS (m:Int)).toArray⟩) (b:=true) (by omega) (by rw[n4];exact digs_dig _);have c8:=rpl_is (s.extract 0 k++s.extract (k+1) s.size) (by omega) n3 hd3;have c9:=rpl_is ((⟨#[49]⟩:ByteArray)++⟨(zerS (m:Int)).toArray⟩) (by omega) n4 (digs_dig _);rw[valS_dig]at c9;have l1:=dig_val_len hd3;rw[←ext_size n3]at l1;have l2:(dig (10 ^ m)).length≤4000:=by rw[dig_ten,List.length_cons,List.length_replicate];omega
     rw[hm];exact rdparse_p_point_yes s w hs h0 hc hk' rfl rfl (by omega) (by rw[zer_size];omega) f1 f2 c3 c4 c5 c6 c7 c8 c9 (rmk_is false _ (ten_ne m) (by omega) l2)
  ·have f2:=rfd_is s 46 (by omega) (fnd_none h2);rw[pd_none h1 h2]
   cases ha:digs s.data.toList with
   | false=>exact rdparse_p_none_nu s w hs h0 hc f1 f2 (rdig_is s (by omega) ha)
   | true =>
    have l1:=dig_val_len ha;rw[size_toList]at l1;have c4:=rdig_is ⟨#[49]⟩ (b:=true) (by decide) (by decide);have c6:=rpl_is ⟨#[49]⟩ (l:=dig 1) (by decide) (by rw[dig_one]) (digs_dig _);rw[valS_dig]at c6;exact rdparse_p_none_yes s w hs h0 hc f1 f2 (rdig_is s (by omega) ha) c4 (rpl_is s (by omega) rfl ha) c6 (rmk_is false _ (by decide) (by omega) (by rw[dig_one];decide))
theorem rdparse_m(s:ByteArray)(w:World)(hs:s.size≤1000)(h0:0<s.size)(hc:(s[0].toNat:Int)=45) :
  Calls Tryz.prog 27 #[.string s] w (GiveRE w (parS s.data.toList)):=by
 obtain⟨T,hT⟩:∃T,s.extract 1 s.size=T:=⟨_,rfl⟩;have ht:T.data.toList=s.data.toList.drop 1:=by rw[←hT,ext_drop]
 have hu:unD s.data.toList=(true,T.data.toList):=by
  unfold unD;rw[head_idx h0,if_pos (congrArg some (UInt8.toNat_inj.1 (by have:(45:UInt8).toNat=45:=rfl;omega))),ht,List.drop_one]
 have hs':T.size≤1000:=by rw[←size_toList,ht,List.length_drop,size_toList];omega
 rw[parS_is (by rw[size_toList];exact hs) hu];by_cases h1:T.data.toList.idxOf 47<T.data.toList.length
 ·obtain⟨i,hi⟩:∃i,T.data.toList.idxOf 47=i:=⟨_,rfl⟩;rw[hi]at h1;have hi':i<T.size:=by rw[←size_toList];exact h1
  have f1:=rfd_is T 47 (by omega) (fnd_is hi h1);have f2:=rfd_is T 46 (by omega) rfl;have n1:=ext_take T i;have n2:=ext_drop T (i+1);have z1:(T.extract 0 i).size≤1000:=by rw[ext_size n1,List.length_take];omega
  have z2:(T.extract (i+1) T.size).size≤1000:=by rw[ext_size n2,List.length_drop,size_toList];omega
  rw[pd_over hi h1]
  cases ha:digs (T.data.toList.take i) with
  | false=>exact rdparse_m_over_nu s w hs h0 hc hT hs' hi' rfl rfl f1 f2 (rdig_is _ (by omega) (by rw[n1];exact ha))
  | true =>
   have c3:=rdig_is (T.extract 0 i) (b:=true) (by omega) (by rw[n1];exact ha);have c5:=rpl_is (T.extract 0 i) (by omega) n1 ha;have l1:=dig_val_len ha;rw[←ext_size n1]at l1
   cases hb:digs (T.data.toList.drop (i+1)) with
   | false=>exact rdparse_m_over_de s w hs h0 hc hT hs' hi' rfl rfl f1 f2 c3 (rdig_is _ (by omega) (by rw[n2];exact hb))
   | true =>
    have c4:=rdig_is (T.extract (i+1) T.size) (b:=true) (by omega) (by rw[n2];exact hb);have c6:=rpl_is (T.extract (i+1) T.size) (by omega) n2 hb;have l2:=dig_val_len hb;rw[←ext_size n2]at l2;by_cases h00:valS (T.data.toList.drop (i+1))=0
    ·rw[show (valS (T.data.toList.drop (i+1))==0)=true by rw[h00];rfl];rw[h00]at c6;exact rdparse_m_over_no s w hs h0 hc hT hs' hi' rfl rfl f1 f2 c3 c4 c5 (rng_is _ (by omega)) c6 (rmk_no true _ (by omega))
    ·rw[beq_false_of_ne h00];exact rdparse_m_over_yes s w hs h0 hc hT hs' hi' rfl rfl f1 f2 c3 c4 c5 (rng_is _ (by omega)) c6 (rmk_is true _ h00 (by omega) (by omega))
 ·have f1:=rfd_is T 47 (by omega) (fnd_none h1);by_cases h2:T.data.toList.idxOf 46<T.data.toList.length
  ·obtain⟨k,hk⟩:∃k,T.data.toList.idxOf 46=k:=⟨_,rfl⟩;rw[hk]at h2;have hk':k<T.size:=by rw[←size_toList];exact h2
   have f2:=rfd_is T 46 (by omega) (fnd_is hk h2);have n1:=ext_take T k;have n2:=ext_drop T (k+1);have z1:(T.extract 0 k).size=k:=by rw[ext_size n1,List.length_take];omega
   have z2:(T.extract (k+1) T.size).size=T.size-(k+1):=by rw[ext_size n2,List.length_drop,size_toList]
   rw[pd_point h1 hk h2]
   cases ha:digs (T.data.toList.take k) with
   | false=>exact rdparse_m_point_lo s w hs h0 hc hT hk' rfl f1 f2 (rdig_is _ (by omega) (by rw[n1];exact ha))
   | true =>
    have c3:=rdig_is (T.extract 0 k) (b:=true) (by omega) (by rw[n1];exact ha)
    cases hb:digs (T.data.toList.drop (k+1)) with
    | false=>exact rdparse_m_point_hi s w hs h0 hc hT hs' hk' rfl rfl f1 f2 c3 (rdig_is _ (by omega) (by rw[n2];exact hb))
    | true =>
     have c4:=rdig_is (T.extract (k+1) T.size) (b:=true) (by omega) (by rw[n2];exact hb);obtain⟨m,hm⟩:∃m,T.data.toList.length-k-1=m:=⟨_,rfl⟩;have hm':(T.size:Int)-(k:Int)-1=(m:Int):=by rw[size_toList]at hm;omega
     have hm2:m≤1000:=by rw[size_toList]at hm;omega
     have c5:Hid (∀w,Calls Tryz.prog 51 #[.int .i64 ((T.size:Int)-(k:Int)-1)] w fun e w'=>e=.returned (.string ⟨(zerS (m:Int)).toArray⟩)∧w=w'):=zh fun w=>by
      rw[hm'];exact rdzeros_any m w (by omega) (by omega)
     have n3:(T.extract 0 k++T.extract (k+1) T.size).data.toList=T.data.toList.take k++T.data.toList.drop (k+1):=by rw[ba_append,n1,n2]
     have hd3:digs (T.data.toList.take k++T.data.toList.drop (k+1))=true:=by
      obtain⟨a1,a2⟩:=digs_parts ha;obtain⟨b1,b2⟩:=digs_parts hb;exact digs_of (by rw[List.all_append,a1,b1];rfl) (by simp[b2])
     have z3:(T.extract 0 k++T.extract (k+1) T.size).size≤2000:=by rw[ext_size n3,List.length_append,List.length_take,List.length_drop,size_toList];omega
     have c6:=rdig_is (T.extract 0 k++T.extract (k+1) T.size) (b:=true) (by omega) (by rw[n3];exact hd3);have n4:=ten_text m;have z4:((⟨#[49]⟩:ByteArray)++⟨(zerS (m:Int)).toArray⟩).size=m+1:=by rw[ext_size n4,dig_ten,List.length_cons,List.length_replicate]
     have c7:=rdig_is ((⟨#[49]⟩:ByteArray)++⟨(zerS (m:Int)).toArray⟩) (b:=true) (by omega) (by rw[n4];exact digs_dig _);have c8:=rpl_is (T.extract 0 k++T.extract (k+1) T.size) (by omega) n3 hd3;have c9:=rpl_is ((⟨#[49]⟩:ByteArray)++⟨(zerS (m:Int)).toArray⟩) (by omega) n4 (digs_dig _);rw[valS_dig]at c9;have l1:=dig_val_len hd3;rw[←ext_size n3]at l1;have l2:(dig (10 ^ m)).length≤4000:=by rw[dig_ten,List.length_cons,List.length_replicate];omega
     rw[hm];exact rdparse_m_point_yes s w hs h0 hc hT hs' hk' rfl rfl (by omega) (by rw[zer_size];omega) f1 f2 c3 c4 c5 c6 c7 c8 (rng_is _ (by omega)) c9 (rmk_is true _ (ten_ne m) (by omega) l2)
  ·have f2:=rfd_is T 46 (by omega) (fnd_none h2);rw[pd_none h1 h2]
   cases ha:digs T.data.toList with
   | false=>exact rdparse_m_none_nu s w hs h0 hc hT f1 f2 (rdig_is T (by omega) ha)
   | true =>
    have l1:=dig_val_len ha;rw[size_toList]at l1;have c4:=rdig_is ⟨#[49]⟩ (b:=true) (by decide) (by decide);have c6:=rpl_is ⟨#[49]⟩ (l:=dig 1) (by decide) (by rw[dig_one]) (digs_dig _);rw[valS_dig]at c6;exact rdparse_m_none_yes s w hs h0 hc hT f1 f2 (rdig_is T (by omega) ha) c4 (rpl_is T (by omega) rfl ha) (rng_is _ (by omega)) c6 (rmk_is true _ (by decide) (by omega) (by rw[dig_one];decide))
theorem rdparse_any(s:ByteArray)(w:World)(hs:s.size≤1000000) :
  Calls Tryz.prog 27 #[.string s] w (GiveRE w (parS s.data.toList)):=by
 by_cases h:1000<s.size
 ·rw[parS_long (by rw[size_toList];exact h)];exact rdparse_long s w hs h
 ·rcases Nat.eq_zero_or_pos s.size with h0|h0
  ·have e:s.data.toList=[]:=List.length_eq_zero_iff.1 (by rw[size_toList];exact h0);have f1:=rfd_is s 47 (i:=-1) (by omega) (by rw[e];decide);have f2:=rfd_is s 46 (i:=-1) (by omega) (by rw[e];decide);have f3:=rdig_is s (b:=false) (by omega) (by rw[e];rfl);rw[e,parS_nil];exact rdparse_e_none_nu s w h0 f1 f2 f3
  ·by_cases hc:(s[0].toNat:Int)=45
   ·exact rdparse_m s w (by omega) h0 hc
   ·exact rdparse_p s w (by omega) h0 hc
end Go.Proofs.YtcebkcilkhebeaaGreatDoor
