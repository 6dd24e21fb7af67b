/- Own work. -/
import Derived.Lib.Repeat
import Derived.Lib.TrimByte
import Derived.Test.YtcebkcilkhebeaaGreatDoorAllRefD5
import Derived.Test.YtcebkcilkhebeaaGreatDoorDecNum2
set_option maxHeartbeats 1000000
set_option maxRecDepth 100000
namespace Go.Proofs.YtcebkcilkhebeaaGreatDoor
open Go.RowKit
structure GoodD(w:World):Prop where
 max:∃m,w.cell? ⟨2,0,none⟩=some (.int .i64 m)
 p0:w.cell? ⟨1,0,none⟩=some (.string ⟨#[53,51,54,56,55,48,57,49,50]⟩)
 p1:w.cell? ⟨1,1,none⟩=some (.int .i64 29)
 p2:w.cell? ⟨1,2,none⟩=some (.string ⟨#[50]⟩)
 p3:w.cell? ⟨1,3,none⟩=some (.int .i64 1)
 p4:w.cell? ⟨1,4,none⟩=some (.string ⟨#[50,52,52,49,52,48,54,50,53]⟩)
 p5:w.cell? ⟨1,5,none⟩=some (.int .i64 12)
 p6:w.cell? ⟨1,6,none⟩=some (.string ⟨#[53]⟩)
 p7:w.cell? ⟨1,7,none⟩=some (.int .i64 1)
 lm:2<w.heap.size
 lp:1<w.heap.size
theorem GoodD.below{w w':World}(h:GoodD w)(hb:Below w.heap.size w w'):GoodD w' :=
 ⟨h.max.imp fun _ e=>(hb.cell (p:=⟨2,0,none⟩) h.lm).trans e,
  (hb.cell (p:=⟨1,0,none⟩) h.lp).trans h.p0,(hb.cell (p:=⟨1,1,none⟩) h.lp).trans h.p1,
  (hb.cell (p:=⟨1,2,none⟩) h.lp).trans h.p2,(hb.cell (p:=⟨1,3,none⟩) h.lp).trans h.p3,
  (hb.cell (p:=⟨1,4,none⟩) h.lp).trans h.p4,(hb.cell (p:=⟨1,5,none⟩) h.lp).trans h.p5,
  (hb.cell (p:=⟨1,6,none⟩) h.lp).trans h.p6,(hb.cell (p:=⟨1,7,none⟩) h.lp).trans h.p7,
  Nat.lt_of_lt_of_le h.lm hb.size,Nat.lt_of_lt_of_le h.lp hb.size⟩
theorem all_head{l:List UInt8}{c:UInt8}{r:List UInt8}(h:l.dropWhile (·==48)=c::r):∃k,l=List.replicate k 48++c::r:=by
 induction l with
 | nil=>cases h
 | cons a l ih =>
  by_cases e:a=48
  ·rw[List.dropWhile_cons_of_pos (by simp[e])]at h;obtain⟨k,hk⟩:=ih h;exact⟨k+1,by rw[hk,e];rfl⟩
  ·rw[List.dropWhile_cons_of_neg (by simpa using e)]at h;exact⟨0,h⟩
theorem drop_nil{l:List UInt8}(h:l.dropWhile (·==48)=[]):l.all isDig=true:=by
 induction l with
 | nil=>rfl
 | cons a l ih =>
  by_cases e:a=48
  ·rw[List.dropWhile_cons_of_pos (by simp[e])]at h;rw[List.all_cons,ih h,e];rfl
  ·rw[List.dropWhile_cons_of_neg (by simpa using e)]at h
   cases h
theorem drop_is{l:List UInt8}(h:digs l=false)(h0:l≠[]):isNat (l.dropWhile (·==48))=false∧l.dropWhile (·==48)≠[]:=by
 have hn:l.dropWhile (·==48)≠[]:=fun e=>by
  rw[digs_of (drop_nil e) h0]at h;cases h
 refine⟨?_,hn⟩
 cases e:isNat (l.dropWhile (·==48)) with
 | false=>rfl
 | true =>
  exfalso;obtain⟨c,r,hc⟩:=List.exists_cons_of_ne_nil hn;obtain⟨k,hk⟩:=all_head hc;have ha:=isNat_all e;rw[hc]at ha;have:l.all isDig=true:=by
   rw[hk,List.all_append,ha,Bool.and_true,List.all_eq_true];intro x hx;rw[(List.mem_replicate.1 hx).2];decide
  rw[digs_of this h0]at h;cases h
theorem zeros_nil{l:List UInt8}(ha:l.all isDig=true)(hv:valS l=0):l.dropWhile (·==48)=[]:=by
 cases e:l.dropWhile (·==48) with
 | nil=>rfl
 | cons c r =>
  exfalso;have h1:=valS_dropZeros l;have h2:=head_dropZeros l;have h3:=all_dropZeros ha;rw[e]at h1 h2 h3;rw[valS_cons]at h1;rw[List.all_cons,Bool.and_eq_true]at h3;have h4:48≤c.toNat:=by have:=h3.1;unfold isDig at this;rw[Bool.and_eq_true,decide_eq_true_eq]at this;exact this.1
  have h5:c.toNat≠48:=fun k=>h2 (by rw[show c=48 from UInt8.toNat_inj.1 k];rfl);have h6:0<(c.toNat-48)*10 ^ r.length:=Nat.mul_pos (by omega) (Nat.pow_pos (by decide));omega
theorem natural_any(s:ByteArray)(w:World)(hs:s.size≤1000000) :
  Calls Tryz.prog 116 #[.string s] w fun e w'=>e=.returned (.string ⟨(natD s.data.toList).toArray⟩)∧w=w':=by
 have c0:∀w,Calls Tryz.prog 133 #[.string s,.string ⟨#[48]⟩] w fun e w'=>e=.returned (.string ⟨(s.data.toList.dropWhile (·==48)).toArray⟩)∧w'=w:=fun w=>Tryz.strings_TrimLeft_one s 48 (by decide) w;have hsz:s.data.toList.length=s.size:=rfl;by_cases h0:s.data.toList=[]
 ·have e0:=eqB_true h0;have hr:natD s.data.toList=[]:=by rw[h0];rfl
  rw[hr];clear c0 h0 hr hsz;go_enter Tryz.func116,Tryz.ntmps116;go_wp2_with fail;go_ret;exact⟨rfl,rfl⟩
 ·have e0:=eqB_false h0
  cases hd:digs s.data.toList with
  | false =>
   obtain⟨hn,hne⟩:=drop_is hd h0;rw[natD_no hd];have c1:∀w,Calls Tryz.prog 79 #[.string ⟨(s.data.toList.dropWhile (·==48)).toArray⟩] w fun e w'=>e=.returned (.bool false)∧w=w':=fun w=>hn▸may_any ⟨(s.data.toList.dropWhile (·==48)).toArray⟩ w (by rw[size_of];have:=(List.dropWhile_suffix (·==48) (l:=s.data.toList)).length_le;omega);have e1:(s.data.toList.dropWhile (·==48) == [])=false:=beq_false_of_ne hne;generalize s.data.toList.dropWhile (·==48)=m at *;have C0:=zh c0;have C1:=zh c1
   clear c0 c1 hn hne hd h0 hsz;go_enter Tryz.func116,Tryz.ntmps116;go_wp2_with fail;refine(C0.out _).mono ?_;rintro e w' ⟨rfl,rfl⟩;go_wp2_with fail;refine(C1.out _).mono ?_;rintro e w' ⟨rfl,rfl⟩;go_wp2_with fail;go_ret;exact⟨rfl,rfl⟩
  | true =>
   rw[natD_yes hd];obtain⟨ha,_⟩:=digs_parts hd;by_cases hv:valS s.data.toList=0
   ·rw[zeros_nil ha hv]at c0;rw[hv,dig_nil];have C0:=zh c0;clear c0 hv hd ha h0 hsz;go_enter Tryz.func116,Tryz.ntmps116;go_wp2_with fail;refine(C0.out _).mono ?_;rintro e w' ⟨rfl,rfl⟩;go_wp2_with fail;go_ret;exact⟨rfl,rfl⟩
   ·rw[dropZeros_dig ha (by omega)]at c0;have hlen:(dig (valS s.data.toList)).length≤s.data.toList.length:=by have h:=natD_len (l:=s.data.toList);rwa[natD_yes hd]at h
    have c1:∀w,Calls Tryz.prog 79 #[.string ⟨(dig (valS s.data.toList)).toArray⟩] w fun e w'=>e=.returned (.bool true)∧w=w':=fun w=>by
     have c:=may_any ⟨(dig (valS s.data.toList)).toArray⟩ w (by rw[size_of];omega);have e:isNat (⟨(dig (valS s.data.toList)).toArray⟩:ByteArray).data.toList=true:=isNat_dig _;rw[e]at c;exact c
    have e1:(dig (valS s.data.toList) == [])=false:=beq_false_of_ne (dig_ne _);generalize dig (valS s.data.toList)=m at *;have C0:=zh c0;have C1:=zh c1
    clear c0 c1 hd h0 hsz hlen ha hv;go_enter Tryz.func116,Tryz.ntmps116;go_wp2_with fail;refine(C0.out _).mono ?_;rintro e w' ⟨rfl,rfl⟩;go_wp2_with fail;refine(C1.out _).mono ?_;rintro e w' ⟨rfl,rfl⟩;go_wp2_with fail;go_ret;exact⟨rfl,rfl⟩
theorem repeat_any(k:Nat)(w:World)(hk:k≤4000000) :
  Calls Tryz.prog 63 #[.string ⟨#[48]⟩,.int .i64 (k:Int)] w (GiveS w (List.replicate k 48)):=by
 have c:=Tryz.strings_Repeat ⟨#[48]⟩ k w (by omega) (by show 1*k≤_;omega);have e:Lib.repeatL (⟨#[48]⟩:ByteArray).data.toList k=List.replicate k 48:=by
  have h:=Lib.repeatL_replicate 48 1 k;rw[Nat.mul_one]at h;exact h
 rw[e]at c;exact c
theorem pad_text2(k:Nat)(l:List UInt8)(S:ByteArray)(hS:S.data.toList=l):((⟨(List.replicate (k+1-l.length) 48).toArray⟩:ByteArray)++S).data.toList=padD (k+1) l:=by
 rw[ba_append,hS];rfl
theorem pt_text2{S:ByteArray}{k M:Nat}{l:List UInt8}(hs:S.data.toList=l)(hm:S.size=M+k) :
  S.extract 0 M++(⟨#[46]⟩:ByteArray)++S.extract M S.size=⟨(ptD k l).toArray⟩:=by
 have h:=pt_text (S:=S) (sg:=⟨#[]⟩) (b:=false) hs hm rfl;have e:(⟨#[]⟩:ByteArray)++S.extract 0 M=S.extract 0 M:=bytes_eq (by rw[ba_append];rfl);rw[e]at h;exact h
theorem pointed_any(s:ByteArray)(k:Nat)(w:World)(hs:s.size≤1000000)(hk:k≤1000000) :
  Calls Tryz.prog 64 #[.string s,.int .i64 (k:Int)] w (GiveS w (bodyD k s.data.toList)):=by
 by_cases h0:k=0
 ·subst h0;have hr:bodyD 0 s.data.toList=s.data.toList:=rfl;rw[hr];go_enter Tryz.func64,Tryz.ntmps64;go_wp2_with fail;go_ret;exact⟨ret_str (same_text s),Below.refl _ _⟩
 ·have hr:bodyD k s.data.toList=ptD k (padD (k+1) s.data.toList):=by unfold bodyD;rw[if_neg h0]
  rw[hr];have hk':¬(k:Int)=0:=by omega
  have hmx:max (0:Int) ((k:Int)+1-(s.size:Int))=((k+1-s.size:Nat):Int):=by omega
  have c0:∀w,Calls Tryz.prog 63 #[.string ⟨#[48]⟩,.int .i64 ((k+1-s.size:Nat):Int)] w fun e w'=>e=.returned (.string ⟨(List.replicate (k+1-s.size) 48).toArray⟩)∧Below w.heap.size w w':=fun w=>repeat_any _ w (by omega);have hp:((⟨(List.replicate (k+1-s.size) 48).toArray⟩:ByteArray)++s).data.toList=padD (k+1) s.data.toList:=pad_text2 k s.data.toList s rfl;have hz:(⟨(List.replicate (k+1-s.size) 48).toArray⟩:ByteArray).size=k+1-s.size:=by rw[size_of,List.length_replicate]
  generalize (⟨(List.replicate (k+1-s.size) 48).toArray⟩:ByteArray)=Z at *;obtain⟨M,hm⟩:∃M,k+1-s.size+s.size=M+k:=⟨k+1-s.size+s.size-k,by omega⟩;have hzs:(Z++s).size=M+k:=by rw[ByteArray.size_append,hz,hm]
  have hr2:=pt_text2 (k:=k) hp hzs;have hMb:M≤2000000:=by omega
  have hmi:(Z.size:Int)+(s.size:Int)-(k:Int)=(M:Int):=by omega
  have hx2:¬9223372036854775807<Z.size+s.size:=by omega
  have hx3:Z.size+s.size=M+k:=by omega
  have C0:=zh c0;have HR:=zh hr2
  clear c0 hr2 hp hr h0 hz hm;go_enter Tryz.func64,Tryz.ntmps64;go_wp2_with fail;refine(C0.out _).mono ?_;rintro e w1 ⟨rfl,b⟩;clear hmx;go_wp2_with fail;clear hx3 hmi hx2;generalize Z++s=T at *
  go_quiet (fail)
  go_wp2_with fail;go_ret;exact⟨ret_str (by have:=HR.out;rw[hzs]at this;exact this),Below.drewN (by with_reducible assumption) _⟩
end Go.Proofs.YtcebkcilkhebeaaGreatDoor
