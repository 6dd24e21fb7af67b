/- Own work. -/
import Derived.Test.YtmllklfjngapiaaGreatDoorAllDec2M
set_option maxHeartbeats 2000000
set_option maxRecDepth 100000
namespace Go.Proofs.YtmllklfjngapiaaGreatDoor
open Go.RowKit
theorem places_any(n d:ByteArray)(w:World)(hn:n.size≤100000)(hd:d.size≤100000)(hg:GoodD w) :
  Calls Tryz.prog 154 #[.agg #[.string n,.string d]] w (GiveIB w (plS (n.data.toList,d.data.toList))):=by
 have cm:=fun w=>qmay_any n d w hn hd
 cases h:isR (n.data.toList,d.data.toList) with
 | false =>
  rw[h]at cm;rw[plS_no h];clear h hn hd hg;have CM:=zh cm;clear cm;go_enter Tryz.func154,Tryz.ntmps154;go_wp2_with fail;obtain⟨W,hW,BW,sW,k0,k1⟩:=box1 w (.string n) (.string d) 37;rw[hW];clear hW;have b0:=Below.refl W.heap.size W;go_wp2_with fail;refine(CM.out _).mono ?_;rintro e w1 ⟨rfl,b⟩;have b1:=Below.more b0 b;clear b;go_wp2_with fail
  go_ret2
  exact⟨rfl,Below.more BW b1⟩
 | true =>
  rw[h]at cm;rw[plS_yes h];obtain⟨_,hN,hz,_⟩:=isR_parts h;have hN:isNat d.data.toList=true:=hN;have hz:valS d.data.toList≠0:=hz;show Calls _ _ _ _ (GiveIB w (plR (plc (valS d.data.toList))));have hl:=dig_len hN;have hsd:=str_dig hN;generalize valS d.data.toList=D at *;subst hsd;have cp:=fun w hg=>places0_any D w (by omega) (by rw[hl];exact hd) hg;have CM:=zh cm;have CP:=zh cp;have HG:=zh hg
  clear cm cp hg hl h hN hz hn hd;go_enter Tryz.func154,Tryz.ntmps154;go_wp2_with fail;obtain⟨W,hW,BW,sW,k0,k1⟩:=box1 w (.string n) (.string ⟨(dig D).toArray⟩) 37;rw[hW];clear hW;have b0:=Below.refl W.heap.size W;go_wp2_with fail;refine(CM.out _).mono ?_;rintro e w1 ⟨rfl,b⟩;have b1:=Below.more b0 b;clear b;go_wp2_with fail;refine(CP.out _ (HG.out.below (Below.more BW b1))).mono ?_;rintro e w2 ⟨rfl,b⟩;have b2:=Below.more b1 b;clear b;go_wp2_with fail
  go_ret2
  exact⟨rfl,Below.more BW b2⟩
theorem index_one(l:List UInt8)(c:UInt8):Lib.index l [c]=fndS l c:=by
 induction l with
 | nil=>rfl
 | cons b l ih =>
  unfold Lib.index;by_cases e:c=b
  ·subst e;rw[if_pos (by simp)];unfold fndS;rw[List.idxOf_cons_self,if_pos (by simp)];rfl
  ·have h1:([c]:List UInt8).isPrefixOf (b::l)=false:=by simp[List.isPrefixOf,e]
   have h2:(b::l).idxOf c=l.idxOf c+1:=by
    rw[List.idxOf_cons,beq_false_of_ne (Ne.symm e)];rfl
   rw[h1,if_neg Bool.false_ne_true,ih];by_cases h3:l.idxOf c<l.length
   ·have f1:fndS l c=((l.idxOf c:Nat):Int):=by unfold fndS;rw[if_pos h3]
    have f2:fndS (b::l) c=((l.idxOf c+1:Nat):Int):=by unfold fndS;rw[h2,if_pos (by rw[List.length_cons];omega)]
    rw[f1,f2,beq_false_of_ne (by omega),if_neg Bool.false_ne_true,Int.natCast_add];rfl
   ·have f1:fndS l c=-1:=by unfold fndS;rw[if_neg h3]
    have f2:fndS (b::l) c=-1:=by unfold fndS;rw[h2,if_neg (by rw[List.length_cons];omega)]
    rw[f1,f2];rfl
theorem cut_hit{l:List UInt8}{c:UInt8}{i:Nat}(hi:l.idxOf c=i)(h:i<l.length):Lib.cut l [c]=(l.take i,l.drop (i+1),true):=by
 unfold Lib.cut;have hf:fndS l c=(i:Int):=by unfold fndS;rw[hi,if_pos h]
 rw[index_one,hf,if_pos (by omega)];rw[Int.toNat_natCast];rfl
theorem cut_miss{l:List UInt8}{c:UInt8}(h:¬l.idxOf c<l.length):Lib.cut l [c]=(l,[],false):=by
 unfold Lib.cut;have hf:fndS l c=-1:=by unfold fndS;rw[if_neg h]
 rw[index_one,hf,if_neg (by decide)]
theorem cut_any(s:ByteArray)(c:UInt8)(w:World)(hs:s.size≤4000000)(hg:GoodD w){x y:List UInt8}{b:Bool}(h:Lib.cut s.data.toList [c]=(x,y,b)) :
  Calls Tryz.prog 134 #[.string s,.string ⟨#[c]⟩] w fun e w'=>e=.returned (.tuple #[.string ⟨x.toArray⟩,.string ⟨y.toArray⟩,.bool b])∧Below w.heap.size w w':=by
 obtain⟨m,hm⟩:=hg.max;have k:=Tryz.strings_Cut s ⟨#[c]⟩ m w (by omega) hm;have e:Lib.cut s.data.toList (⟨#[c]⟩:ByteArray).data.toList=(x,y,b):=h;rw[e]at k;exact k.mono fun _ _ ⟨h1,n,h2⟩=>⟨h1,h2▸Below.drewN (Below.refl _ _) n⟩
theorem natural_is(x:List UInt8){y:List UInt8}(hx:x.length≤1000000)(h:natD x=y)(w:World) :
  Calls Tryz.prog 135 #[.string ⟨x.toArray⟩] w fun e w'=>e=.returned (.string ⟨y.toArray⟩)∧w=w':=h▸natural_any ⟨x.toArray⟩ w (by rw[size_of];exact hx)
theorem ret_ss{a b c d:ByteArray}(h1:a=c)(h2:b=d):Ending.returned (.tuple #[.string a,.string b])=.returned (.tuple #[.string c,.string d]):=by rw[h1,h2]
theorem ten_text2(k:Nat):(⟨#[49]⟩:ByteArray)++⟨(List.replicate k 48).toArray⟩=⟨(dig (10 ^ k)).toArray⟩:=bytes_eq (by rw[ba_append,dig_ten];rfl)
theorem parts_any(s:ByteArray)(w:World)(hs:s.size≤100000)(hg:GoodD w) :
  Calls Tryz.prog 107 #[.string s] w (GiveSS w (partsT s.data.toList)):=by
 have HG:=zh hg;clear hg;have hsz:s.data.toList.length=s.size:=rfl;unfold partsT;by_cases h1:s.data.toList.idxOf 47<s.data.toList.length
 ·rw[if_pos h1];have c0:=fun w hg=>cut_any s 47 w (by omega) hg (cut_hit rfl h1);have c1:=natural_is (s.data.toList.take (s.data.toList.idxOf 47)) (by rw[List.length_take];omega) rfl;have c2:=natural_is (s.data.toList.drop (s.data.toList.idxOf 47+1)) (by rw[List.length_drop];omega) rfl;generalize s.data.toList.take (s.data.toList.idxOf 47)=x at *;generalize s.data.toList.drop (s.data.toList.idxOf 47+1)=y at *;generalize natD x=p at *;generalize natD y=q at *;clear h1 hsz;have C0:=zh c0;have C1:=zh c1;have C2:=zh c2;clear c0 c1 c2;go_enter Tryz.func107,Tryz.ntmps107;have b0:=Below.refl w.heap.size w;go_wp2_with fail;refine(C0.out _ (HG.out.below b0)).mono ?_;rintro e w1 ⟨rfl,b⟩;have b1:=Below.more b0 b;clear b;go_wp2_with fail;refine(C1.out _).mono ?_;rintro e w' ⟨rfl,rfl⟩;go_wp2_with fail;refine(C2.out _).mono ?_;rintro e w' ⟨rfl,rfl⟩;go_wp2_with fail
  go_ret2
  exact⟨rfl,b1⟩
 ·rw[if_neg h1];have c0:=fun w hg=>cut_any s 47 w (by omega) hg (cut_miss h1);rw[show s.data.toList.toArray=s.data from Array.toArray_toList]at c0;have C0:=zh c0;clear c0;by_cases h2:s.data.toList.idxOf 46<s.data.toList.length
  ·rw[if_pos h2];have k0:=fun w hg=>cut_any s 46 w (by omega) hg (cut_hit rfl h2);obtain⟨i,hi⟩:∃i,s.data.toList.idxOf 46=i:=⟨_,rfl⟩;rw[hi]at k0 h2 ⊢;have l1:(s.data.toList.take i).length≤100000:=by rw[List.length_take];omega
   have l2:(s.data.toList.drop (i+1)).length=s.data.toList.length-i-1:=by rw[List.length_drop];omega
   have l3:s.data.toList.length-i-1≤100000:=by omega
   generalize s.data.toList.length-i-1=m at *;generalize s.data.toList.take i=x at *;generalize s.data.toList.drop (i+1)=y at *;clear h1 h2 hi hsz
   cases hx:digs x with
   | false =>
    have c1:=natural_is x (by omega) (natD_no hx);clear hx l1 l2 l3;have K0:=zh k0;have C1:=zh c1;clear k0 c1;go_enter Tryz.func107,Tryz.ntmps107;have b0:=Below.refl w.heap.size w;go_wp2_with fail;refine(C0.out _ (HG.out.below b0)).mono ?_;rintro e w1 ⟨rfl,b⟩;have b1:=Below.more b0 b;clear b;go_wp2_with fail;refine(K0.out _ (HG.out.below b1)).mono ?_;rintro e w2 ⟨rfl,b⟩;have b2:=Below.more b1 b;clear b;go_wp2_with fail;refine(C1.out _).mono ?_;rintro e w' ⟨rfl,rfl⟩;go_wp2_with fail
    go_ret2
    exact⟨rfl,b2⟩
   | true =>
    have c1:=natural_is x (by omega) (natD_yes hx);have e1:(dig (valS x) == [])=false:=beq_false_of_ne (dig_ne _);have e2:=dig_ne (valS x)
    cases hy:digs y with
    | false =>
     have c2:=natural_is y (by omega) (natD_no hy);generalize dig (valS x)=p at *;clear hx hy l1 l2 l3;have K0:=zh k0;have C1:=zh c1;have C2:=zh c2;clear k0 c1 c2;go_enter Tryz.func107,Tryz.ntmps107;have b0:=Below.refl w.heap.size w;go_wp2_with fail;refine(C0.out _ (HG.out.below b0)).mono ?_;rintro e w1 ⟨rfl,b⟩;have b1:=Below.more b0 b;clear b;go_wp2_with fail;refine(K0.out _ (HG.out.below b1)).mono ?_;rintro e w2 ⟨rfl,b⟩;have b2:=Below.more b1 b;clear b;go_wp2_with fail;refine(C1.out _).mono ?_;rintro e w' ⟨rfl,rfl⟩;go_wp2_with fail;refine(C2.out _).mono ?_;rintro e w' ⟨rfl,rfl⟩;go_wp2_with fail
     go_ret2
     exact⟨rfl,b2⟩
    | true =>
     have c2:=natural_is y (by omega) (natD_yes hy);have e3:(dig (valS y) == [])=false:=beq_false_of_ne (dig_ne _);have e4:=dig_ne (valS y);have hd:digs (x++y)=true:=by
      obtain⟨a1,a2⟩:=digs_parts hx;obtain⟨b1,b2⟩:=digs_parts hy;exact digs_of (by rw[List.all_append,a1,b1];rfl) (by simp[b2])
     have exy:(⟨x.toArray⟩:ByteArray)++⟨y.toArray⟩=⟨(x++y).toArray⟩:=bytes_eq (by rw[ba_append]);have c3:∀w,Calls Tryz.prog 135 #[.string ((⟨x.toArray⟩:ByteArray)++⟨y.toArray⟩)] w fun e w'=>e=.returned (.string ⟨(dig (valS (x++y))).toArray⟩)∧w=w':=fun w=>by
      rw[exy];exact natural_is (x++y) (by rw[List.length_append];omega) (natD_yes hd) w
     have zx:(⟨x.toArray⟩:ByteArray).size=x.length:=size_of x;have zy:(⟨y.toArray⟩:ByteArray).size=m:=(size_of y).trans l2;have c4:∀w,Calls Tryz.prog 136 #[.string ⟨#[48]⟩,.int .i64 (m:Int)] w fun e w'=>e=.returned (.string ⟨(List.replicate m 48).toArray⟩)∧Below w.heap.size w w':=fun w=>repeat_any m w (by omega);have z1:(⟨(List.replicate m 48).toArray⟩:ByteArray).size=m:=by rw[size_of,List.length_replicate]
     have hr:=ten_text2 m;show Calls _ _ _ _ (GiveSS w (dig (valS (x++y)),dig (10 ^ m)));generalize dig (valS (x++y))=r at *;generalize dig (10 ^ m)=t at *;generalize dig (valS x)=p at *;generalize dig (valS y)=q at *;generalize (⟨(List.replicate m 48).toArray⟩:ByteArray)=Z at *;generalize (⟨x.toArray⟩:ByteArray)=X at *;generalize (⟨y.toArray⟩:ByteArray)=Y at *;have hx1:¬9223372036854775807<X.size+Y.size:=by omega
     have hx2:¬9223372036854775807<1+Z.size:=by omega
     have HR:=zh hr;clear hx hy hd exy l1 l2 hr;have K0:=zh k0;have C1:=zh c1;have C2:=zh c2;have C3:=zh c3;have C4:=zh c4;clear k0 c1 c2 c3 c4;go_enter Tryz.func107,Tryz.ntmps107;have b0:=Below.refl w.heap.size w;go_wp2_with fail;refine(C0.out _ (HG.out.below b0)).mono ?_;rintro e w1 ⟨rfl,b⟩;have b1:=Below.more b0 b;clear b;go_wp2_with fail;refine(K0.out _ (HG.out.below b1)).mono ?_;rintro e w2 ⟨rfl,b⟩;have b2:=Below.more b1 b;clear b;go_wp2_with fail;refine(C1.out _).mono ?_;rintro e w' ⟨rfl,rfl⟩;go_wp2_with fail;refine(C2.out _).mono ?_;rintro e w' ⟨rfl,rfl⟩;go_wp2_with fail;refine(C3.out _).mono ?_;rintro e w' ⟨rfl,rfl⟩;go_wp2_with fail;refine(C4.out _).mono ?_;rintro e w3 ⟨rfl,b⟩;have b3:=Below.more b2 b;clear b;go_wp2_with fail
     go_ret2
     exact⟨ret_ss rfl HR.out,b3⟩
  ·rw[if_neg h2];have k0:=fun w hg=>cut_any s 46 w (by omega) hg (cut_miss h2);rw[show s.data.toList.toArray=s.data from Array.toArray_toList]at k0;have c1:=fun w=>natural_any s w (by omega);generalize natD s.data.toList=p at *;clear h1 h2 hsz;have K0:=zh k0;have C1:=zh c1;clear k0 c1;go_enter Tryz.func107,Tryz.ntmps107;have b0:=Below.refl w.heap.size w;go_wp2_with fail;refine(C0.out _ (HG.out.below b0)).mono ?_;rintro e w1 ⟨rfl,b⟩;have b1:=Below.more b0 b;clear b;go_wp2_with fail;refine(K0.out _ (HG.out.below b1)).mono ?_;rintro e w2 ⟨rfl,b⟩;have b2:=Below.more b1 b;clear b;go_wp2_with fail;refine(C1.out _).mono ?_;rintro e w' ⟨rfl,rfl⟩;go_wp2_with fail
   go_ret2
   exact⟨rfl,b2⟩
end Go.Proofs.YtmllklfjngapiaaGreatDoor
set_option maxHeartbeats 2000000
set_option maxRecDepth 100000
namespace Go.Proofs.YtmllklfjngapiaaGreatDoor
open Go.RowKit
theorem un_cut(l:List UInt8):(Lib.trimPrefix l [45],Lib.hasPrefix l [45])=((unD l).2,(unD l).1):=by
 unfold unD;by_cases h:l.head?=some 45
 ·obtain⟨r,rfl⟩:=minus_of h;rw[hp_yes,tp_yes,if_pos h];rfl
 ·rw[hp_no h,tp_no h,if_neg h]
theorem cutP_any(s:ByteArray)(w:World){x:List UInt8}{b:Bool}(h:unD s.data.toList=(b,x)) :
  Calls Tryz.prog 105 #[.string s,.string ⟨#[45]⟩] w fun e w'=>e=.returned (.tuple #[.string ⟨x.toArray⟩,.bool b])∧w=w':=by
 have c:=Tryz.strings_CutPrefix s ⟨#[45]⟩ w;have e:=un_cut s.data.toList;rw[h]at e;have e1:Lib.trimPrefix s.data.toList (⟨#[45]⟩:ByteArray).data.toList=x:=congrArg Prod.fst e;have e2:Lib.hasPrefix s.data.toList (⟨#[45]⟩:ByteArray).data.toList=b:=congrArg Prod.snd e;rw[e1,e2]at c;exact c.mono fun _ _ ⟨h1,h2⟩=>⟨h1,h2.symm⟩
theorem parse_long(s:ByteArray)(w:World)(hs:s.size≤1000000)(h:1000<s.size) :
  Calls Tryz.prog 74 #[.string s] w (GiveRE w (([],[]),40)):=by
 go_enter Tryz.func74,Tryz.ntmps74;go_wp2_with fail;obtain⟨W,hW,BW,sW,r0,r1,r2,r3⟩:=box0z w (.string ⟨#[]⟩) (.string ⟨#[]⟩) 37;rw[hW];clear hW;have b0:=Below.refl W.heap.size W;go_wp2_with fail;refine bodyPost_ret (v:=.tuple #[.agg #[.string ⟨#[]⟩,.string ⟨#[]⟩],.int .i64 40]) (by simp[results,Tryz.results74,go_sem, *]) rfl ⟨rfl,?_⟩
 first|exact BW|exact put2 BW (Nat.le_refl _) _ _
theorem parse_p_yes(s:ByteArray)(w:World)(hs:s.size≤1000)(hg:Hid (GoodD w)){T nu de:ByteArray}{x y:List UInt8}
  (C1:Hid (∀w,Calls Tryz.prog 105 #[.string s,.string ⟨#[45]⟩] w fun e w'=>e=.returned (.tuple #[.string T,.bool false])∧w=w'))
  (C2:Hid (∀w,GoodD w→Calls Tryz.prog 107 #[.string T] w fun e w'=>e=.returned (.tuple #[.string nu,.string de])∧Below w.heap.size w w'))
  (C4:Hid (∀w,Calls Tryz.prog 109 #[.string nu,.string de] w (GiveRB w ((x,y),true)))) :
  Calls Tryz.prog 74 #[.string s] w (GiveRE w ((x,y),0)):=by
 have hx1:¬(1000:Int)<(s.size:Int):=by omega
 go_enter Tryz.func74,Tryz.ntmps74;go_wp2_with fail;obtain⟨W,hW,BW,sW,r0,r1,r2,r3⟩:=box0z w (.string ⟨#[]⟩) (.string ⟨#[]⟩) 37;rw[hW];clear hW;have b0:=Below.refl W.heap.size W;go_wp2_with fail;refine(C1.out _).mono ?_;rintro e w' ⟨rfl,rfl⟩;go_wp2_with fail;refine(C2.out _ (hg.out.below BW)).mono ?_;rintro e w1 ⟨rfl,b⟩;have b1:=Below.more b0 b;clear b;go_wp2_with fail;refine(C4.out _).mono ?_;rintro e w9 ⟨rfl,b⟩;have b9:=Below.more b1 b;clear b;have ba:=fun x=>Below.alloc b9 (Below.size b9) x;go_wp2_with fail;refine bodyPost_ret (v:=.tuple #[.agg #[.string ⟨x.toArray⟩,.string ⟨y.toArray⟩],.int .i64 0]) (by simp[results,Tryz.results74,go_sem, *]) rfl ⟨rfl,?_⟩;exact put2 (BW.trans ((ba _).mono (by omega))) (Nat.le_refl _) _ _
theorem parse_p_no(s:ByteArray)(w:World)(hs:s.size≤1000)(hg:Hid (GoodD w)){T nu de:ByteArray}{x y:List UInt8}
  (C1:Hid (∀w,Calls Tryz.prog 105 #[.string s,.string ⟨#[45]⟩] w fun e w'=>e=.returned (.tuple #[.string T,.bool false])∧w=w'))
  (C2:Hid (∀w,GoodD w→Calls Tryz.prog 107 #[.string T] w fun e w'=>e=.returned (.tuple #[.string nu,.string de])∧Below w.heap.size w w'))
  (C4:Hid (∀w,Calls Tryz.prog 109 #[.string nu,.string de] w (GiveRB w ((x,y),false)))) :
  Calls Tryz.prog 74 #[.string s] w (GiveRE w (([],[]),40)):=by
 have hx1:¬(1000:Int)<(s.size:Int):=by omega
 go_enter Tryz.func74,Tryz.ntmps74;go_wp2_with fail;obtain⟨W,hW,BW,sW,r0,r1,r2,r3⟩:=box0z w (.string ⟨#[]⟩) (.string ⟨#[]⟩) 37;rw[hW];clear hW;have b0:=Below.refl W.heap.size W;go_wp2_with fail;refine(C1.out _).mono ?_;rintro e w' ⟨rfl,rfl⟩;go_wp2_with fail;refine(C2.out _ (hg.out.below BW)).mono ?_;rintro e w1 ⟨rfl,b⟩;have b1:=Below.more b0 b;clear b;go_wp2_with fail;refine(C4.out _).mono ?_;rintro e w9 ⟨rfl,b⟩;have b9:=Below.more b1 b;clear b;have ba:=fun x=>Below.alloc b9 (Below.size b9) x;go_wp2_with fail;refine bodyPost_ret (v:=.tuple #[.agg #[.string ⟨#[]⟩,.string ⟨#[]⟩],.int .i64 40]) (by simp[results,Tryz.results74,go_sem, *]) rfl ⟨rfl,?_⟩;exact put2 (BW.trans ((ba _).mono (by omega))) (Nat.le_refl _) _ _
theorem parse_m_yes(s:ByteArray)(w:World)(hs:s.size≤1000)(hg:Hid (GoodD w)){T nu de ng:ByteArray}{x y:List UInt8}
  (C1:Hid (∀w,Calls Tryz.prog 105 #[.string s,.string ⟨#[45]⟩] w fun e w'=>e=.returned (.tuple #[.string T,.bool true])∧w=w'))
  (C2:Hid (∀w,GoodD w→Calls Tryz.prog 107 #[.string T] w fun e w'=>e=.returned (.tuple #[.string nu,.string de])∧Below w.heap.size w w'))
  (C3:Hid (∀w,Calls Tryz.prog 108 #[.string nu] w fun e w'=>e=.returned (.string ng)∧w=w'))
  (C4:Hid (∀w,Calls Tryz.prog 109 #[.string ng,.string de] w (GiveRB w ((x,y),true)))) :
  Calls Tryz.prog 74 #[.string s] w (GiveRE w ((x,y),0)):=by
 have hx1:¬(1000:Int)<(s.size:Int):=by omega
 go_enter Tryz.func74,Tryz.ntmps74;go_wp2_with fail;obtain⟨W,hW,BW,sW,r0,r1,r2,r3⟩:=box0z w (.string ⟨#[]⟩) (.string ⟨#[]⟩) 37;rw[hW];clear hW;have b0:=Below.refl W.heap.size W;go_wp2_with fail;refine(C1.out _).mono ?_;rintro e w' ⟨rfl,rfl⟩;go_wp2_with fail;refine(C2.out _ (hg.out.below BW)).mono ?_;rintro e w1 ⟨rfl,b⟩;have b1:=Below.more b0 b;clear b;go_wp2_with fail;refine(C3.out _).mono ?_;rintro e w' ⟨rfl,rfl⟩;go_wp2_with fail;refine(C4.out _).mono ?_;rintro e w9 ⟨rfl,b⟩;have b9:=Below.more b1 b;clear b;have ba:=fun x=>Below.alloc b9 (Below.size b9) x;go_wp2_with fail;refine bodyPost_ret (v:=.tuple #[.agg #[.string ⟨x.toArray⟩,.string ⟨y.toArray⟩],.int .i64 0]) (by simp[results,Tryz.results74,go_sem, *]) rfl ⟨rfl,?_⟩;exact put2 (BW.trans ((ba _).mono (by omega))) (Nat.le_refl _) _ _
theorem parse_m_no(s:ByteArray)(w:World)(hs:s.size≤1000)(hg:Hid (GoodD w)){T nu de ng:ByteArray}{x y:List UInt8}
  (C1:Hid (∀w,Calls Tryz.prog 105 #[.string s,.string ⟨#[45]⟩] w fun e w'=>e=.returned (.tuple #[.string T,.bool true])∧w=w'))
  (C2:Hid (∀w,GoodD w→Calls Tryz.prog 107 #[.string T] w fun e w'=>e=.returned (.tuple #[.string nu,.string de])∧Below w.heap.size w w'))
  (C3:Hid (∀w,Calls Tryz.prog 108 #[.string nu] w fun e w'=>e=.returned (.string ng)∧w=w'))
  (C4:Hid (∀w,Calls Tryz.prog 109 #[.string ng,.string de] w (GiveRB w ((x,y),false)))) :
  Calls Tryz.prog 74 #[.string s] w (GiveRE w (([],[]),40)):=by
 have hx1:¬(1000:Int)<(s.size:Int):=by omega
 go_enter Tryz.func74,Tryz.ntmps74;go_wp2_with fail;obtain⟨W,hW,BW,sW,r0,r1,r2,r3⟩:=box0z w (.string ⟨#[]⟩) (.string ⟨#[]⟩) 37;rw[hW];clear hW;have b0:=Below.refl W.heap.size W;go_wp2_with fail;refine(C1.out _).mono ?_;rintro e w' ⟨rfl,rfl⟩;go_wp2_with fail;refine(C2.out _ (hg.out.below BW)).mono ?_;rintro e w1 ⟨rfl,b⟩;have b1:=Below.more b0 b;clear b;go_wp2_with fail;refine(C3.out _).mono ?_;rintro e w' ⟨rfl,rfl⟩;go_wp2_with fail;refine(C4.out _).mono ?_;rintro e w9 ⟨rfl,b⟩;have b9:=Below.more b1 b;clear b;have ba:=fun x=>Below.alloc b9 (Below.size b9) x;go_wp2_with fail;refine bodyPost_ret (v:=.tuple #[.agg #[.string ⟨#[]⟩,.string ⟨#[]⟩],.int .i64 40]) (by simp[results,Tryz.results74,go_sem, *]) rfl ⟨rfl,?_⟩;exact put2 (BW.trans ((ba _).mono (by omega))) (Nat.le_refl _) _ _
theorem parse_any(s:ByteArray)(w:World)(hs:s.size≤1000000)(hg:GoodD w) :
  Calls Tryz.prog 74 #[.string s] w (GiveRE w (parS s.data.toList)):=by
 by_cases h:1000<s.size
 ·rw[parS_long (by rw[size_toList];exact h)];exact parse_long s w hs h
 ·have h':s.size≤1000:=by omega
  rw[parS_make (by rw[size_toList];exact h)];obtain⟨b,t,hu⟩:∃b t,unD s.data.toList=(b,t):=⟨_,_,rfl⟩;have hl:=unD_len s.data.toList;rw[hu]at hl ⊢;have hl:t.length≤1000:=by rw[size_toList]at hl;exact Nat.le_trans hl h'
  have c1:=fun w=>cutP_any s w hu;obtain⟨p1,p2⟩:=partsT_len t;have c2:=fun w hg=>parts_any ⟨t.toArray⟩ w (by rw[size_of];omega) hg;have hn:=negW_len1 b (partsT t).1;have c4:=fun w=>qmake_any ⟨(ngD b (partsT t).1).toArray⟩ ⟨(partsT t).2.toArray⟩ w (by rw[size_of];omega) (by rw[size_of];omega);show Calls _ _ _ _ (GiveRE w (if (makeR (ngD b (partsT t).1) (partsT t).2).2 then ((makeR (ngD b (partsT t).1) (partsT t).2).1,0) else (([],[]),40)));have c4:∀w,Calls _ _ _ w (GiveRB w (makeR (ngD b (partsT t).1) (partsT t).2)):=c4;have c3:b=true→∀w,Calls Tryz.prog 108 #[.string ⟨(partsT t).1.toArray⟩] w fun e w'=>e=.returned (.string ⟨(ngD b (partsT t).1).toArray⟩)∧w=w':=fun hb w=>by
   subst hb;exact wneg_any ⟨(partsT t).1.toArray⟩ w (by rw[size_of];omega)
  have c2:∀w,GoodD w→Calls Tryz.prog 107 #[.string ⟨t.toArray⟩] w fun e w'=>e=.returned (.tuple #[.string ⟨(partsT t).1.toArray⟩,.string ⟨(partsT t).2.toArray⟩])∧Below w.heap.size w w':=c2;generalize makeR (ngD b (partsT t).1) (partsT t).2=m at *;obtain⟨⟨x,y⟩,f⟩:=m
  cases b with
  | false=>cases f with
   | true=>exact parse_p_yes s w h' (zh hg) (zh c1) (zh c2) (zh c4)
   | false=>exact parse_p_no s w h' (zh hg) (zh c1) (zh c2) (zh c4)
  | true=>cases f with
   | true=>exact parse_m_yes s w h' (zh hg) (zh c1) (zh c2) (zh (c3 rfl)) (zh c4)
   | false=>exact parse_m_no s w h' (zh hg) (zh c1) (zh c2) (zh (c3 rfl)) (zh c4)
end Go.Proofs.YtmllklfjngapiaaGreatDoor
