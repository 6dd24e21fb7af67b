/- Own work. -/
import Derived.Test.YtcebkcilkhebeaaGreatDoorAllDec2
set_option maxHeartbeats 2000000
set_option maxRecDepth 100000
namespace Go.Proofs.YtcebkcilkhebeaaGreatDoor
open Go.RowKit
theorem index_one(l:List UInt8)(c:UInt8):Lib.index l [c]=fndS l c:=by
 induction l with
 | nil=>rfl
 | cons b l ih =>
  unfold Lib.index;by_cases e:c=b
  ·subst e;rw[if_pos (by simp)];unfold fndS;rw[List.idxOf_cons_self,if_pos (by simp)];rfl
  ·have h1:([c]:List UInt8).isPrefixOf (b::l)=false:=by simp[List.isPrefixOf,e]
   have h2:(b::l).idxOf c=l.idxOf c+1:=by
    rw[List.idxOf_cons,beq_false_of_ne (Ne.symm e)];rfl
   rw[h1,if_neg Bool.false_ne_true,ih];by_cases h3:l.idxOf c<l.length
   ·have f1:fndS l c=((l.idxOf c:Nat):Int):=by unfold fndS;rw[if_pos h3]
    have f2:fndS (b::l) c=((l.idxOf c+1:Nat):Int):=by unfold fndS;rw[h2,if_pos (by rw[List.length_cons];omega)]
    rw[f1,f2,beq_false_of_ne (by omega),if_neg Bool.false_ne_true,Int.natCast_add];rfl
   ·have f1:fndS l c=-1:=by unfold fndS;rw[if_neg h3]
    have f2:fndS (b::l) c=-1:=by unfold fndS;rw[h2,if_neg (by rw[List.length_cons];omega)]
    rw[f1,f2];rfl
theorem cut_hit{l:List UInt8}{c:UInt8}{i:Nat}(hi:l.idxOf c=i)(h:i<l.length):Lib.cut l [c]=(l.take i,l.drop (i+1),true):=by
 unfold Lib.cut;have hf:fndS l c=(i:Int):=by unfold fndS;rw[hi,if_pos h]
 rw[index_one,hf,if_pos (by omega)];rw[Int.toNat_natCast];rfl
theorem cut_miss{l:List UInt8}{c:UInt8}(h:¬l.idxOf c<l.length):Lib.cut l [c]=(l,[],false):=by
 unfold Lib.cut;have hf:fndS l c=-1:=by unfold fndS;rw[if_neg h]
 rw[index_one,hf,if_neg (by decide)]
theorem cut_any(s:ByteArray)(c:UInt8)(w:World)(hs:s.size≤4000000)(hg:GoodD w){x y:List UInt8}{b:Bool}(h:Lib.cut s.data.toList [c]=(x,y,b)) :
  Calls Tryz.prog 115 #[.string s,.string ⟨#[c]⟩] w fun e w'=>e=.returned (.tuple #[.string ⟨x.toArray⟩,.string ⟨y.toArray⟩,.bool b])∧Below w.heap.size w w':=by
 obtain⟨m,hm⟩:=hg.max;have k:=Tryz.strings_Cut s ⟨#[c]⟩ m w (by omega) hm;have e:Lib.cut s.data.toList (⟨#[c]⟩:ByteArray).data.toList=(x,y,b):=h;rw[e]at k;exact k.mono fun _ _ ⟨h1,n,h2⟩=>⟨h1,h2▸Below.drewN (Below.refl _ _) n⟩
theorem natural_is(x:List UInt8){y:List UInt8}(hx:x.length≤1000000)(h:natD x=y)(w:World) :
  Calls Tryz.prog 116 #[.string ⟨x.toArray⟩] w fun e w'=>e=.returned (.string ⟨y.toArray⟩)∧w=w':=h▸natural_any ⟨x.toArray⟩ w (by rw[size_of];exact hx)
theorem ret_ss{a b c d:ByteArray}(h1:a=c)(h2:b=d):Ending.returned (.tuple #[.string a,.string b])=.returned (.tuple #[.string c,.string d]):=by rw[h1,h2]
theorem ten_text2(k:Nat):(⟨#[49]⟩:ByteArray)++⟨(List.replicate k 48).toArray⟩=⟨(dig (10 ^ k)).toArray⟩:=bytes_eq (by rw[ba_append,dig_ten];rfl)
theorem parts_any(s:ByteArray)(w:World)(hs:s.size≤100000)(hg:GoodD w) :
  Calls Tryz.prog 82 #[.string s] w (GiveSS w (partsT s.data.toList)):=by
 have HG:=zh hg;clear hg;have hsz:s.data.toList.length=s.size:=rfl;unfold partsT;by_cases h1:s.data.toList.idxOf 47<s.data.toList.length
 ·rw[if_pos h1];have c0:=fun w hg=>cut_any s 47 w (by omega) hg (cut_hit rfl h1);have c1:=natural_is (s.data.toList.take (s.data.toList.idxOf 47)) (by rw[List.length_take];omega) rfl;have c2:=natural_is (s.data.toList.drop (s.data.toList.idxOf 47+1)) (by rw[List.length_drop];omega) rfl;generalize s.data.toList.take (s.data.toList.idxOf 47)=x at *;generalize s.data.toList.drop (s.data.toList.idxOf 47+1)=y at *;generalize natD x=p at *;generalize natD y=q at *;clear h1 hsz;have C0:=zh c0;have C1:=zh c1;have C2:=zh c2;clear c0 c1 c2;go_enter Tryz.func82,Tryz.ntmps82;have b0:=Below.refl w.heap.size w;go_wp2_with fail;refine(C0.out _ (HG.out.below b0)).mono ?_;rintro e w1 ⟨rfl,b⟩;have b1:=Below.more b0 b;clear b;go_wp2_with fail;refine(C1.out _).mono ?_;rintro e w' ⟨rfl,rfl⟩;go_wp2_with fail;refine(C2.out _).mono ?_;rintro e w' ⟨rfl,rfl⟩;go_wp2_with fail
  go_ret2
  exact⟨rfl,b1⟩
 ·rw[if_neg h1];have c0:=fun w hg=>cut_any s 47 w (by omega) hg (cut_miss h1);rw[show s.data.toList.toArray=s.data from Array.toArray_toList]at c0;have C0:=zh c0;clear c0;by_cases h2:s.data.toList.idxOf 46<s.data.toList.length
  ·rw[if_pos h2];have k0:=fun w hg=>cut_any s 46 w (by omega) hg (cut_hit rfl h2);obtain⟨i,hi⟩:∃i,s.data.toList.idxOf 46=i:=⟨_,rfl⟩;rw[hi]at k0 h2 ⊢;have l1:(s.data.toList.take i).length≤100000:=by rw[List.length_take];omega
   have l2:(s.data.toList.drop (i+1)).length=s.data.toList.length-i-1:=by rw[List.length_drop];omega
   have l3:s.data.toList.length-i-1≤100000:=by omega
   generalize s.data.toList.length-i-1=m at *;generalize s.data.toList.take i=x at *;generalize s.data.toList.drop (i+1)=y at *;clear h1 h2 hi hsz
   cases hx:digs x with
   | false =>
    have c1:=natural_is x (by omega) (natD_no hx);clear hx l1 l2 l3;have K0:=zh k0;have C1:=zh c1;clear k0 c1;go_enter Tryz.func82,Tryz.ntmps82;have b0:=Below.refl w.heap.size w;go_wp2_with fail;refine(C0.out _ (HG.out.below b0)).mono ?_;rintro e w1 ⟨rfl,b⟩;have b1:=Below.more b0 b;clear b;go_wp2_with fail;refine(K0.out _ (HG.out.below b1)).mono ?_;rintro e w2 ⟨rfl,b⟩;have b2:=Below.more b1 b;clear b;go_wp2_with fail;refine(C1.out _).mono ?_;rintro e w' ⟨rfl,rfl⟩;go_wp2_with fail
    go_ret2
    exact⟨rfl,b2⟩
   | true =>
    have c1:=natural_is x (by omega) (natD_yes hx);have e1:(dig (valS x) == [])=false:=beq_false_of_ne (dig_ne _);have e2:=dig_ne (valS x)
    cases hy:digs y with
    | false =>
     have c2:=natural_is y (by omega) (natD_no hy);generalize dig (valS x)=p at *;clear hx hy l1 l2 l3;have K0:=zh k0;have C1:=zh c1;have C2:=zh c2;clear k0 c1 c2;go_enter Tryz.func82,Tryz.ntmps82;have b0:=Below.refl w.heap.size w;go_wp2_with fail;refine(C0.out _ (HG.out.below b0)).mono ?_;rintro e w1 ⟨rfl,b⟩;have b1:=Below.more b0 b;clear b;go_wp2_with fail;refine(K0.out _ (HG.out.below b1)).mono ?_;rintro e w2 ⟨rfl,b⟩;have b2:=Below.more b1 b;clear b;go_wp2_with fail;refine(C1.out _).mono ?_;rintro e w' ⟨rfl,rfl⟩;go_wp2_with fail;refine(C2.out _).mono ?_;rintro e w' ⟨rfl,rfl⟩;go_wp2_with fail
     go_ret2
     exact⟨rfl,b2⟩
    | true =>
     have c2:=natural_is y (by omega) (natD_yes hy);have e3:(dig (valS y) == [])=false:=beq_false_of_ne (dig_ne _);have e4:=dig_ne (valS y);have hd:digs (x++y)=true:=by
      obtain⟨a1,a2⟩:=digs_parts hx;obtain⟨b1,b2⟩:=digs_parts hy;exact digs_of (by rw[List.all_append,a1,b1];rfl) (by simp[b2])
     have exy:(⟨x.toArray⟩:ByteArray)++⟨y.toArray⟩=⟨(x++y).toArray⟩:=bytes_eq (by rw[ba_append]);have c3:∀w,Calls Tryz.prog 116 #[.string ((⟨x.toArray⟩:ByteArray)++⟨y.toArray⟩)] w fun e w'=>e=.returned (.string ⟨(dig (valS (x++y))).toArray⟩)∧w=w':=fun w=>by
      rw[exy];exact natural_is (x++y) (by rw[List.length_append];omega) (natD_yes hd) w
     have zx:(⟨x.toArray⟩:ByteArray).size=x.length:=size_of x;have zy:(⟨y.toArray⟩:ByteArray).size=m:=(size_of y).trans l2;have c4:∀w,Calls Tryz.prog 63 #[.string ⟨#[48]⟩,.int .i64 (m:Int)] w fun e w'=>e=.returned (.string ⟨(List.replicate m 48).toArray⟩)∧Below w.heap.size w w':=fun w=>repeat_any m w (by omega);have z1:(⟨(List.replicate m 48).toArray⟩:ByteArray).size=m:=by rw[size_of,List.length_replicate]
     have hr:=ten_text2 m;show Calls _ _ _ _ (GiveSS w (dig (valS (x++y)),dig (10 ^ m)));generalize dig (valS (x++y))=r at *;generalize dig (10 ^ m)=t at *;generalize dig (valS x)=p at *;generalize dig (valS y)=q at *;generalize (⟨(List.replicate m 48).toArray⟩:ByteArray)=Z at *;generalize (⟨x.toArray⟩:ByteArray)=X at *;generalize (⟨y.toArray⟩:ByteArray)=Y at *;have hx1:¬9223372036854775807<X.size+Y.size:=by omega
     have hx2:¬9223372036854775807<1+Z.size:=by omega
     have HR:=zh hr;clear hx hy hd exy l1 l2 hr;have K0:=zh k0;have C1:=zh c1;have C2:=zh c2;have C3:=zh c3;have C4:=zh c4;clear k0 c1 c2 c3 c4;go_enter Tryz.func82,Tryz.ntmps82;have b0:=Below.refl w.heap.size w;go_wp2_with fail;refine(C0.out _ (HG.out.below b0)).mono ?_;rintro e w1 ⟨rfl,b⟩;have b1:=Below.more b0 b;clear b;go_wp2_with fail;refine(K0.out _ (HG.out.below b1)).mono ?_;rintro e w2 ⟨rfl,b⟩;have b2:=Below.more b1 b;clear b;go_wp2_with fail;refine(C1.out _).mono ?_;rintro e w' ⟨rfl,rfl⟩;go_wp2_with fail;refine(C2.out _).mono ?_;rintro e w' ⟨rfl,rfl⟩;go_wp2_with fail;refine(C3.out _).mono ?_;rintro e w' ⟨rfl,rfl⟩;go_wp2_with fail;refine(C4.out _).mono ?_;rintro e w3 ⟨rfl,b⟩;have b3:=Below.more b2 b;clear b;go_wp2_with fail
     go_ret2
     exact⟨ret_ss rfl HR.out,b3⟩
  ·rw[if_neg h2];have k0:=fun w hg=>cut_any s 46 w (by omega) hg (cut_miss h2);rw[show s.data.toList.toArray=s.data from Array.toArray_toList]at k0;have c1:=fun w=>natural_any s w (by omega);generalize natD s.data.toList=p at *;clear h1 h2 hsz;have K0:=zh k0;have C1:=zh c1;clear k0 c1;go_enter Tryz.func82,Tryz.ntmps82;have b0:=Below.refl w.heap.size w;go_wp2_with fail;refine(C0.out _ (HG.out.below b0)).mono ?_;rintro e w1 ⟨rfl,b⟩;have b1:=Below.more b0 b;clear b;go_wp2_with fail;refine(K0.out _ (HG.out.below b1)).mono ?_;rintro e w2 ⟨rfl,b⟩;have b2:=Below.more b1 b;clear b;go_wp2_with fail;refine(C1.out _).mono ?_;rintro e w' ⟨rfl,rfl⟩;go_wp2_with fail
   go_ret2
   exact⟨rfl,b2⟩
end Go.Proofs.YtcebkcilkhebeaaGreatDoor
