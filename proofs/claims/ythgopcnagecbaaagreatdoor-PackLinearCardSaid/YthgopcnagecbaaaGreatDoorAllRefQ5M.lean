/- Own work. -/
import Derived.Test.YthgopcnagecbaaaGreatDoorAllRefQ2
set_option maxHeartbeats 2000000
set_option maxRecDepth 100000
namespace Go.Proofs.YthgopcnagecbaaaGreatDoor
open Go.RowKit
theorem len_int{a:Int}(h0:-9223372036854775808≤a)(h1:a≤9223372036854775807):(wd a).length≤20 :=
 Nat.le_trans (wd_length a) (Nat.succ_le_succ (dig_length (k:=19) (by decide) (Nat.lt_of_le_of_lt (show a.natAbs≤9223372036854775808 by omega) (by decide))))
theorem rqone_any(a b:Int)(w:World)(a0:-9223372036854775808≤a)(a1:a≤9223372036854775807)(b0:-9223372036854775808≤b)(b1:b≤9223372036854775807) :
  Calls Tryz.prog 62 #[.int .i64 a,.int .i64 b] w (GiveR w (makeR (wd a) (wd b)).1):=by
 have ca:=fun w=>rwof_any a w a0 a1;have cb:=fun w=>rwof_any b w b0 b1;have l1:=len_int a0 a1;have l2:=len_int b0 b1;generalize wd a=s at *;generalize wd b=t at *;have ck:∀w,Calls Tryz.prog 51 #[.string ⟨s.toArray⟩,.string ⟨t.toArray⟩] w (GiveRB w (makeR s t)):=fun w=>rqmake_any ⟨s.toArray⟩ ⟨t.toArray⟩ w (by rw[size_of];exact Nat.le_trans l1 (by decide)) (by rw[size_of];exact Nat.le_trans l2 (by decide));generalize makeR s t=p at *;clear l1 l2 a0 a1 b0 b1;have CA:=zh ca;have CB:=zh cb;have CK:=zh ck;clear ca cb ck;go_enter Tryz.func62,Tryz.ntmps62;go_wp2_with fail;obtain⟨W,hW,BW,sW,r0,r1,r2,r3⟩:=box0z w (.string ⟨#[]⟩) (.string ⟨#[]⟩) 23;have hB:=zh (Nat.le_refl W.heap.size);rw[hW];clear hW;have b0:=Below.refl W.heap.size W;refine(CA.out _).mono ?_;rintro e w1 ⟨rfl,b⟩;have b1:=Below.more b0 b;clear b;go_wp2_with fail;refine(CB.out _).mono ?_;rintro e w2 ⟨rfl,b⟩;have b2:=Below.more b1 b;clear b;go_wp2_with fail;refine(CK.out _).mono ?_;rintro e w3 ⟨rfl,b⟩;have b3:=Below.more b2 b;clear b;have ba:=fun x=>Below.alloc b3 (Below.size b3) x;go_wp2_with fail;refine bodyPost_ret (v:=.agg #[.string ⟨p.1.1.toArray⟩,.string ⟨p.1.2.toArray⟩]) (by simp[results,Tryz.results62,go_sem, *]) rfl ⟨rfl,?_⟩;exact put2 (Below.more BW (ba _)) (Nat.le_refl _) _ _
end Go.Proofs.YthgopcnagecbaaaGreatDoor
namespace Go.Proofs.YthgopcnagecbaaaGreatDoor
open Go.RowKit
def p2(a b:ByteArray×ByteArray)(j:Nat):ByteArray×ByteArray:=if j=0 then a else b
def p3(a b c:ByteArray×ByteArray)(j:Nat):ByteArray×ByteArray:=if j=0 then a else if j=1 then b else c
end Go.Proofs.YthgopcnagecbaaaGreatDoor
namespace Go.Proofs.YthgopcnagecbaaaGreatDoor
open Go.RowKit
structure Lq(x:Rat)(k:Nat):Prop where
 num:x.num.natAbs<10 ^ k
 den:x.den<10 ^ k
 le:k≤10000
 pos:0<k
theorem Lq.len1{x:Rat}{k:Nat}(h:Lq x k):(rdN x).length≤k+1:=Nat.le_trans (wd_length x.num) (Nat.succ_le_succ (dig_length h.pos h.num))
theorem Lq.len2{x:Rat}{k:Nat}(h:Lq x k):(rdD x).length≤k:=dig_length h.pos h.den
theorem Lq.s1{x:Rat}{k:Nat}(h:Lq x k):(⟨(rdN x).toArray⟩:ByteArray).size≤19000:=by rw[size_of];exact Nat.le_trans h.len1 (by have:=h.le;omega)
theorem Lq.s2{x:Rat}{k:Nat}(h:Lq x k):(⟨(rdD x).toArray⟩:ByteArray).size≤19000:=by rw[size_of];exact Nat.le_trans h.len2 (by have:=h.le;omega)
theorem Lq.mono{x:Rat}{j k:Nat}(h:Lq x j)(hk:j≤k)(hl:k≤10000):Lq x k:=⟨Nat.lt_of_lt_of_le h.num (Nat.pow_le_pow_right (by decide) hk),Nat.lt_of_lt_of_le h.den (Nat.pow_le_pow_right (by decide) hk),hl,Nat.lt_of_lt_of_le h.pos hk⟩
theorem Lq.of_text{n d:ByteArray}{k:Nat}(h:isR (n.data.toList,d.data.toList)=true)(hn:n.size≤k)(hd:d.size≤k)(hk:k≤10000):Lq (valR (n.data.toList,d.data.toList)) k:=by
 have h1:=isR_isW h;have h2:=isR_isN h;have hp:0<d.data.toList.length:=isW_pos (l:=d.data.toList) (by
  have e:d.data.toList=dig (valR (n.data.toList,d.data.toList)).den:=(isR_den h).1;rw[e];exact isW_dig _)
 have hd':d.data.toList.length≤k:=hd;have hn':n.data.toList.length≤k:=hn;refine⟨?_,?_,hk,by omega⟩
 ·rw[valR_num h];exact Nat.lt_of_lt_of_le (Ltw.own h1 (by show n.data.toList.length≤_;omega)).abs (Nat.pow_le_pow_right (by decide) hn')
 ·rw[valR_den h];exact Nat.lt_of_lt_of_le (nat_lt h2) (Nat.pow_le_pow_right (by decide) hd')
theorem Lq.divInt{n d:Int}{k:Nat}(h0:d≠0)(hn:n.natAbs<10 ^ k)(hd:d.natAbs<10 ^ k)(hk:k≤10000)(hp:0<k):Lq (Rat.divInt n d) k:=by
 have h:=divInt_le (n:=n) h0;exact⟨Nat.lt_of_le_of_lt h.1 hn,Nat.lt_of_le_of_lt h.2 hd,hk,hp⟩
section
variable {x y : Rat} {j k : Nat}
theorem pow_next{a m:Nat}(h:a<10 ^ m):a<10 ^ (m+1):=Nat.lt_of_lt_of_le h (Nat.pow_le_pow_right (by decide) (Nat.le_succ m))
theorem den_den(hx:Lq x j)(hy:Lq y k):((x.den:Int)*(y.den:Int)).natAbs<10 ^ (j+k+1):=by
 rw[Int.natAbs_mul,Int.natAbs_natCast,Int.natAbs_natCast];exact pow_next (mul_lt hx.den hy.den)
theorem num_den(hx:Lq x j)(hy:Lq y k):(x.num*(y.den:Int)).natAbs<10 ^ (j+k):=by
 rw[Int.natAbs_mul,Int.natAbs_natCast];exact mul_lt hx.num hy.den
theorem two_lt{a b m:Nat}(ha:a<10 ^ m)(hb:b<10 ^ m):a+b<10 ^ (m+1):=by
 rw[Nat.pow_succ];omega
theorem Lq.add(hx:Lq x j)(hy:Lq y k)(h:j+k+1≤10000):Lq (x+y) (j+k+1):=by
 rw[divInt_cross_add];refine Lq.divInt (Int.ne_of_gt (den_mul_pos _ _)) ?_ (den_den hx hy) h (Nat.succ_pos _);have h2:=num_den hy hx;rw[Nat.add_comm k j]at h2;exact Nat.lt_of_le_of_lt (Int.natAbs_add_le _ _) (two_lt (num_den hx hy) h2)
theorem Lq.mul(hx:Lq x j)(hy:Lq y k)(h:j+k+1≤10000):Lq (x*y) (j+k+1):=by
 rw[divInt_cross_mul];refine Lq.divInt (Int.ne_of_gt (den_mul_pos _ _)) ?_ (den_den hx hy) h (Nat.succ_pos _);rw[Int.natAbs_mul];exact pow_next (mul_lt hx.num hy.num)
end
theorem isRq(x:Rat):isR ((⟨(rdN x).toArray⟩:ByteArray).data.toList,(⟨(rdD x).toArray⟩:ByteArray).data.toList)=true:=isR_rd x
theorem valRq(x:Rat):valR ((⟨(rdN x).toArray⟩:ByteArray).data.toList,(⟨(rdD x).toArray⟩:ByteArray).data.toList)=x:=valR_rd x
section
variable {x y z : Rat} {j k : Nat}
theorem qAdd(hx:Lq x j)(hy:Lq y k)(h:x+y=z)(w:World) :
  Calls Tryz.prog 38 #[.agg #[.string ⟨(rdN x).toArray⟩,.string ⟨(rdD x).toArray⟩],.agg #[.string ⟨(rdN y).toArray⟩,.string ⟨(rdD y).toArray⟩]] w (GiveR w (rdN z,rdD z)):=by
 have c:=qadd_any ⟨(rdN x).toArray⟩ ⟨(rdD x).toArray⟩ ⟨(rdN y).toArray⟩ ⟨(rdD y).toArray⟩ w (Nat.le_trans hx.s1 (by decide)) (Nat.le_trans hx.s2 (by decide)) (Nat.le_trans hy.s1 (by decide)) (Nat.le_trans hy.s2 (by decide));have e:addR ((⟨(rdN x).toArray⟩:ByteArray).data.toList,(⟨(rdD x).toArray⟩:ByteArray).data.toList) ((⟨(rdN y).toArray⟩:ByteArray).data.toList,(⟨(rdD y).toArray⟩:ByteArray).data.toList)=(rdN z,rdD z):=by
  unfold addR;rw[isRq,isRq,valRq,valRq,h];rfl
 rw[e]at c;exact c
end
theorem rdN_int(n:Int):rdN (n:Rat)=wd n:=by unfold rdN;rw[Rat.num_intCast]
theorem rdD_int(n:Int):rdD (n:Rat)=[49]:=by unfold rdD;rw[Rat.den_intCast];exact dig_1
theorem qOf(n:Int)(h0:-9223372036854775808≤n)(h1:n≤9223372036854775807)(w:World)(ht:GoodT w) :
  Calls Tryz.prog 39 #[.int .i64 n] w (GiveR w (rdN (n:Rat),rdD (n:Rat))):=by
 rw[rdN_int,rdD_int];exact qof_any n w h0 h1 ht
theorem one_c{a b:Int}{q:List UInt8×List UInt8}(h:(!(b==0)&&isR q&&decide (valR q=Rat.divInt a b))=true):(makeR (wd a) (wd b)).1=q:=by
 simp only[Bool.and_eq_true,decide_eq_true_eq,Bool.not_eq_true',beq_eq_false_iff_ne,ne_eq]at h;rw[makeR_ww h.1.1,← h.2];exact rd_valR h.1.2
end Go.Proofs.YthgopcnagecbaaaGreatDoor
set_option maxHeartbeats 1000000
set_option maxRecDepth 100000
namespace Go.Proofs.YthgopcnagecbaaaGreatDoor
open Go.RowKit
theorem rqof_any(n:Int)(w:World)(h0:-9223372036854775808≤n)(h1:n≤9223372036854775807) :
  Calls Tryz.prog 23 #[.int .i64 n] w (GiveR w (wd n,[49])):=by
 have ca:=fun w=>rwof_any n w h0 h1;generalize wd n=s at *;clear h0 h1;have CA:=zh ca;clear ca;go_enter Tryz.func23,Tryz.ntmps23;go_wp2_with fail;obtain⟨W,hW,BW,sW,r0,r1,r2,r3⟩:=box0z w (.string ⟨#[]⟩) (.string ⟨#[]⟩) 23;have hB:=zh (Nat.le_refl W.heap.size);rw[hW];clear hW;have b0:=Below.refl W.heap.size W;refine(CA.out _).mono ?_;rintro e w1 ⟨rfl,b⟩;have b1:=Below.more b0 b;clear b;go_wp2_with fail;refine bodyPost_ret (v:=.agg #[.string ⟨s.toArray⟩,.string ⟨#[49]⟩]) (by simp[results,Tryz.results23,go_sem, *]) rfl ⟨rfl,?_⟩;exact put2 (Below.more BW b1) (Nat.le_refl _) _ _
section
variable {x y z : Rat} {j k : Nat}
end
end Go.Proofs.YthgopcnagecbaaaGreatDoor
