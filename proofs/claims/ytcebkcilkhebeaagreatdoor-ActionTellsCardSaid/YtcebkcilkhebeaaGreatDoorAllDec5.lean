/- Own work. -/
import Derived.Test.YtcebkcilkhebeaaGreatDoorAllDec4
set_option maxHeartbeats 4000000
set_option maxRecDepth 100000
namespace Go.Proofs.YtcebkcilkhebeaaGreatDoor
open Go.RowKit
theorem print_no(n d:ByteArray)(w:World)(hn:n.size≤4000)(hd:d.size≤4000)(h:isR (n.data.toList,d.data.toList)=false) :
  Calls Tryz.prog 37 #[.agg #[.string n,.string d]] w (GiveS w (prS (n.data.toList,d.data.toList))):=by
 have cm:=fun w=>qmay_any n d w (by omega) (by omega);rw[h]at cm;rw[prS_no h];clear h hn hd;have CM:=zh cm;clear cm;go_enter Tryz.func37,Tryz.ntmps37;go_wp2_with fail;obtain⟨W,hW,BW,sW,k0,k1⟩:=box1 w (.string n) (.string d) 23;rw[hW];clear hW;have b0:=Below.refl W.heap.size W;go_wp2_with fail;refine(CM.out _).mono ?_;rintro e w1 ⟨rfl,b⟩;have b1:=Below.more b0 b;clear b;go_wp2_with fail;go_ret;exact⟨rfl,Below.more BW b1⟩
theorem den_places{n d:ByteArray}(h:isR (n.data.toList,d.data.toList)=true)(hd:d.size≤4000)(w:World)(hg:GoodD w) :
  Calls Tryz.prog 60 #[.string d] w (GiveIB w (plR (plc (valR (n.data.toList,d.data.toList)).den))):=by
 obtain⟨_,hN,hz,_⟩:=isR_parts h;have hN:isNat d.data.toList=true:=hN;have hz:valS d.data.toList≠0:=hz;have c:=places0_any (valS d.data.toList) w (by omega) (by rw[dig_len hN];omega) hg;rw[←str_dig hN]at c;rw[valR_den h];exact c
theorem print_none(n d:ByteArray)(w:World)(hn:n.size≤4000)(hd:d.size≤4000)(hg:GoodD w)(h:isR (n.data.toList,d.data.toList)=true)(hp:plc (valR (n.data.toList,d.data.toList)).den=none) :
  Calls Tryz.prog 37 #[.agg #[.string n,.string d]] w (GiveS w (prS (n.data.toList,d.data.toList))):=by
 have cm:=fun w=>qmay_any n d w (by omega) (by omega);have cp:=fun w hg=>den_places h hd w hg;rw[h]at cm;rw[hp]at cp;have hr:n++(⟨#[47]⟩:ByteArray)++d=⟨(prS (n.data.toList,d.data.toList)).toArray⟩:=bytes_eq (by
  rw[ba_append,ba_append,prS_yes h,prD_none hp,← (isR_den h).1,← (isR_den h).2,List.append_assoc]
  rfl)
 generalize prS (n.data.toList,d.data.toList)=R at *;clear h hp;have HG:=zh hg;have CM:=zh cm;have CP:=zh cp;have HR:=zh hr;clear cm cp hr hg;go_enter Tryz.func37,Tryz.ntmps37;go_wp2_with fail;obtain⟨W,hW,BW,sW,k0,k1⟩:=box1 w (.string n) (.string d) 23;rw[hW];clear hW;have b0:=Below.refl W.heap.size W;go_wp2_with fail;refine(CM.out _).mono ?_;rintro e w1 ⟨rfl,b⟩;have b1:=Below.more b0 b;clear b;go_wp2_with fail;refine(CP.out _ (HG.out.below (Below.more BW b1))).mono ?_;rintro e w2 ⟨rfl,b⟩;have b2:=Below.more b1 b;clear b;go_wp2_with fail;go_ret;exact⟨ret_str HR.out,Below.more BW b2⟩
theorem un_wd(z:Int):unD (wd z)=(decide (z<0),dig z.natAbs):=by
 unfold wd;by_cases h:z<0
 ·rw[if_pos h,decide_eq_true h];rfl
 ·rw[if_neg h,decide_eq_false h];exact un_digs (dig_all _)
theorem body_len{k:Nat}{l:List UInt8}:(bodyD k l).length≤l.length+k+2:=by
 unfold bodyD;split
 ·omega
 ·unfold ptD padD;simp only[List.length_append,List.length_cons,List.length_take,List.length_drop,List.length_replicate];omega
theorem print_p(n d:ByteArray)(w:World){k:Nat}{A z q r:ByteArray}{R:List UInt8}(hg:Hid (GoodD w))(za:A.size≤4000)(zz:z.size≤20000)(zq:R.length≤60000)
  (CM:Hid (∀w,Calls Tryz.prog 59 #[.agg #[.string n,.string d]] w (GiveB w true)))
  (CP:Hid (∀w,GoodD w→Calls Tryz.prog 60 #[.string d] w (GiveIB w ((k:Int),true))))
  (CC:Hid (∀w,Calls Tryz.prog 61 #[.string n,.string ⟨#[45]⟩] w fun e w'=>e=.returned (.tuple #[.string A,.bool false])∧w=w'))
  (CZ:Hid (∀w,Calls Tryz.prog 63 #[.string ⟨#[48]⟩,.int .i64 (k:Int)] w fun e w'=>e=.returned (.string z)∧Below w.heap.size w w'))
  (CD:Hid (∀w,Calls Tryz.prog 62 #[.string (A++z),.string d] w fun e w'=>e=.returned (.tuple #[.string q,.string r,.bool true])∧Below w.heap.size w w'))
  (CQ:Hid (∀w,Calls Tryz.prog 64 #[.string q,.int .i64 (k:Int)] w (GiveS w R))) :
  Calls Tryz.prog 37 #[.agg #[.string n,.string d]] w (GiveS w (R)):=by
 have hx1:¬9223372036854775807<A.size+z.size:=by omega
 go_enter Tryz.func37,Tryz.ntmps37;go_wp2_with fail;obtain⟨W,hW,BW,sW,k0,k1⟩:=box1 w (.string n) (.string d) 23;have hB:=zh (Nat.le_refl W.heap.size);rw[hW];clear hW;have b0:=Below.refl W.heap.size W;go_wp2_with fail;refine(CM.out _).mono ?_;rintro e w1 ⟨rfl,b⟩;have b1:=Below.more b0 b;clear b;go_wp2_with fail;refine(CP.out _ (hg.out.below (Below.more BW b1))).mono ?_;rintro e w2 ⟨rfl,b⟩;have b2:=Below.more b1 b;clear b;go_wp2_with fail;refine(CC.out _).mono ?_;rintro e w' ⟨rfl,rfl⟩;go_wp2_with fail
 first|(go_region_held3 (fun w'=>Below W.heap.size W w')
     (first|(exact b2.drew)|(with_reducible assumption)|(exact Below.alloc (by with_reducible assumption) (Nat.le_trans hB.out (Below.size (by with_reducible assumption))) _)|(exact put2 (by with_reducible assumption) (Nat.le_refl _) _ _)|(exact put2 (by with_reducible assumption) hB.out _ _)|(exact put2 (by with_reducible assumption) (Nat.le_trans hB.out (Below.size (by with_reducible assumption))) _ _))
     (first|(go_at_call 63;(with_reducible refine(held (W:=W) hB.out (CZ.out _) (by assumption)).mono ?_);rintro e w'' ⟨rfl,hb,hw⟩;(first|(have hz:=zc_made0 hb)|(have hz:=zc_made hb)|skip);(try have hz:=Zc.below (by assumption) hb);(try (have z0:=hz.c0;have z1:=hz.c1;have z2:=hz.f0;have z3:=hz.f1)))|(go_at_call 62;(with_reducible refine(held (W:=W) hB.out (CD.out _) (by assumption)).mono ?_);rintro e w'' ⟨rfl,hb,hw⟩;(first|(have hz:=zc_made0 hb)|(have hz:=zc_made hb)|skip);(try have hz:=Zc.below (by assumption) hb);(try (have z0:=hz.c0;have z1:=hz.c1;have z2:=hz.f0;have z3:=hz.f1)))))|fail
 all_goals (go_wp2_with fail)
 all_goals (refine(CQ.out _).mono ?_;rintro e w9 ⟨rfl,b9⟩)
 all_goals (have b3:=Below.more (by with_reducible assumption) b9;clear b9)
 all_goals
  have zR:(⟨R.toArray⟩:ByteArray).size=R.length:=size_of R;have hr:(⟨#[45]⟩:ByteArray)++⟨R.toArray⟩=⟨(45::R).toArray⟩:=bytes_eq (by rw[ba_append];rfl);have HR:=zh hr;clear hr;generalize hq:(⟨R.toArray⟩:ByteArray)=Q at *;have hx2:¬9223372036854775807<1+Q.size:=by omega
  have HQ:=zh hq;clear hq;go_wp2_with fail;go_ret;exact⟨ret_str HQ.out.symm,Below.more BW b3⟩
theorem print_m(n d:ByteArray)(w:World){k:Nat}{A z q r:ByteArray}{R:List UInt8}(hg:Hid (GoodD w))(za:A.size≤4000)(zz:z.size≤20000)(zq:R.length≤60000)
  (CM:Hid (∀w,Calls Tryz.prog 59 #[.agg #[.string n,.string d]] w (GiveB w true)))
  (CP:Hid (∀w,GoodD w→Calls Tryz.prog 60 #[.string d] w (GiveIB w ((k:Int),true))))
  (CC:Hid (∀w,Calls Tryz.prog 61 #[.string n,.string ⟨#[45]⟩] w fun e w'=>e=.returned (.tuple #[.string A,.bool true])∧w=w'))
  (CZ:Hid (∀w,Calls Tryz.prog 63 #[.string ⟨#[48]⟩,.int .i64 (k:Int)] w fun e w'=>e=.returned (.string z)∧Below w.heap.size w w'))
  (CD:Hid (∀w,Calls Tryz.prog 62 #[.string (A++z),.string d] w fun e w'=>e=.returned (.tuple #[.string q,.string r,.bool true])∧Below w.heap.size w w'))
  (CQ:Hid (∀w,Calls Tryz.prog 64 #[.string q,.int .i64 (k:Int)] w (GiveS w R))) :
  Calls Tryz.prog 37 #[.agg #[.string n,.string d]] w (GiveS w (45::R)):=by
 have hx1:¬9223372036854775807<A.size+z.size:=by omega
 go_enter Tryz.func37,Tryz.ntmps37;go_wp2_with fail;obtain⟨W,hW,BW,sW,k0,k1⟩:=box1 w (.string n) (.string d) 23;have hB:=zh (Nat.le_refl W.heap.size);rw[hW];clear hW;have b0:=Below.refl W.heap.size W;go_wp2_with fail;refine(CM.out _).mono ?_;rintro e w1 ⟨rfl,b⟩;have b1:=Below.more b0 b;clear b;go_wp2_with fail;refine(CP.out _ (hg.out.below (Below.more BW b1))).mono ?_;rintro e w2 ⟨rfl,b⟩;have b2:=Below.more b1 b;clear b;go_wp2_with fail;refine(CC.out _).mono ?_;rintro e w' ⟨rfl,rfl⟩;go_wp2_with fail
 first|(go_region_held3 (fun w'=>Below W.heap.size W w')
     (first|(exact b2.drew)|(with_reducible assumption)|(exact Below.alloc (by with_reducible assumption) (Nat.le_trans hB.out (Below.size (by with_reducible assumption))) _)|(exact put2 (by with_reducible assumption) (Nat.le_refl _) _ _)|(exact put2 (by with_reducible assumption) hB.out _ _)|(exact put2 (by with_reducible assumption) (Nat.le_trans hB.out (Below.size (by with_reducible assumption))) _ _))
     (first|(go_at_call 63;(with_reducible refine(held (W:=W) hB.out (CZ.out _) (by assumption)).mono ?_);rintro e w'' ⟨rfl,hb,hw⟩;(first|(have hz:=zc_made0 hb)|(have hz:=zc_made hb)|skip);(try have hz:=Zc.below (by assumption) hb);(try (have z0:=hz.c0;have z1:=hz.c1;have z2:=hz.f0;have z3:=hz.f1)))|(go_at_call 62;(with_reducible refine(held (W:=W) hB.out (CD.out _) (by assumption)).mono ?_);rintro e w'' ⟨rfl,hb,hw⟩;(first|(have hz:=zc_made0 hb)|(have hz:=zc_made hb)|skip);(try have hz:=Zc.below (by assumption) hb);(try (have z0:=hz.c0;have z1:=hz.c1;have z2:=hz.f0;have z3:=hz.f1)))))|fail
 all_goals (go_wp2_with fail)
 all_goals (refine(CQ.out _).mono ?_;rintro e w9 ⟨rfl,b9⟩)
 all_goals (have b3:=Below.more (by with_reducible assumption) b9;clear b9)
 all_goals
  have zR:(⟨R.toArray⟩:ByteArray).size=R.length:=size_of R;have hr:(⟨#[45]⟩:ByteArray)++⟨R.toArray⟩=⟨(45::R).toArray⟩:=bytes_eq (by rw[ba_append];rfl);have HR:=zh hr;clear hr;generalize hq:(⟨R.toArray⟩:ByteArray)=Q at *;have hx2:¬9223372036854775807<1+Q.size:=by omega
  have HQ:=zh hq;clear hq;go_wp2_with fail;go_ret;exact⟨ret_str HR.out,Below.more BW b3⟩
theorem print_some(n d:ByteArray)(w:World)(hn:n.size≤4000)(hd:d.size≤4000)(hg:GoodD w)(h:isR (n.data.toList,d.data.toList)=true){k:Nat}(hp:plc (valR (n.data.toList,d.data.toList)).den=some k) :
  Calls Tryz.prog 37 #[.agg #[.string n,.string d]] w (GiveS w (prS (n.data.toList,d.data.toList))):=by
 have cm:=fun w=>qmay_any n d w (by omega) (by omega);rw[h]at cm;have cp:=fun w hg=>den_places h hd w hg;rw[hp]at cp;have cp:∀w,GoodD w→Calls Tryz.prog 60 #[.string d] w (GiveIB w ((k:Int),true)):=cp;have hden:(dig (valR (n.data.toList,d.data.toList)).den).length≤4000:=by rw[←(isR_den h).1];exact hd
 have hnum:(wd (valR (n.data.toList,d.data.toList)).num).length≤4000:=by rw[←(isR_den h).2];exact hn
 have hkb:k<16000:=by
  have h1:=plc_bound (Nat.pos_of_ne_zero (valR (n.data.toList,d.data.toList)).den_nz) hp (by have:=valS_lt (dig_all (valR (n.data.toList,d.data.toList)).den);rw[valS_dig]at this;exact this);omega
 have hu:unD n.data.toList=(decide ((valR (n.data.toList,d.data.toList)).num<0),dig (valR (n.data.toList,d.data.toList)).num.natAbs):=by
  have e:=(isR_den h).2;have e:n.data.toList=wd (valR (n.data.toList,d.data.toList)).num:=e
  conv=>lhs;rw[e]
  exact un_wd _
 have cc:=fun w=>cutP_any n w hu;have hA:=nat_wd_len (valR (n.data.toList,d.data.toList)).num;have ed:d=⟨(dig (valR (n.data.toList,d.data.toList)).den).toArray⟩:=bytes_eq (isR_den h).1;have et:=num_tens hp;have eq:=tens_div hp;rw[prS_yes h,prD_body hp];have hq0:(valR (n.data.toList,d.data.toList)).den≠0:=(valR (n.data.toList,d.data.toList)).den_nz;have hql:(dig ((valR (n.data.toList,d.data.toList)).num.natAbs*(10 ^ k / (valR (n.data.toList,d.data.toList)).den))).length≤25000:=by
  rcases Nat.eq_zero_or_pos k with h0|h0
  ·subst h0;have e1:(valR (n.data.toList,d.data.toList)).den=1:=Nat.dvd_one.1 (by have:=den_divides hp;rwa[Nat.pow_zero]at this);rw[e1,Nat.pow_zero,Nat.div_one,Nat.mul_one];omega
  ·have h1:=prod_len (a:=(valR (n.data.toList,d.data.toList)).num.natAbs) h0 (Nat.div_le_self (10 ^ k) (valR (n.data.toList,d.data.toList)).den);omega
 generalize (valR (n.data.toList,d.data.toList)).num=N at *;generalize (valR (n.data.toList,d.data.toList)).den=D at *;rw[←eq]at hql ⊢;have cz:∀w,Calls Tryz.prog 63 #[.string ⟨#[48]⟩,.int .i64 (k:Int)] w fun e w'=>e=.returned (.string ⟨(List.replicate k 48).toArray⟩)∧Below w.heap.size w w':=fun w=>repeat_any k w (by omega);have ea:(⟨(dig N.natAbs).toArray⟩:ByteArray)++⟨(List.replicate k 48).toArray⟩=⟨(dig (N.natAbs*10 ^ k)).toArray⟩:=bytes_eq (by rw[ba_append];exact et);have hal:(dig (N.natAbs*10 ^ k)).length≤25000:=by rw[←et,List.length_append,List.length_replicate];omega
 have cd:∀w,Calls Tryz.prog 62 #[.string ((⟨(dig N.natAbs).toArray⟩:ByteArray)++⟨(List.replicate k 48).toArray⟩),.string d] w fun e w'=>e=.returned (.tuple #[.string ⟨(dig (N.natAbs*10 ^ k / D)).toArray⟩,.string ⟨(dig (N.natAbs*10 ^ k % D)).toArray⟩,.bool true])∧Below w.heap.size w w':=fun w=>by
  rw[ea,ed];have c:=div_any ⟨(dig (N.natAbs*10 ^ k)).toArray⟩ ⟨(dig D).toArray⟩ w (by rw[size_of];omega) (by rw[size_of];omega);have e:divS (⟨(dig (N.natAbs*10 ^ k)).toArray⟩:ByteArray).data.toList (⟨(dig D).toArray⟩:ByteArray).data.toList=(dig (N.natAbs*10 ^ k / D),dig (N.natAbs*10 ^ k % D),true):=by
   show divS (dig _) (dig _)=_;unfold divS;rw[isNat_dig,isNat_dig,valS_dig,valS_dig,decide_eq_true (by omega)];rfl
  rw[e]at c;exact c
 have cq:=fun w=>pointed_any ⟨(dig (N.natAbs*10 ^ k / D)).toArray⟩ k w (by rw[size_of];omega) (by omega);have cq:∀w,Calls Tryz.prog 64 #[.string ⟨(dig (N.natAbs*10 ^ k / D)).toArray⟩,.int .i64 (k:Int)] w (GiveS w (bodyD k (dig (N.natAbs*10 ^ k / D)))):=cq;have hbl:=body_len (k:=k) (l:=dig (N.natAbs*10 ^ k / D));have zA:(⟨(dig N.natAbs).toArray⟩:ByteArray).size≤4000:=by rw[size_of];omega
 have zz:(⟨(List.replicate k 48).toArray⟩:ByteArray).size≤20000:=by rw[size_of,List.length_replicate];omega
 clear ea ed et eq hu hal
 cases hs:decide (N<0) with
 | false =>
  rw[hs]at cc;exact print_p n d w (R:=bodyD k (dig (N.natAbs*10 ^ k / D))) (zh hg) zA zz (by omega) (zh cm) (zh cp) (zh cc) (zh cz) (zh cd) (zh cq)
 | true =>
  rw[hs]at cc;exact print_m n d w (R:=bodyD k (dig (N.natAbs*10 ^ k / D))) (zh hg) zA zz (by omega) (zh cm) (zh cp) (zh cc) (zh cz) (zh cd) (zh cq)
theorem print_any(n d:ByteArray)(w:World)(hn:n.size≤4000)(hd:d.size≤4000)(hg:GoodD w) :
  Calls Tryz.prog 37 #[.agg #[.string n,.string d]] w (GiveS w (prS (n.data.toList,d.data.toList))):=by
 cases h:isR (n.data.toList,d.data.toList) with
 | false=>exact print_no n d w hn hd h
 | true=>cases hp:plc (valR (n.data.toList,d.data.toList)).den with
  | none=>exact print_none n d w hn hd hg h hp
  | some k=>exact print_some n d w hn hd hg h hp
end Go.Proofs.YtcebkcilkhebeaaGreatDoor
