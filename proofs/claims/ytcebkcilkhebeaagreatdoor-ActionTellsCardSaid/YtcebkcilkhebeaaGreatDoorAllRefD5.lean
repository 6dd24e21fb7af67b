/- Own work. -/
import Derived.Test.YtcebkcilkhebeaaGreatDoorAllRefD4M
set_option maxHeartbeats 4000000
set_option maxRecDepth 100000
namespace Go.Proofs.YtcebkcilkhebeaaGreatDoor
open Go.RowKit
theorem pad_text(k N:Nat):((⟨(zerS (max ((k:Int)+1-((dig N).length:Int)) 0)).toArray⟩:ByteArray)++⟨(dig N).toArray⟩).data.toList=padD (k+1) (dig N):=by
 rw[ba_append];show zerS _++dig N=_;unfold zerS padD;rw[show (max ((k:Int)+1-((dig N).length:Int)) 0).toNat=k+1-(dig N).length from by omega]
theorem nat_wd_len(z:Int):(dig z.natAbs).length≤(wd z).length:=by
 unfold wd;split
 ·rw[List.length_cons];omega
 ·exact Nat.le_refl _
theorem prod_len{a q k:Nat}(hk:0<k)(hq:q≤10 ^ k):(dig (a*q)).length≤(dig a).length+k:=by
 have h1:=valS_lt (dig_all a);rw[valS_dig]at h1;refine dig_length (by omega) ?_;rw[Nat.pow_add];exact Nat.mul_lt_mul_of_lt_of_le h1 hq (Nat.pow_pos (by decide))
theorem zer_size(k:Nat):(⟨(zerS (k:Int)).toArray⟩:ByteArray).size=k:=by
 rw[size_of];unfold zerS;rw[List.length_replicate,Int.toNat_natCast]
theorem zer_size'(x:Int):(⟨(zerS x).toArray⟩:ByteArray).size=x.toNat:=by
 rw[size_of];unfold zerS;rw[List.length_replicate]
theorem pt_text{S sg:ByteArray}{b:Bool}{k M:Nat}{l:List UInt8}(hs:S.data.toList=l)(hm:S.size=M+k)(hb:sg.data.toList=sgnD b []) :
  sg++S.extract 0 M++(⟨#[46]⟩:ByteArray)++S.extract M S.size=⟨(sgnD b (ptD k l)).toArray⟩:=by
 refine bytes_eq ?_;rw[ba_append,ba_append,ba_append,Lib.extract_data,Lib.extract_data,hs,hb];have hl:l.length=M+k:=by rw[←hs];exact hm
 have h1:(l.drop M).take (S.size-M)=l.drop M:=List.take_of_length_le (by rw[List.length_drop];omega);rw[h1];show sgnD b []++(l.drop 0).take (M-0)++[46]++l.drop M=sgnD b (l.take (l.length-k)++46::l.drop (l.length-k));rw[show l.length-k=M from by omega,List.drop_zero,Nat.sub_zero,List.append_assoc,List.append_assoc]
 cases b<;>rfl
theorem rdprint_some(n d:ByteArray)(w:World)(hn:n.size≤4000)(hd:d.size≤4000)(h:isR (n.data.toList,d.data.toList)=true){k:Nat}(hk:k≠0)(hp:plc (valR (n.data.toList,d.data.toList)).den=some k) :
  Calls Tryz.prog 40 #[.agg #[.string n,.string d]] w (GiveS w (prS (n.data.toList,d.data.toList))):=by
 have cm:=fun w=>rqmay_any n d w (by omega) (by omega);have cp:=fun w=>rdplaces_any n d w (by omega) (by omega);have cs:=fun w=>rqsign_any n d w (by omega) (by omega);rw[h]at cm;rw[pl_den h,hp]at cp;have cp:∀w,Calls Tryz.prog 68 #[.agg #[.string n,.string d]] w (GiveIB w ((k:Int),true)):=cp;have hden:(dig (valR (n.data.toList,d.data.toList)).den).length≤4000:=by rw[←(isR_den h).1];exact hd
 have hnum:(wd (valR (n.data.toList,d.data.toList)).num).length≤4000:=by rw[←(isR_den h).2];exact hn
 have hkb:k<16000:=by
  have h1:=plc_bound (Nat.pos_of_ne_zero (valR (n.data.toList,d.data.toList)).den_nz) hp (by have:=valS_lt (dig_all (valR (n.data.toList,d.data.toList)).den);rw[valS_dig]at this;exact this);omega
 have hts:=ten_text k;have htz:((⟨#[49]⟩:ByteArray)++⟨(zerS (k:Int)).toArray⟩).size=k+1:=by
  rw[←size_toList,ba_append,List.length_append];show 1+(zerS (k:Int)).length=_;unfold zerS;rw[List.length_replicate,Int.toNat_natCast];omega
 have cz:∀w,Calls Tryz.prog 51 #[.int .i64 (k:Int)] w (GiveS w (zerS (k:Int))):=fun w=>calm (rdzeros_any k w (by omega) (by omega));have cy:=fun w=>rqmul_any n d ((⟨#[49]⟩:ByteArray)++⟨(zerS (k:Int)).toArray⟩) ⟨#[49]⟩ w (by omega) (by omega) (by omega) (by decide);rw[hts]at cy;have cx:∀w,Calls Tryz.prog 69 _ w (GiveR w _):=fun w=>(mul_ten_text h hp)▸cy w;clear cy;have hq:(dig ((valR (n.data.toList,d.data.toList)).num.natAbs*(10 ^ k / (valR (n.data.toList,d.data.toList)).den))).length≤20000:=by
  have h1:=prod_len (a:=(valR (n.data.toList,d.data.toList)).num.natAbs) (Nat.pos_of_ne_zero hk) (Nat.div_le_self (10 ^ k) (valR (n.data.toList,d.data.toList)).den);have h2:=nat_wd_len (valR (n.data.toList,d.data.toList)).num;omega
 have ez:((valR (n.data.toList,d.data.toList)).num*((10 ^ k / (valR (n.data.toList,d.data.toList)).den:Nat):Int)).natAbs=(valR (n.data.toList,d.data.toList)).num.natAbs*(10 ^ k / (valR (n.data.toList,d.data.toList)).den):=by
  rw[Int.natAbs_mul,Int.natAbs_natCast]
 have hr:prS (n.data.toList,d.data.toList)=sgnD (decide (sgnR (n.data.toList,d.data.toList)<0)) (ptD k (padD (k+1) (dig ((valR (n.data.toList,d.data.toList)).num.natAbs*(10 ^ k / (valR (n.data.toList,d.data.toList)).den))))):=by
  rw[prS_yes h,prD_some hp hk,decide_eq_decide.2 (sgn_lt h)]
 rw[hr];generalize hZ:(valR (n.data.toList,d.data.toList)).num*((10 ^ k / (valR (n.data.toList,d.data.toList)).den:Nat):Int)=Z at *;rw[←ez]at hq ⊢;generalize sgnR (n.data.toList,d.data.toList)=g at *;clear hr hts h hden hnum hZ ez hp;have hw:=wd_length Z;have ca:∀w,Calls Tryz.prog 70 #[.string ⟨(wd Z).toArray⟩] w (fun e w'=>e=.returned (.string ⟨(dig Z.natAbs).toArray⟩)∧Below w.heap.size w w'):=fun w=>by
  have c:=calm (rwabs_any ⟨(wd Z).toArray⟩ w (by rw[size_of];omega));have e:absW (⟨(wd Z).toArray⟩:ByteArray).data.toList=dig Z.natAbs:=abs_wd Z;rw[e]at c;exact c
 have hS:=size_dig Z.natAbs;have hP:=pad_text k Z.natAbs;rw[←hS]at hP;have cy:∀w,Calls Tryz.prog 51 #[.int .i64 (max ((k:Int)+1-((⟨(dig Z.natAbs).toArray⟩:ByteArray).size:Int)) 0)] w (GiveS w (zerS (max ((k:Int)+1-((⟨(dig Z.natAbs).toArray⟩:ByteArray).size:Int)) 0))):=fun w=>calm (rdzeros_any _ w (by omega) (by omega));have zk:=zer_size k;have hk':¬(k:Int)=0:=by omega
 have hx1:¬9223372036854775807<1+k:=by omega
 generalize (⟨(dig Z.natAbs).toArray⟩:ByteArray)=S at *;have hSs:S.size≤20000:=by rw[hS];exact hq
 have CM:=zh cm;have CP:=zh cp;have CS:=zh cs;have CZ:=zh cz;have CX:=zh cx;have CA:=zh ca;have CY:=zh cy;have HP:=zh hP;have HW:=zh hw;have HQ:=zh hq;clear cm cp cs cz cx ca cy hP hw hq hS;go_enter Tryz.func40,Tryz.ntmps40;go_wp2_with fail;obtain⟨W,hW,BW,sW,k0,k1⟩:=box1 w (.string n) (.string d) 23;have hB:=zh (Nat.le_refl W.heap.size);rw[hW];clear hW;have b0:=Below.refl W.heap.size W;refine(CM.out _).mono ?_;rintro e w1 ⟨rfl,b⟩;have b1:=Below.more b0 b;clear b;go_wp2_with fail;refine(CP.out _).mono ?_;rintro e w2 ⟨rfl,b⟩;have b2:=Below.more b1 b;clear b;go_wp2_with fail
 first|(go_region_held3 (fun w'=>Below W.heap.size W w')
     (first|(exact b2.drew)|(with_reducible assumption)|(exact Below.alloc (by with_reducible assumption) (Nat.le_trans hB.out (Below.size (by with_reducible assumption))) _)|(exact put2 (by with_reducible assumption) (Nat.le_refl _) _ _)|(exact put2 (by with_reducible assumption) hB.out _ _)|(exact put2 (by with_reducible assumption) (Nat.le_trans hB.out (Below.size (by with_reducible assumption))) _ _))
     (first|(go_at_call 51;(with_reducible refine(held (W:=W) hB.out (CZ.out _) (by assumption)).mono ?_);rintro e w'' ⟨rfl,hb,hw⟩;(first|(have hz:=zc_made0 hb)|(have hz:=zc_made hb)|skip);(try have hz:=Zc.below (by assumption) hb);(try (have z0:=hz.c0;have z1:=hz.c1;have z2:=hz.f0;have z3:=hz.f1)))|(go_at_call 69;(with_reducible refine(held (W:=W) hB.out (CX.out _) (by assumption)).mono ?_);rintro e w'' ⟨rfl,hb,hw⟩;(first|(have hz:=zc_made0 hb)|(have hz:=zc_made hb)|skip);(try have hz:=Zc.below (by assumption) hb);(try (have z0:=hz.c0;have z1:=hz.c1;have z2:=hz.f0;have z3:=hz.f1)))))|fail
 all_goals (go_wp2_with fail)
 all_goals (refine(CA.out _).mono ?_;rintro e w9 ⟨rfl,b9⟩)
 all_goals (have b3:=Below.more (by with_reducible assumption) b9;clear b9)
 all_goals
  go_wp2_with fail;refine(CY.out _).mono ?_;rintro e w10 ⟨rfl,b10⟩;have b4:=Below.more b3 b10;clear b10;have hx2:¬9223372036854775807<(⟨(zerS (max ((k:Int)+1-(S.size:Int)) 0)).toArray⟩:ByteArray).size+S.size:=by rw[zer_size'];omega
  go_wp2_with fail;refine(CS.out _).mono ?_;rintro e w11 ⟨rfl,b11⟩;have b5:=Below.more b4 b11;clear b11;clear hx2;have hM:∃M,((⟨(zerS (max ((k:Int)+1-(S.size:Int)) 0)).toArray⟩:ByteArray)++S).size=M+k∧M≤40000:=by
   have h1:=congrArg List.length HP.out;rw[size_toList]at h1;have h2:(padD (k+1) (dig Z.natAbs)).length=k+1-(dig Z.natAbs).length+(dig Z.natAbs).length:=by
    unfold padD;rw[List.length_append,List.length_replicate]
   have h3:=HQ.out;exact⟨k+1-(dig Z.natAbs).length+(dig Z.natAbs).length-k,by omega,by omega⟩
  obtain⟨M,hm,hM⟩:=hM;clear b0 b1 b2 b3 b4;generalize (⟨(zerS (max ((k:Int)+1-(S.size:Int)) 0)).toArray⟩:ByteArray)++S=T at *;have hr:=fun sg hb=>pt_text (S:=T) (sg:=sg) (b:=decide (g<0)) HP.out hm hb;have HR:=zh hr;clear hr;by_cases hg:g<0
  ·go_wp2_with fail
   go_quiet (fail)
   go_wp2_with fail;go_ret;exact⟨ret_str (by have:=HR.out ⟨#[45]⟩ (by rw[decide_eq_true hg];rfl);rw[hm]at this;exact this),Below.drewN (Below.more BW (by with_reducible assumption)) _⟩
  ·go_wp2_with fail
   go_quiet (fail)
   go_wp2_with fail;go_ret;exact⟨ret_str (by have:=HR.out ⟨#[]⟩ (by rw[decide_eq_false (by omega)];rfl);rw[hm]at this;first|exact this|simpa using this),Below.drewN (Below.more BW (by with_reducible assumption)) _⟩
theorem rdprint_any(n d:ByteArray)(w:World)(hn:n.size≤4000)(hd:d.size≤4000) :
  Calls Tryz.prog 40 #[.agg #[.string n,.string d]] w (GiveS w (prS (n.data.toList,d.data.toList))):=by
 cases h:isR (n.data.toList,d.data.toList) with
 | false=>exact rdprint_no n d w hn hd h
 | true=>cases hp:plc (valR (n.data.toList,d.data.toList)).den with
  | none=>exact rdprint_none n d w hn hd h hp
  | some k =>
        by_cases hk:k=0
        ·rw[hk]at hp;exact rdprint_zero n d w hn hd h hp
        ·exact rdprint_some n d w hn hd h hk hp
end Go.Proofs.YtcebkcilkhebeaaGreatDoor
