/- Own work. -/
import Derived.Test.YtcebkcilkhebeaaGreatDoorAllRefDM
set_option maxHeartbeats 2000000
set_option maxRecDepth 100000
namespace Go.Proofs.YtcebkcilkhebeaaGreatDoor
open Go.RowKit
def plR:Option Nat→Int×Bool
 | some k=>((k:Int),true)
 | none=>(0,false)
def plS(p:List UInt8×List UInt8):Int×Bool:=if isR p then plR (plc (valS p.2)) else (0,false)
theorem plS_no{p:List UInt8×List UInt8}(h:isR p=false):plS p=(0,false):=by unfold plS;rw[h];rfl
theorem plS_yes{p:List UInt8×List UInt8}(h:isR p=true):plS p=plR (plc (valS p.2)):=by unfold plS;rw[h];rfl
theorem two_bound{d t D L:Nat}(h0:0<d)(h:d*2 ^ t≤D)(hD:D<10 ^ L):t<4*L:=by
 have h1:2 ^ t≤d*2 ^ t:=Nat.le_mul_of_pos_left _ h0;have h2:(10:Nat) ^ L≤16 ^ L:=Nat.pow_le_pow_left (by decide) L;have h3:(16:Nat) ^ L=2 ^ (4*L):=by rw[Nat.pow_mul]
 rw[h3]at h2;exact(Nat.pow_lt_pow_iff_right (a:=2) (by decide)).1 (by omega)
theorem half_step{d t D:Nat}(h:d*2 ^ t≤D):d / 2*2 ^ (t+1)≤D:=by
 refine Nat.le_trans ?_ h;rw[Nat.pow_succ,Nat.mul_comm (2 ^ t),← Nat.mul_assoc];exact Nat.mul_le_mul_right _ (by omega)
theorem fifth_step{d t D:Nat}(h:d*2 ^ t≤D):d / 5*2 ^ (t+1)≤D:=by
 refine Nat.le_trans ?_ h;rw[Nat.pow_succ,Nat.mul_comm (2 ^ t),← Nat.mul_assoc];exact Nat.mul_le_mul_right _ (by omega)
theorem dig_one:dig 1=[49]:=by rw[dig_small (by decide)];rfl
theorem dig_nil:dig 0=[48]:=by rw[dig_small (by decide)];rfl
theorem dig_two:(⟨#[50]⟩:ByteArray).data.toList=dig 2:=by rw[dig_small (by decide)];rfl
theorem dig_five:(⟨#[53]⟩:ByteArray).data.toList=dig 5:=by rw[dig_small (by decide)];rfl
theorem dig_ne49{n:Nat}(h:n≠1):dig n≠[49]:=fun e=>h (by
 have:=congrArg valS e;rw[valS_dig]at this;exact this)
theorem rd_div{d r k:Nat}{b:ByteArray}(hl:(dig d).length≤100000)(hb:b.data.toList=dig k)(h0:0<k)(hr:d % k=r)(hs:b.size≤10)(w:World) :
  Calls Tryz.prog 103 #[.string ⟨(dig d).toArray⟩,.string b] w (GiveSSB w (dig (d / k),dig r,true)):=by
 have c:=rdiv_any ⟨(dig d).toArray⟩ b w (by rw[size_dig];omega) (by omega);have e:divS (⟨(dig d).toArray⟩:ByteArray).data.toList b.data.toList=(dig (d / k),dig r,true):=by
  show divS (dig d) _=_;rw[hb];unfold divS;rw[isNat_dig,isNat_dig,valS_dig,valS_dig,decide_eq_true h0,hr];rfl
 rw[e]at c;exact c
theorem rdplaces_any(n d:ByteArray)(w:World)(hn:n.size≤100000)(hd:d.size≤100000) :
  Calls Tryz.prog 68 #[.agg #[.string n,.string d]] w (GiveIB w (plS (n.data.toList,d.data.toList))):=by
 have cm:=fun w=>rqmay_any n d w hn hd
 cases h:isR (n.data.toList,d.data.toList) with
 | false =>
  rw[h]at cm;rw[plS_no h];clear h hn hd;have CM:=zh cm;clear cm;go_enter Tryz.func68,Tryz.ntmps68;go_wp2_with fail;obtain⟨W,hW,BW,sW,k0,k1⟩:=box1 w (.string n) (.string d) 23;have hB:=zh (Nat.le_refl W.heap.size);rw[hW];clear hW;have b0:=Below.refl W.heap.size W;refine(CM.out _).mono ?_;rintro e w1 ⟨rfl,b⟩;have b1:=Below.more b0 b;clear b;go_wp2_with fail;refine bodyPost_ret (v:=.tuple #[.int .i64 0,.bool false]) (by simp[results,Tryz.results68,go_sem, *]) rfl ?_;exact⟨rfl,Below.more BW b1⟩
 | true =>
  rw[h]at cm;rw[plS_yes h];obtain⟨_,hN,hz,_⟩:=isR_parts h;have hN:isNat d.data.toList=true:=hN;have hz:valS d.data.toList≠0:=hz;show Calls _ _ _ _ (GiveIB w (plR (plc (valS d.data.toList))));have hl:=dig_len hN;have hsd:=str_dig hN;generalize valS d.data.toList=D at *;have HN:=zh (show 0<D∧(dig D).length≤100000 from ⟨by omega,by rw[hl];exact hd⟩);clear hl h hN hz hn hd;subst hsd;have CM:=zh cm;clear cm;go_enter Tryz.func68,Tryz.ntmps68;go_wp2_with fail;obtain⟨W,hW,BW,sW,k0,k1⟩:=box1 w (.string n) (.string ⟨(dig D).toArray⟩) 23;have hB:=zh (Nat.le_refl W.heap.size);rw[hW];clear hW;have b0:=Below.refl W.heap.size W;refine(CM.out _).mono ?_;rintro e w1 ⟨rfl,b⟩;have b1:=Below.more b0 b;clear b;go_wp2_with fail;have B1:=Below.more BW b1;clear k0 k1 sW hB b0 b1 CM BW;have hbd:∀d t f:Nat,0<d→d*2 ^ (t+f)≤D→t+f<400000:=fun d t f h0 h=>by
   have h1:=two_bound h0 h (by have:=valS_lt (dig_all D);rw[valS_dig]at this;exact this);have:=HN.out.2;omega
  have HBD:=zh hbd;clear hbd
  go_loopw [4,5,6] (fun a b c V=>∃d t f:Nat,a=.string ⟨(dig d).toArray⟩∧b=.int .i64 t∧c=.int .i64 f∧Hid (0<d∧(dig d).length≤100000∧d*2 ^ (t+f)≤D∧plcS d t f=plc D)∧Below w.heap.size w V) (fun a _ _ _=>numOf a)
  case atStart=>exact⟨D,0,0,rfl,rfl,rfl,⟨HN.out.1,HN.out.2,by omega,plcS_start D⟩,B1⟩
  case round =>
   obtain⟨d,t,f,rfl,rfl,rfl,HG,hbw⟩:=hrel;have hB:=HBD.out d t f HG.out.1 HG.out.2.2.1;by_cases h1:d=1
   ·subst h1;have hp:plR (plc D)=(max (t:Int) f,true):=by
     rw[←HG.out.2.2.2,plcS_one];show (((max t f:Nat):Int),true)=_;rw[show ((max t f:Nat):Int)=max (t:Int) f from by omega]
    by_cases hm:t<f
    ·have hx:max (t:Int) f=f:=by omega
     have hm':(t:Int)<(f:Int):=by omega
     rw[hx]at hp;have HP:=zh hp;clear hp;have e2:=dig_one
     go_wp2
     refine bodyPost_ret (v:=.tuple #[.int .i64 f,.bool true]) (by simp[results,Tryz.results68,go_sem, *]) rfl ?_;exact⟨by rw[HP.out],hbw⟩
    ·have hx:max (t:Int) f=t:=by omega
     have hm':¬(t:Int)<(f:Int):=by omega
     rw[hx]at hp;have HP:=zh hp;clear hp;have e2:=dig_one
     go_wp2
     refine bodyPost_ret (v:=.tuple #[.int .i64 t,.bool true]) (by simp[results,Tryz.results68,go_sem, *]) rfl ?_;exact⟨by rw[HP.out],hbw⟩
   ·have e2:=dig_ne49 h1;have e1:(dig d == [49])=false:=beq_false_of_ne e2;have e0:=dig_nil;have H1:=zh h1;by_cases r2:d % 2=0
    ·have c2:=fun w=>rd_div (k:=2) (b:=⟨#[50]⟩) HG.out.2.1 dig_two (by decide) r2 (by decide) w;have c5:=fun w=>rd_div (k:=5) (b:=⟨#[53]⟩) HG.out.2.1 dig_five (by decide) rfl (by decide) w;have HR2:=zh r2;clear r2;have C2:=zh c2;have C5:=zh c5
     clear c2 c5 h1;go_wp2_with fail;refine(C2.out _).mono ?_;rintro e w2 ⟨rfl,hb2⟩;go_wp2_with fail;refine(C5.out _).mono ?_;rintro e w3 ⟨rfl,hb3⟩;go_wp2_with fail;go_roundw
     case rel =>
      have g0:0<d / 2:=by have:=HG.out.1;have:=HR2.out;omega
      exact⟨d / 2,t+1,f,rfl,by go_num,rfl,⟨g0,Nat.le_trans (dig_len_le (Nat.div_le_self d 2)) HG.out.2.1,by rw[Nat.add_right_comm];exact half_step HG.out.2.2.1,by rw[plcS_two HG.out.1 HR2.out];exact HG.out.2.2.2⟩,(hbw.trans (hb2.mono hbw.size)).trans (hb3.mono (hbw.trans (hb2.mono hbw.size)).size)⟩
     case measure=>show numOf (.string ⟨(dig (d / 2)).toArray⟩)<numOf (.string ⟨(dig d).toArray⟩);rw[numOf_dig,numOf_dig];exact Nat.div_lt_self HG.out.1 (by decide)
    ·by_cases r5:d % 5=0
     ·have c2:=fun w=>rd_div (k:=2) (b:=⟨#[50]⟩) HG.out.2.1 dig_two (by decide) (show d % 2=1 by omega) (by decide) w;have c5:=fun w=>rd_div (k:=5) (b:=⟨#[53]⟩) HG.out.2.1 dig_five (by decide) r5 (by decide) w;have HR2:=zh r2;have HR5:=zh r5
      clear r2 r5;have C2:=zh c2;have C5:=zh c5
      have eo:=dig_one;clear c2 c5 h1;go_wp2_with fail;refine(C2.out _).mono ?_;rintro e w2 ⟨rfl,hb2⟩;go_wp2_with fail;refine(C5.out _).mono ?_;rintro e w3 ⟨rfl,hb3⟩;go_wp2_with fail;go_roundw
      case rel =>
       have g0:0<d / 5:=by have:=HG.out.1;have:=HR5.out;omega
       exact⟨d / 5,t,f+1,rfl,rfl,by go_num,⟨g0,Nat.le_trans (dig_len_le (Nat.div_le_self d 5)) HG.out.2.1,fifth_step HG.out.2.2.1,by rw[plcS_five HG.out.1 HR2.out HR5.out];exact HG.out.2.2.2⟩,(hbw.trans (hb2.mono hbw.size)).trans (hb3.mono (hbw.trans (hb2.mono hbw.size)).size)⟩
      case measure=>show numOf (.string ⟨(dig (d / 5)).toArray⟩)<numOf (.string ⟨(dig d).toArray⟩);rw[numOf_dig,numOf_dig];exact Nat.div_lt_self HG.out.1 (by decide)
     ·have hp:plR (plc D)=(0,false):=by rw[←HG.out.2.2.2,plcS_none h1 r2 r5];rfl
      have HP:=zh hp;clear hp;have c2:=fun w=>rd_div (k:=2) (b:=⟨#[50]⟩) HG.out.2.1 dig_two (by decide) (show d % 2=1 by omega) (by decide) w;have c5:=fun w=>rd_div (k:=5) (b:=⟨#[53]⟩) HG.out.2.1 dig_five (by decide) rfl (by decide) w;have e5:=dig_ne48 r5;have e6:=dig_neB r5;clear r2 r5;have C2:=zh c2;have C5:=zh c5
      have eo:=dig_one;clear c2 c5 h1;go_wp2_with fail;refine(C2.out _).mono ?_;rintro e w2 ⟨rfl,hb2⟩;go_wp2_with fail;refine(C5.out _).mono ?_;rintro e w3 ⟨rfl,hb3⟩;go_wp2_with fail;refine bodyPost_ret (v:=.tuple #[.int .i64 0,.bool false]) (by simp[results,Tryz.results68,go_sem, *]) rfl ?_;exact⟨by rw[HP.out],(hbw.trans (hb2.mono hbw.size)).trans (hb3.mono (hbw.trans (hb2.mono hbw.size)).size)⟩
end Go.Proofs.YtcebkcilkhebeaaGreatDoor
set_option maxHeartbeats 2000000
set_option maxRecDepth 100000
namespace Go.Proofs.YtcebkcilkhebeaaGreatDoor
open Go.RowKit
def prS(p:List UInt8×List UInt8):List UInt8:=if isR p then prD (valR p) else []
theorem prS_no{p:List UInt8×List UInt8}(h:isR p=false):prS p=[]:=by unfold prS;rw[h];rfl
theorem prS_yes{p:List UInt8×List UInt8}(h:isR p=true):prS p=prD (valR p):=by unfold prS;rw[h];rfl
theorem pl_den{p:List UInt8×List UInt8}(h:isR p=true):plS p=plR (plc (valR p).den):=by rw[plS_yes h,valR_den h]
theorem rdprint_no(n d:ByteArray)(w:World)(hn:n.size≤4000)(hd:d.size≤4000)(h:isR (n.data.toList,d.data.toList)=false) :
  Calls Tryz.prog 40 #[.agg #[.string n,.string d]] w (GiveS w (prS (n.data.toList,d.data.toList))):=by
 have cm:=fun w=>rqmay_any n d w (by omega) (by omega);rw[h]at cm;rw[prS_no h];clear h hn hd;have CM:=zh cm;clear cm;go_enter Tryz.func40,Tryz.ntmps40;go_wp2_with fail;obtain⟨W,hW,BW,sW,k0,k1⟩:=box1 w (.string n) (.string d) 23;have hB:=zh (Nat.le_refl W.heap.size);rw[hW];clear hW;have b0:=Below.refl W.heap.size W;refine(CM.out _).mono ?_;rintro e w1 ⟨rfl,b⟩;have b1:=Below.more b0 b;clear b;go_wp2_with fail;go_ret;exact⟨rfl,Below.more BW b1⟩
theorem rdprint_none(n d:ByteArray)(w:World)(hn:n.size≤4000)(hd:d.size≤4000)(h:isR (n.data.toList,d.data.toList)=true)(hp:plc (valR (n.data.toList,d.data.toList)).den=none) :
  Calls Tryz.prog 40 #[.agg #[.string n,.string d]] w (GiveS w (prS (n.data.toList,d.data.toList))):=by
 have cm:=fun w=>rqmay_any n d w (by omega) (by omega);have cp:=fun w=>rdplaces_any n d w (by omega) (by omega);rw[h]at cm;rw[pl_den h,hp]at cp;have hr:n++(⟨#[47]⟩:ByteArray)++d=⟨(prS (n.data.toList,d.data.toList)).toArray⟩:=bytes_eq (by
  rw[ba_append,ba_append,prS_yes h,prD_none hp,← (isR_den h).1,← (isR_den h).2,List.append_assoc]
  rfl)
 generalize prS (n.data.toList,d.data.toList)=R at *;clear h hp;have CM:=zh cm;have CP:=zh cp;have HR:=zh hr;clear cm cp hr;go_enter Tryz.func40,Tryz.ntmps40;go_wp2_with fail;obtain⟨W,hW,BW,sW,k0,k1⟩:=box1 w (.string n) (.string d) 23;have hB:=zh (Nat.le_refl W.heap.size);rw[hW];clear hW;have b0:=Below.refl W.heap.size W;refine(CM.out _).mono ?_;rintro e w1 ⟨rfl,b⟩;have b1:=Below.more b0 b;clear b;go_wp2_with fail;refine(CP.out _).mono ?_;rintro e w2 ⟨rfl,b⟩;have b2:=Below.more b1 b;clear b;go_wp2_with fail;go_ret;exact⟨ret_str HR.out,Below.more BW b2⟩
theorem rdprint_zero(n d:ByteArray)(w:World)(hn:n.size≤4000)(hd:d.size≤4000)(h:isR (n.data.toList,d.data.toList)=true)(hp:plc (valR (n.data.toList,d.data.toList)).den=some 0) :
  Calls Tryz.prog 40 #[.agg #[.string n,.string d]] w (GiveS w (prS (n.data.toList,d.data.toList))):=by
 have cm:=fun w=>rqmay_any n d w (by omega) (by omega);have cp:=fun w=>rdplaces_any n d w (by omega) (by omega);rw[h]at cm;rw[pl_den h,hp]at cp;have hr:n=⟨(prS (n.data.toList,d.data.toList)).toArray⟩:=bytes_eq (by
  rw[prS_yes h,prD_zero hp,← (isR_den h).2])
 generalize prS (n.data.toList,d.data.toList)=R at *;clear h hp;have CM:=zh cm;have CP:=zh cp;have HR:=zh hr;clear cm cp hr;go_enter Tryz.func40,Tryz.ntmps40;go_wp2_with fail;obtain⟨W,hW,BW,sW,k0,k1⟩:=box1 w (.string n) (.string d) 23;have hB:=zh (Nat.le_refl W.heap.size);rw[hW];clear hW;have b0:=Below.refl W.heap.size W;refine(CM.out _).mono ?_;rintro e w1 ⟨rfl,b⟩;have b1:=Below.more b0 b;clear b;go_wp2_with fail;refine(CP.out _).mono ?_;rintro e w2 ⟨rfl,b⟩;have b2:=Below.more b1 b;clear b;go_wp2_with fail;go_ret;exact⟨ret_str HR.out,Below.more BW b2⟩
end Go.Proofs.YtcebkcilkhebeaaGreatDoor
namespace Go.Proofs.YtcebkcilkhebeaaGreatDoor
open Go.RowKit
theorem plc_bound{d k L:Nat}(hd:0<d)(h:plc d=some k)(hL:d<10 ^ L):k<4*L:=by
 obtain⟨a,b,r,e,_,_,hr,hp⟩:=plc_parts d hd;rw[hp]at h;by_cases h1:r=1
 ·rw[if_pos h1]at h;have hk:max a b=k:=Option.some.inj h;have h2:0<2 ^ a:=Nat.pow_pos (by decide);have h5:0<5 ^ b:=Nat.pow_pos (by decide);have h6:(2:Nat) ^ b≤5 ^ b:=Nat.pow_le_pow_left (by decide) b;rw[h1,Nat.mul_one]at e;have ha:2 ^ a≤d:=by rw[e];exact Nat.le_mul_of_pos_right _ h5
  have hb:2 ^ b≤d:=by rw[e];exact Nat.le_trans h6 (Nat.le_mul_of_pos_left _ h2)
  have hm:1*2 ^ k≤d:=by
   rw[Nat.one_mul];rcases Nat.le_total a b with h|h
   ·rw[show k=b by omega];exact hb
   ·rw[show k=a by omega];exact ha
  exact two_bound (by decide) hm hL
 ·rw[if_neg h1]at h;cases h
theorem ten_text(k:Nat):((⟨#[49]⟩:ByteArray)++⟨(zerS (k:Int)).toArray⟩).data.toList=dig (10 ^ k):=by
 rw[ba_append,dig_ten];unfold zerS;rw[Int.toNat_natCast];rfl
theorem mul_ten_text{p:List UInt8×List UInt8}{k:Nat}(h:isR p=true)(hp:plc (valR p).den=some k) :
  mulR p (dig (10 ^ k),[49])=(wd ((valR p).num*((10 ^ k / (valR p).den:Nat):Int)),[49]):=by
 have e:(dig (10 ^ k),[49])=rd ((((10 ^ k:Nat):Int)):Rat):=by
  show _=(wd _,dig _);rw[Rat.num_intCast,Rat.den_intCast,wd_nat,dig_one]
 have hd:=(plc_dvd (k:=k) (Nat.pos_of_ne_zero (valR p).den_nz)).2 ⟨k,hp,Nat.le_refl _⟩;unfold mulR;rw[h,e,isR_rd,valR_rd,mul_ten hd];show (wd _,dig _)=_;rw[Rat.num_intCast,Rat.den_intCast,dig_one]
theorem abs_wd(z:Int):absW (wd z)=dig z.natAbs:=by unfold absW;rw[isW_wd,valW_wd];rfl
theorem sgn_lt{p:List UInt8×List UInt8}(h:isR p=true):(sgnR p<0↔(valR p).num<0):=by
 rw[←sgn_is h];unfold sgnW;rw[(isR_parts h).1,← valR_num h];show ((if _ then _ else if _ then _ else _)<(0:Int))↔_;split
 ·omega
 ·split<;>omega
end Go.Proofs.YtcebkcilkhebeaaGreatDoor
