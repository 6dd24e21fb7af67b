/- Own work. -/
import Derived.Test.YtcebkcilkhebeaaGreatDoorAllDec
set_option maxHeartbeats 4000000
set_option maxRecDepth 100000
namespace Go.Proofs.YtcebkcilkhebeaaGreatDoor
open Go.RowKit
theorem pow_bound{b n d D L:Nat}(hb:1<b)(hd:0<d)(h:b ^ n*d≤D)(hD:D<10 ^ L):n<4*L:=by
 have h1:2 ^ n≤b ^ n:=Nat.pow_le_pow_left hb n;have h2:d*2 ^ n≤D:=by
  refine Nat.le_trans ?_ h;rw[Nat.mul_comm d];exact Nat.mul_le_mul_right _ h1
 exact two_bound hd h2 hD
theorem on_bound{b e d L:Nat}(hb:1<b)(hd:0<d)(hD:d<10 ^ L):(onS b e d).2≤e*(4*L):=by
 obtain⟨h1,_,h3⟩:=on_spec (e:=e) hb hd;have h4:=pow_bound (n:=(strip b d).1) hb h3 (Nat.le_of_eq h1.symm) hD;exact Nat.mul_le_mul_left e (Nat.le_of_lt h4)
theorem div_step{d b t D:Nat}(hb:1<b)(h:d*2 ^ t≤D):d / b*2 ^ (t+1)≤D:=by
 have h1:d / b≤d / 2:=Nat.div_le_div_left hb (by decide);exact Nat.le_trans (Nat.mul_le_mul_right _ h1) (half_step h)
theorem n_div{d r b:Nat}(hl:(dig d).length≤100000)(hbl:(dig b).length≤100)(h0:0<b)(hr:d % b=r)(w:World) :
  Calls Tryz.prog 62 #[.string ⟨(dig d).toArray⟩,.string ⟨(dig b).toArray⟩] w (GiveSSB w (dig (d / b),dig r,true)):=by
 have c:=div_any ⟨(dig d).toArray⟩ ⟨(dig b).toArray⟩ w (by rw[size_dig];omega) (by rw[size_dig];omega);have e:divS (⟨(dig d).toArray⟩:ByteArray).data.toList (⟨(dig b).toArray⟩:ByteArray).data.toList=(dig (d / b),dig r,true):=by
  show divS (dig d) (dig b)=_;unfold divS;rw[isNat_dig,isNat_dig,valS_dig,valS_dig,decide_eq_true h0,hr];rfl
 rw[e]at c;exact c
theorem on_acc{b e d t D:Nat}(hb:1<b)(hd:0<d)(hr:d % b=0)(h:onS b e D=((onS b e d).1,e*t+(onS b e d).2)):onS b e D=((onS b e (d / b)).1,e*(t+1)+(onS b e (d / b)).2):=by
 rw[h,on_yes hb hd hr];exact Prod.ext rfl (by show e*t+(e+_)=e*(t+1)+_;rw[Nat.mul_succ,Nat.add_assoc])
theorem on_end{b e d t D:Nat}(hr:d % b≠0)(h:onS b e D=((onS b e d).1,e*t+(onS b e d).2)):onS b e D=(d,e*t):=by
 rw[h,on_no hr];rfl
def DivInv(w:World)(D b e:Nat)(a':Act)(w':World):Prop :=
 ∃ (d t:Nat) (q:Int) (u3 u4 u5 u9 u10 u11 u12 u13 u14 u15 u16 u17 u18 u19 u20 u21 u22 u23 u24 u25 u26:Value),a'={ tmps:=#[.string ⟨(dig d).toArray⟩,.string ⟨(dig b).toArray⟩,.int .i64 (e:Int),u3,u4,u5,.string ⟨#[]⟩,.int .i64 0,.int .i64 q,u9,u10,u11,u12,u13,u14,u15,u16,u17,u18,u19,u20,u21,u22,u23,u24,u25,u26],defers:=[] } ∧
  q=((e*t:Nat):Int)∧Hid (0<d∧(dig d).length≤100000∧d*2 ^ t≤D∧onS b e D=((onS b e d).1,e*t+(onS b e d).2))∧Below w.heap.size w w'
def DivPost(w:World)(D b e:Nat)(ev:Ending)(w':World):Prop:=ev=.returned (.tuple #[.string ⟨(dig (onS b e D).1).toArray⟩,.int .i64 ((onS b e D).2:Int)])∧Below w.heap.size w w'
theorem ret_si{a c:List UInt8}{b d:Int}(h1:a=c)(h2:b=d):Ending.returned (.tuple #[.string ⟨a.toArray⟩,.int .i64 b])=.returned (.tuple #[.string ⟨c.toArray⟩,.int .i64 d]):=by rw[h1,h2]
theorem divided_any(D b e:Nat)(w:World)(hD:0<D)(hl:(dig D).length≤100000)(hb:1<b)(hbl:(dig b).length≤100)(he:e≤100) :
  Calls Tryz.prog 93 #[.string ⟨(dig D).toArray⟩,.string ⟨(dig b).toArray⟩,.int .i64 (e:Int)] w (DivPost w D b e):=by
 have hDb:D<10 ^ (dig D).length:=by have:=valS_lt (dig_all D);rwa[valS_dig]at this
 have HDB:Hid (∀d t:Nat,0<d→d*2 ^ t≤D→e*t≤40000000):=zh fun d t h0 h=>by
  have h1:=two_bound h0 h hDb;have h2:e*t≤100*400000:=Nat.mul_le_mul he (by omega);omega
 have CD:Hid (∀ (d r:Nat),(dig d).length≤100000→d % b=r→∀w,Calls Tryz.prog 62 #[.string ⟨(dig d).toArray⟩,.string ⟨(dig b).toArray⟩] w (GiveSSB w (dig (d / b),dig r,true))):=zh fun d r h1 h2 w=>n_div h1 hbl (by omega) h2 w;have HB:=zh hb;have HD:=zh hD;have HL:=zh hl
 clear hDb hbl he hb hD hl;go_enter Tryz.func93,Tryz.ntmps93
 go_wp2
 refine wp_scope_jumps 0 (DivInv w D b e) (fun a' _=>numOf (a'.tmps.getD 0 undef)) rfl ?_ ?_
 ·have hbw:=Below.refl w.heap.size w;have HG:Hid (0<D∧(dig D).length≤100000∧D*2 ^ 0≤D∧onS b e D=((onS b e D).1,e*0+(onS b e D).2)):=zh ⟨HD.out,HL.out,by omega,by rw[Nat.mul_zero,Nat.zero_add]⟩;go_wp2_with fail
  go_step3
  by_cases hr:D % b=0
  ·have c:=CD.out D 0 HG.out.2.1 hr;have e0:=dig_nil;have hg:0<D / b:=Nat.div_pos (Nat.le_of_dvd HG.out.1 (Nat.dvd_of_mod_eq_zero hr)) (by have:=HB.out;omega);have hs:=div_step (t:=0) HB.out HG.out.2.2.1;have HN:Hid (0<D / b∧(dig (D / b)).length≤100000∧D / b*2 ^ (0+1)≤D∧onS b e D=((onS b e (D / b)).1,e*(0+1)+(onS b e (D / b)).2)):=zh ⟨hg,Nat.le_trans (dig_len_le (Nat.div_le_self D b)) HG.out.2.1,hs,on_acc HB.out HG.out.1 hr HG.out.2.2.2⟩;have hbd:=HDB.out _ _ hg hs;have hbe:e*(0+1)=e*0+e:=Nat.mul_succ e 0;have C:=zh c;clear c hg hs;go_wp2_with fail;refine(C.out _).mono ?_;rintro ev w3 ⟨rfl,b3⟩;go_wp2_with fail
   go_step3
   refine⟨rfl,D / b,0+1,_,_,_,_,_,_,_,_,_,_,_,_,_,_,_,_,_,_,_,_,_,_,rfl,?_,HN,hbw.trans (b3.mono hbw.size)⟩
   ·rw[hbe,Int.natCast_add,Int.natCast_mul];try simp
  ·have c:=CD.out D _ HG.out.2.1 rfl;have e0:=dig_ne48 hr;have e1:=dig_neB hr;have hv:=on_end hr HG.out.2.2.2;have hbd:=HDB.out _ _ HG.out.1 HG.out.2.2.1;have C:=zh c;have HV:=zh hv;clear c hr hv;go_wp2_with fail;refine(C.out _).mono ?_;rintro ev w3 ⟨rfl,b3⟩;go_wp2_with fail;simp only[Exit.jump]
   go_ret2
   exact⟨ret_si (by rw[HV.out]) (by rw[HV.out];simp),hbw.trans (b3.mono hbw.size)⟩
 ·rintro a' w2 ⟨d,t,q,u3,u4,u5,u9,u10,u11,u12,u13,u14,u15,u16,u17,u18,u19,u20,u21,u22,u23,u24,u25,u26,rfl,rfl,HG,hbw⟩;by_cases hr:d % b=0
  ·have c:=CD.out d 0 HG.out.2.1 hr;have e0:=dig_nil;have hg:0<d / b:=Nat.div_pos (Nat.le_of_dvd HG.out.1 (Nat.dvd_of_mod_eq_zero hr)) (by have:=HB.out;omega);have hs:=div_step (t:=t) HB.out HG.out.2.2.1;have HN:Hid (0<d / b∧(dig (d / b)).length≤100000∧d / b*2 ^ (t+1)≤D∧onS b e D=((onS b e (d / b)).1,e*(t+1)+(onS b e (d / b)).2)):=zh ⟨hg,Nat.le_trans (dig_len_le (Nat.div_le_self d b)) HG.out.2.1,hs,on_acc HB.out HG.out.1 hr HG.out.2.2.2⟩;have hbd:=HDB.out _ _ hg hs;have hbe:e*(t+1)=e*t+e:=Nat.mul_succ e t;have C:=zh c;clear c hg hs;go_wp2_with fail;refine(C.out _).mono ?_;rintro ev w3 ⟨rfl,b3⟩;go_wp2_with fail
   go_step3
   refine⟨rfl,⟨d / b,t+1,_,_,_,_,_,_,_,_,_,_,_,_,_,_,_,_,_,_,_,_,_,_,rfl,?_,HN,hbw.trans (b3.mono hbw.size)⟩,?_⟩
   ·rw[hbe,Int.natCast_add,Int.natCast_mul]
   ·show numOf (.string ⟨(dig (d / b)).toArray⟩)<numOf (.string ⟨(dig d).toArray⟩);rw[numOf_dig,numOf_dig];exact Nat.div_lt_self HG.out.1 HB.out
  ·have c:=CD.out d _ HG.out.2.1 rfl;have e0:=dig_ne48 hr;have e1:=dig_neB hr;have hv:=on_end hr HG.out.2.2.2;have hbd:=HDB.out _ _ HG.out.1 HG.out.2.2.1;have C:=zh c;have HV:=zh hv;clear c hr hv;go_wp2_with fail;refine(C.out _).mono ?_;rintro ev w3 ⟨rfl,b3⟩;go_wp2_with fail;simp only[Exit.jump]
   go_ret2
   exact⟨ret_si (by rw[HV.out]) (by rw[HV.out];simp),hbw.trans (b3.mono hbw.size)⟩
def powT:Nat→Nat×Nat
 | 0=>(536870912,29)
 | 1=>(2,1)
 | 2=>(244140625,12)
 | _=>(5,1)
def stT(d:Nat):Nat→Nat×Nat
 | 0=>onS 10 1 d
 | k+1=>((onS (powT k).1 (powT k).2 (stT d k).1).1,(stT d k).2+(onS (powT k).1 (powT k).2 (stT d k).1).2)
theorem stT_end(d:Nat):stT d 4=(leftS d,cntS d):=rfl
theorem powT_ok(k:Nat):1<(powT k).1∧(powT k).2≤29:=by
 unfold powT;split<;>decide
theorem stT_ok{d:Nat}(hd:0<d)(hl:(dig d).length≤100000)(k:Nat):0<(stT d k).1∧(stT d k).1≤d∧(stT d k).2≤(k+1)*12000000:=by
 obtain⟨L,hL,hD⟩:∃L,L≤100000∧d<10 ^ L:=⟨(dig d).length,hl,by have:=valS_lt (dig_all d);rwa[valS_dig]at this⟩
 induction k with
 | zero =>
  obtain⟨_,_,h3⟩:=on_spec (e:=1) (show 1<10 by decide) hd;have h4:=on_bound (e:=1) (show 1<10 by decide) hd hD;refine⟨h3,on_le (by decide) hd,?_⟩;show (onS 10 1 d).2≤_;omega
 | succ k ih =>
  obtain⟨i1,i2,i3⟩:=ih;obtain⟨p1,p2⟩:=powT_ok k;obtain⟨_,_,h3⟩:=on_spec (e:=(powT k).2) p1 i1;have h4:=on_bound (e:=(powT k).2) p1 i1 (Nat.lt_of_le_of_lt i2 hD);have h5:(powT k).2*(4*L)≤29*(4*L):=Nat.mul_le_mul_right _ p2;refine⟨h3,Nat.le_trans (on_le (e:=(powT k).2) p1 i1) i2,?_⟩;show (stT d k).2+(onS (powT k).1 (powT k).2 (stT d k).1).2≤_;omega
theorem dig_pow0:dig 536870912=[53,51,54,56,55,48,57,49,50]:=dig_valS (l:=[53,51,54,56,55,48,57,49,50]) (by decide)
theorem dig_pow1:dig 2=[50]:=dig_valS (l:=[50]) (by decide)
theorem dig_pow2:dig 244140625=[50,52,52,49,52,48,54,50,53]:=dig_valS (l:=[50,52,52,49,52,48,54,50,53]) (by decide)
theorem dig_pow3:dig 5=[53]:=dig_valS (l:=[53]) (by decide)
theorem divided_0(d:Nat)(w:World)(hd:0<d)(hl:(dig d).length≤100000) :
  Calls Tryz.prog 93 #[.string ⟨(dig d).toArray⟩,.string ⟨#[53,51,54,56,55,48,57,49,50]⟩,.int .i64 29] w (DivPost w d 536870912 29):=by
 have c:=divided_any d 536870912 29 w hd hl (by decide) (by rw[dig_pow0];decide) (by decide);rw[dig_pow0]at c;exact c
theorem divided_1(d:Nat)(w:World)(hd:0<d)(hl:(dig d).length≤100000) :
  Calls Tryz.prog 93 #[.string ⟨(dig d).toArray⟩,.string ⟨#[50]⟩,.int .i64 1] w (DivPost w d 2 1):=by
 have c:=divided_any d 2 1 w hd hl (by decide) (by rw[dig_pow1];decide) (by decide);rw[dig_pow1]at c;exact c
theorem divided_2(d:Nat)(w:World)(hd:0<d)(hl:(dig d).length≤100000) :
  Calls Tryz.prog 93 #[.string ⟨(dig d).toArray⟩,.string ⟨#[50,52,52,49,52,48,54,50,53]⟩,.int .i64 12] w (DivPost w d 244140625 12):=by
 have c:=divided_any d 244140625 12 w hd hl (by decide) (by rw[dig_pow2];decide) (by decide);rw[dig_pow2]at c;exact c
theorem divided_3(d:Nat)(w:World)(hd:0<d)(hl:(dig d).length≤100000) :
  Calls Tryz.prog 93 #[.string ⟨(dig d).toArray⟩,.string ⟨#[53]⟩,.int .i64 1] w (DivPost w d 5 1):=by
 have c:=divided_any d 5 1 w hd hl (by decide) (by rw[dig_pow3];decide) (by decide);rw[dig_pow3]at c;exact c
theorem idx_0(w:World):(Instr.index 94 (.agg #[.string ⟨#[53,51,54,56,55,48,57,49,50]⟩,.int .i64 29,.string ⟨#[50]⟩,.int .i64 1,.string ⟨#[50,52,52,49,52,48,54,50,53]⟩,.int .i64 12,.string ⟨#[53]⟩,.int .i64 1]) (.int .i64 0)).run Tryz.prog w=.ok (.agg #[.string ⟨#[53,51,54,56,55,48,57,49,50]⟩,.int .i64 29]) w:=by kernel_rfl
theorem idx_1(w:World):(Instr.index 94 (.agg #[.string ⟨#[53,51,54,56,55,48,57,49,50]⟩,.int .i64 29,.string ⟨#[50]⟩,.int .i64 1,.string ⟨#[50,52,52,49,52,48,54,50,53]⟩,.int .i64 12,.string ⟨#[53]⟩,.int .i64 1]) (.int .i64 1)).run Tryz.prog w=.ok (.agg #[.string ⟨#[50]⟩,.int .i64 1]) w:=by kernel_rfl
theorem idx_2(w:World):(Instr.index 94 (.agg #[.string ⟨#[53,51,54,56,55,48,57,49,50]⟩,.int .i64 29,.string ⟨#[50]⟩,.int .i64 1,.string ⟨#[50,52,52,49,52,48,54,50,53]⟩,.int .i64 12,.string ⟨#[53]⟩,.int .i64 1]) (.int .i64 2)).run Tryz.prog w=.ok (.agg #[.string ⟨#[50,52,52,49,52,48,54,50,53]⟩,.int .i64 12]) w:=by kernel_rfl
theorem idx_3(w:World):(Instr.index 94 (.agg #[.string ⟨#[53,51,54,56,55,48,57,49,50]⟩,.int .i64 29,.string ⟨#[50]⟩,.int .i64 1,.string ⟨#[50,52,52,49,52,48,54,50,53]⟩,.int .i64 12,.string ⟨#[53]⟩,.int .i64 1]) (.int .i64 3)).run Tryz.prog w=.ok (.agg #[.string ⟨#[53]⟩,.int .i64 1]) w:=by kernel_rfl
theorem places0_any(D:Nat)(w:World)(hd:0<D)(hl:(dig D).length≤100000)(hg:GoodD w) :
  Calls Tryz.prog 60 #[.string ⟨(dig D).toArray⟩] w (GiveIB w (plR (plc D))):=by
 obtain⟨t1,t2⟩:=trim_tens hd;have c0:∀w,Calls Tryz.prog 92 #[.string ⟨(dig D).toArray⟩,.string ⟨#[48]⟩] w fun e w'=>e=.returned (.string ⟨(dig (stT D 0).1).toArray⟩)∧w'=w:=fun w=>by
  have c:=Tryz.strings_TrimRight_one ⟨(dig D).toArray⟩ 48 (by decide) w (by rw[size_of];omega);have e:Lib.trimRightB (⟨(dig D).toArray⟩:ByteArray).data.toList 48=dig (stT D 0).1:=t1;rw[e]at c;exact c
 have hcnt:((dig D).length:Int)-((dig (stT D 0).1).length:Int)=((stT D 0).2:Int):=by
  rw[t2];show (((dig (stT D 0).1).length+(stT D 0).2:Nat):Int) - _=_;omega
 have hi:∀k,0<(stT D k).1∧(dig (stT D k).1).length≤100000∧(stT D k).2≤(k+1)*12000000:=fun k=>by
  obtain⟨h1,h2,h3⟩:=stT_ok hd hl k;exact⟨h1,Nat.le_trans (dig_len_le h2) hl,h3⟩
 have hw:=walk_is hd;have hi0:=(hi 0).2.1;have C0:=zh c0;have HI:=zh hi;have HW:=zh hw;have HE:=zh (stT_end D)
 obtain⟨_,p0,p1,p2,p3,p4,p5,p6,p7,_,_⟩:=hg;clear c0 hi hw t1 t2;go_enter Tryz.func60,Tryz.ntmps60;go_wp2_with fail;refine(C0.out _).mono ?_;rintro e w1 ⟨rfl,rfl⟩;go_wp2_with fail;clear p0 p1 p2 p3 p4 p5 p6 p7
 go_loopw [4,5,17] (fun a b i V=>∃k:Nat,k≤4∧a=.string ⟨(dig (stT D k).1).toArray⟩∧b=.int .i64 ((stT D k).2:Int)∧i=.int .i64 k∧Below w1.heap.size w1 V) (fun _ _ i _=>4-(intOf i).toNat)
 case atStart=>exact⟨0,Nat.zero_le _,rfl,(by first|rfl|(rw[hcnt])),rfl,Below.refl _ _⟩
 case round =>
  obtain⟨k,hk,rfl,rfl,rfl,hbw⟩:=hrel;clear hcnt;by_cases h4:k<4
  ·have hk':k=0∨k=1∨k=2∨k=3:=by omega
   clear hk h4;rcases hk' with rfl|rfl|rfl|rfl
   ·obtain⟨i1,i2,i3⟩:=HI.out 0;have i4:(stT D 0).2+(onS 536870912 29 (stT D 0).1).2≤24000000:=(HI.out 1).2.2;have c:=fun w=>divided_0 (stT D 0).1 w i1 i2;have C:=zh c;clear c i1 i2;go_wp2_with fail;rw[idx_0];go_wp2_with fail;refine(C.out _).mono ?_;rintro e w3 ⟨rfl,b3⟩;go_wp2_with fail;go_roundw
    case rel=>exact⟨1,by decide,rfl,(by first|rfl|go_num),rfl,(Below.alloc hbw hbw.size _).trans (b3.mono (Below.alloc hbw hbw.size _).size)⟩
    case measure=>simp[intOf]
   ·obtain⟨i1,i2,i3⟩:=HI.out 1;have i4:(stT D 1).2+(onS 2 1 (stT D 1).1).2≤36000000:=(HI.out 2).2.2;have c:=fun w=>divided_1 (stT D 1).1 w i1 i2;have C:=zh c;clear c i1 i2;go_wp2_with fail;rw[idx_1];go_wp2_with fail;refine(C.out _).mono ?_;rintro e w3 ⟨rfl,b3⟩;go_wp2_with fail;go_roundw
    case rel=>exact⟨2,by decide,rfl,(by first|rfl|go_num),rfl,(Below.alloc hbw hbw.size _).trans (b3.mono (Below.alloc hbw hbw.size _).size)⟩
    case measure=>simp[intOf]
   ·obtain⟨i1,i2,i3⟩:=HI.out 2;have i4:(stT D 2).2+(onS 244140625 12 (stT D 2).1).2≤48000000:=(HI.out 3).2.2;have c:=fun w=>divided_2 (stT D 2).1 w i1 i2;have C:=zh c;clear c i1 i2;go_wp2_with fail;rw[idx_2];go_wp2_with fail;refine(C.out _).mono ?_;rintro e w3 ⟨rfl,b3⟩;go_wp2_with fail;go_roundw
    case rel=>exact⟨3,by decide,rfl,(by first|rfl|go_num),rfl,(Below.alloc hbw hbw.size _).trans (b3.mono (Below.alloc hbw hbw.size _).size)⟩
    case measure=>simp[intOf]
   ·obtain⟨i1,i2,i3⟩:=HI.out 3;have i4:(stT D 3).2+(onS 5 1 (stT D 3).1).2≤60000000:=(HI.out 4).2.2;have c:=fun w=>divided_3 (stT D 3).1 w i1 i2;have C:=zh c;clear c i1 i2;go_wp2_with fail;rw[idx_3];go_wp2_with fail;refine(C.out _).mono ?_;rintro e w3 ⟨rfl,b3⟩;go_wp2_with fail;go_roundw
    case rel=>exact⟨4,by decide,rfl,(by first|rfl|go_num),rfl,(Below.alloc hbw hbw.size _).trans (b3.mono (Below.alloc hbw hbw.size _).size)⟩
    case measure=>simp[intOf]
  ·obtain rfl:k=4:=by omega
   clear hk h4;have i3:=(HI.out 4).2.2;by_cases h1:leftS D=1
   ·have hr:plR (plc D)=(((stT D 4).2:Int),true):=by rw[HW.out,if_pos h1,HE.out];rfl
    have e1:dig (stT D 4).1=[49]:=by rw[HE.out];show dig (leftS D)=_;rw[h1];exact dig_one
    have HR:=zh hr;clear hr h1;go_wp2_with fail
    go_ret2
    exact⟨by rw[HR.out]<;>rfl,hbw⟩
   ·have hr:plR (plc D)=(0,false):=by rw[HW.out,if_neg h1];rfl
    have e1:dig (stT D 4).1≠[49]:=by rw[HE.out];exact dig_ne49 h1
    have e2:(dig (stT D 4).1 == [49])=false:=beq_false_of_ne e1;have HR:=zh hr;clear hr h1;go_wp2_with fail
    go_ret2
    exact⟨by rw[HR.out]<;>rfl,hbw⟩
end Go.Proofs.YtcebkcilkhebeaaGreatDoor
